import PyProof.Rows.All
import Wide.All
import OpenK.AllK
import Wide.FinOn
import PyProof.P3Statements
import PyProof.Lay0
import Lean
import PyProof.EqAt
import PyProof.EqKinds
import PyProof.TupleCall
import PyProof.P3Eq
import PyProof.NeData
import KE.KEqDict
import PyProof.ListRange
import KE.KDictSum
import PyProof.AttrMissHeap
import PyProof.WalksS
import KE.KDictOf
import KE.KRevSl
import PyProof.ZipIter
import PyProof.WalksMore
import PyProof.Rows.FactsT2
import PyProof.Rows.SetFrom
import PyProof.Rows.SortStr
import KE.KDictList
import PyProof.FactsAll.set
import PyProof.CollectWalk
import KE.KSortTup
import PyProof.DictWalks
import PyProof.DictItems
import KE.KDictLaws
import PyProof.WalkInts
import PyProof.SeqI3
import KE.KRevIter
import PyProof.TupleOfGen
import PyProof.CollectIter
import PyProof.EnumMake
import PyProof.Rows.EnumRows
import PyProof.FString
import PyProof.MeetsStr
import PyProof.StrLaws
import PyProof.StrLawsJoin
import PyProof.StrOps
import PyProof.SliceStr2
import PyProof.StrLoop
import KE.KIntText
import PyProof.StrLawsTight
import PyProof.StrLawsChain
import PyProof.Rows.RuleB_pow
import PyProof.CallStr
import KE.KSortKey
import PyProof.StrLawsIn
import PySem.Challenge.RW_calm_k77_papers_written_and_read
set_option Elab.async false
set_option linter.all false
set_option maxRecDepth 100000
set_option maxHeartbeats 8000000
noncomputable section
abbrev hJ:=@PySem.wpAny_bind
abbrev hU:=@if_pos
abbrev hV:=@if_neg
abbrev hZ:=@List.length_map
abbrev ia:=@PySem.wpAny_pure
abbrev ic:=@Nat.le_refl
abbrev ie:=@List.mem_cons_self
abbrev ij:=@List.mem_cons_of_mem
abbrev ik:=@List.mem_singleton
abbrev il:=@List.length_append
abbrev ip:=@Nat.le_trans
abbrev iq:=@PySem.Heap.lt_size
abbrev ir:=@List.mem_cons
abbrev ix:=@PySem.Heap.get?_push_of_some
abbrev iA:=@List.length_cons
abbrev iB:=@List.size_toArray
abbrev iC:=@decide_eq_false
abbrev iD:=@Nat.lt_of_lt_of_le
abbrev iE:=@List.getElem?_eq_some_iff
abbrev iF:=@decide_eq_true
abbrev iG:=@decide_eq_true_eq
abbrev iH:=@PySem.wpAny_field
abbrev iI:=@PySem.Heap.get?_push_size
abbrev iJ:=@List.getElem?_set_ne
abbrev iK:=@Nat.le_of_lt
abbrev iL:=@List.map_cons
abbrev iM:=@List.getElem?_set_self
abbrev iN:=@List.mem_map
abbrev iO:=@Option.map_eq_some_iff
abbrev iP:=@List.length_singleton
abbrev iQ:=@Nat.ne_of_lt
abbrev iR:=@List.flatMap_cons
abbrev iS:=@PySem.boot_len
abbrev iT:=@PySem.wpAny_mono
abbrev iU:=@List.append_nil
abbrev iV:=@List.cons_ne_nil
abbrev iW:=@Int.natAbs_natCast
abbrev iX:=@congrArg
abbrev iY:=@beq_eq_false_iff_ne
abbrev iZ:=@Nat.zero_le
abbrev ja:=@Bool.and_eq_true
abbrev jb:=@beq_self_eq_true
abbrev jn:=@List.mem_append
abbrev js:=@List.mem_append_right
abbrev jv:=@PySem.Heap.get?_update_other
abbrev jA:=@Bool.eq_iff_iff
abbrev jB:=@PySem.W.kia_one
abbrev jC:=@List.getElem?_eq_getElem
abbrev jD:=@List.getElem?_map
abbrev jE:=@List.mem_of_getElem?
abbrev jF:=@List.length_replicate
abbrev jG:=@List.length_set
abbrev jH:=@List.length_range
abbrev jI:=@beq_iff_eq
abbrev jJ:=@List.getElem?_append_left
abbrev jK:=@List.map_nil
abbrev jL:=@PySem.F.plainAttrs_list
abbrev jM:=@Nat.lt_irrefl
abbrev jN:=@List.nodup_cons
abbrev jO:=@List.getElem?_append_right
abbrev jP:=@PySem.wpAny_newObj_type
abbrev jQ:=@Array.length_toList
abbrev jR:=@List.append_assoc
abbrev jS:=@List.getD_eq_getElem?_getD
abbrev jT:=@List.map_append
abbrev jU:=@PySem.Heap.size_push
abbrev jV:=@List.length_drop
abbrev jW:=@Nat.le_of_not_lt
abbrev jX:=@List.flatMap_nil
abbrev jY:=@Option.some.inj
abbrev jZ:=@Nat.lt_succ_self
abbrev kd:=@Nat.lt_of_le_of_lt
abbrev ke:=@List.length_reverse
abbrev kf:=@PySem.F.slot_list_append
abbrev ki:=@PySem.F.type_list_append
abbrev kl:=@Nat.ne_of_gt
abbrev km:=@PySem.Heap.get?_update_self
abbrev kn:=@PySem.wpAny_seqItems
abbrev ko:=@List.map_map
abbrev kq:=@List.mem_append_left
abbrev kr:=@PySem.wpAny_truthy_bool
abbrev ku:=@PySem.wpAny_holding
abbrev ky:=@PySem.wpAny_passesOwn
abbrev kA:=@PySem.wpAny_callSpecial?_slot
abbrev kB:=@PySem.wpAny_call_entry
abbrev kC:=@PySem.wpAny_pyIter_list
abbrev kD:=@Nat.sub_self
abbrev kE:=@PySem.Obj.data_mapFields
abbrev kF:=@PySem.wpAny_setField
abbrev kG:=@Array.getElem?_eq_some_iff
abbrev kH:=@PyProof.Rows.boot_tuple
abbrev kI:=@List.length_nil
abbrev kJ:=@Bool.false_ne_true
abbrev kK:=@PySem.codeAny_mono
abbrev kL:=@PyProof.Rows.slot_tuple_getitem
abbrev kM:=@List.reverse_cons
abbrev kN:=@List.drop_eq_getElem_cons
abbrev kO:=@Option.bind_eq_some_iff
abbrev kP:=@List.drop_zero
abbrev kQ:=@Nat.toDigits_of_lt_base
abbrev kR:=@List.filterMap_cons
abbrev kT:=@PySem.wpAny_standAt
abbrev kU:=@Nat.le_of_eq
abbrev kW:=@PySem.wpAny_Call_Name_kw
abbrev kX:=@List.length_take
abbrev kY:=@PySem.mem_of_lookup
abbrev kZ:=@List.lookup_cons
abbrev la:=@PySem.wpAny_pyIter_tuple
abbrev lb:=@Int.lt_or_le
abbrev lh:=@PySem.wpAny_setField_rec
abbrev lr:=@PySem.wpAny_onRaise
abbrev lz:=@PySem.wpAny_loadPart_at
abbrev lA:=@List.all_eq_true
abbrev lB:=@List.map_eq_nil_iff
abbrev lC:=@List.nil_append
abbrev lD:=@PySem.W.mg_of
abbrev lE:=@List.mem_range
abbrev lF:=@PySem.wpAny_execs_nil
abbrev lG:=@PyProof.Rows.callWith_type1
abbrev lH:=@PySem.W.kitx_list
abbrev lI:=@PySem.W.callWith_K
abbrev lJ:=@Option.isSome_iff_exists
abbrev lK:=@PySem.wpAny_typeOf
abbrev lL:=@List.replicate_succ
abbrev lM:=@Nat.lt_trans
abbrev lN:=@List.all_cons
abbrev lO:=@Nat.succ_le_succ
abbrev lP:=@List.drop_length
abbrev lQ:=@Nat.not_lt_zero
abbrev lR:=@Bool.or_eq_true
abbrev lS:=@List.take_length
abbrev lT:=@PySem.Obj.isFreed_of_fields
abbrev lU:=@PySem.F.slot_tuple_iterator_next
abbrev lV:=@PySem.F.slot_zip_next
abbrev lW:=@Nat.le_add_right
abbrev lX:=@Nat.sub_zero
abbrev lY:=@Bool.true_and
abbrev lZ:=@Nat.le_succ_of_le
abbrev mm:=@Nat.min_eq_left
abbrev mr:=@List.mem_of_mem_drop
abbrev mw:=@PySem.W.plainGet_of
abbrev my:=@PySem.W.kitx_dict
abbrev mB:=@PySem.F.slot_tuple_add
abbrev mC:=@PySem.F.entry_tuple_add
abbrev mD:=@PySem.F.args_tuple_add_2
abbrev mE:=@PySem.wpAny_sequenceKey
abbrev mF:=@PySem.Heap.IsSliceOf.new
abbrev mG:=@List.flatten_cons
abbrev mH:=@Array.getElem?_toList
abbrev mI:=@Nat.lt_succ_of_lt
abbrev mJ:=@PySem.wpAny_comprehension_free
abbrev mK:=@List.eq_of_mem_replicate
abbrev mL:=@List.ext_getElem?
abbrev mM:=@Int.toNat_natCast
abbrev mN:=@PySem.wpAny_updateSeq_pair
abbrev mO:=@PySem.F.slot_str_split
abbrev mP:=@PySem.F.entry_str_split
abbrev mQ:=@PySem.F.args_str_split_2
abbrev mR:=@PyProof.Rows.boot_all
abbrev mS:=@PyProof.Rows.boot_min
abbrev mT:=@Array.all_toList
abbrev mU:=@List.length_pos_iff
abbrev mV:=@List.getElem_mem
abbrev mW:=@List.length_eq_zero_iff
abbrev mX:=@List.flatMap_map
abbrev mY:=@PyProof.Rows.boot_isinstance
abbrev mZ:=@PySem.F.args_tuple_iterator_next_1
section
namespace C
open PySem
theorem j8 {α:Type} {w:α} {P:Prop} (h:none=some w):P:=nomatch h
theorem Bw {α:Type} {c:Prop} [Decidable c] {o:Option α} {w:α} (h:(if c then o else none)=some w):c/\o=some w:=by
 by_cases z:c
 ·rw [hU z] at h; exact ⟨z,h⟩
 ·rw [hV z] at h; exact j8 h
abbrev Key:=Sum Int Str
inductive T where
 | non | bl (b:Bool) | int (i:Int) | str (x:Str)
 | tup (xs:List T) | lst (xs:List T) | dic (ai:List (Key × T)) | obj (n:Nat)
 | adr (n:Nat)
instance:Inhabited T:=⟨.non⟩
inductive SO where
 | dic (ai:List (Key × T)) | lst (xs:List T) | dit (ai:List (List Key × T))
 | exc (C:Nat) (f:Str) (t:T)
 | ins (C:Nat) (fs:List (Str × T))
 | fdc (ai:List (Key × T))
abbrev Slot:=Option (T × Bool)
structure Sta where
 env:List Slot
 sto:List SO
abbrev M (α:Type):=Sta->Option (α × Sta)
def a3o (k:Key):List (Key × T)->Option T
 | []=>none
 | (q,t)::r=>if q=k then some t else a3o k r
def keyOf:T->Option Key
 | .int i=>some (.inl i)
 | .str x=>some (.inr x)
 | _=>none
mutual
def dat:T->Option PyData
 | .non=>some .none
 | .bl b=>some (.bool b)
 | .int i=>some (.int i)
 | .str x=>if PyData.canLay0 (.str x) then some (.str x) else none
 | .tup xs=>(Li xs).map .tuple
 | .lst xs=>(Li xs).map .list
 | .dic _=>none
 | .obj _=>none
 | .adr _=>none
def Li:List T->Option (List PyData)
 | []=>some []
 | x::r=>match dat x with
  | some a=>(Li r).map (a :: ·)
  | none=>none
end
noncomputable def eqD (a b:T):Option Bool:=match dat a with
 | some x=>match dat b with
  | some y=>if x.depth<=40 then some (PyData.eqv x y) else none
  | none=>none
 | none=>none
noncomputable def abd:List (Key × T)->List (Key × T)->Option Bool
 | [],_=>some true
 | (k,x)::r,ys=>match a3o k ys with
  | none=>some false
  | some y=>match eqD x y with
   | some e=>(abd r ys).map (e && ·)
   | none=>none
noncomputable def eqT:T->T->Option Bool
 | .dic a,.dic b=>if a.length=b.length then abd a b else some false
 | x,y=>eqD x y
def ak (t:T):M T:=fun s=>some (t,s)
noncomputable def au (i:Nat):M T:=fun s=>match s.env[i]? with
 | some (some (t,false))=>some (t,s)
 | some (some (t,true))=>some (t,{ s with env:=s.env.set i (some (t,false)) })
 | _=>none
def cj:M (List T):=fun s=>some ([],s)
noncomputable def aj (a:M T) (r:M (List T)):M (List T):=fun s=>match a s with
 | some (t,s1)=>match r s1 with
  | some (ts,s2)=>some (t::ts,s2)
  | none=>none
 | none=>none
def Rq:List Str->M (List T)
 | []=>cj
 | x::r=>aj (ak (.str x)) (Rq r)
noncomputable def gq (f:List T->Option T) (a:M (List T)):M T:=fun s=>match a s with
 | some (ts,s1)=>match f ts with
  | some t=>some (t,s1)
  | none=>none
 | none=>none
noncomputable def mUn (f:T->Option T) (a:M T):M T:=fun s=>match a s with
 | some (t,s1)=>match f t with
  | some u=>some (u,s1)
  | none=>none
 | none=>none
noncomputable def mOp (f:T->T->Option T) (a b:M T):M T:=fun s=>match a s with
 | some (t,s1)=>match b s1 with
  | some (u,s2)=>match f t u with
   | some v=>some (v,s2)
   | none=>none
  | none=>none
 | none=>none
abbrev Fn:=List T->List SO->Option (T × List SO)
noncomputable def f9 (F:Fn) (a:M (List T)):M T:=fun s=>match a s with
 | some (ts,s1)=>match F ts s1.sto with
  | some (t,sto)=>some (t,{ s1 with sto:=sto })
  | none=>none
 | none=>none
def cu (a:M T):M Bool:=fun s=>match a s with
 | some (.bl b,s1)=>some (b,s1)
 | _=>none
def Mi (a:M Bool):M Bool:=fun s=>match a s with
 | some (b,s1)=>some (!b,s1)
 | none=>none
noncomputable def Ep (a b:M Bool):M Bool:=fun s=>match a s with
 | some (true,s1)=>b s1
 | some (false,s1)=>some (false,s1)
 | none=>none
noncomputable def mOr (a b:M Bool):M Bool:=fun s=>match a s with
 | some (true,s1)=>some (true,s1)
 | some (false,s1)=>b s1
 | none=>none
def yd (a:M Bool):M T:=fun s=>match a s with
 | some (b,s1)=>some (.bl b,s1)
 | none=>none
noncomputable def mIf (c:M Bool) (a b:M T):M T:=fun s=>match c s with
 | some (true,s1)=>a s1
 | some (false,s1)=>b s1
 | none=>none
abbrev lim:Nat:=1000000
def a5a (i:Int):Bool:=decide (-(2 ^ 64)<i/\i<2 ^ 64)
noncomputable def uo:T->T->Option T
 | .int i,.int j=>some (.int (i+j))
 | .str x,.str y=>if x.length+y.length<lim then some (.str (x++y)) else none
 | .tup x,.tup y=>if x.length+y.length<lim then some (.tup (x++y)) else none
 | .lst x,.lst y=>if x.length+y.length<lim then some (.lst (x++y)) else none
 | _,_=>none
def a1a:T->T->Option T
 | .int i,.int j=>some (.int (i - j))
 | _,_=>none
noncomputable def a3n:T->T->Option T
 | .int i,.int j=>if a5a i||a5a j then some (.int (i * j)) else none
 | .str x,.int j=>if 0<=j/\j<=1000/\x.length<=100 then some (.str ⟨((List.replicate j.toNat x.cps.toList).flatten).toArray⟩) else none
 | _,_=>none
def Mf:T->T->Option T
 | .int i,.int j=>if 0<j then some (.int (i%j)) else none
 | _,_=>none
def fdl:Nat:=2 ^ 200
noncomputable def Ql:T->T->Option T
 | .int i,.int j=>if 0<j/\(j<1073741824\/j.natAbs<fdl) then some (.int (i / j)) else none
 | _,_=>none
noncomputable def Xg:T->T->Option T
 | .int i,.int j=>if 0<=j/\j<=1000/\i.natAbs<1000 then some (.int (i ^ j.toNat)) else none
 | _,_=>none
def Ey:T->Option T
 | .int i=>some (.int (-i))
 | _=>none
def ltT:T->T->Option T
 | .int i,.int j=>some (.bl (decide (i<j)))
 | _,_=>none
def leT:T->T->Option T
 | .int i,.int j=>some (.bl (decide (i<=j)))
 | _,_=>none
def gtT:T->T->Option T
 | .int i,.int j=>some (.bl (decide (j<i)))
 | _,_=>none
def geT:T->T->Option T
 | .int i,.int j=>some (.bl (decide (j<=i)))
 | _,_=>none
def eqO (x y:T):Option T:=match eqT x y with
 | some b=>some (.bl b)
 | none=>none
def neO (x y:T):Option T:=match eqT x y with
 | some b=>some (.bl (!b))
 | none=>none
noncomputable def ixI (n:Nat) (i:Int):Option Nat:=if 0<=i then (if i<n then some i.toNat else none) else if -(n:Int)<=i then some (i+n).toNat else none
noncomputable def dw:T->T->Option T
 | .tup xs,.int i=>(ixI xs.length i).bind (xs[·]?)
 | .lst xs,.int i=>(ixI xs.length i).bind (xs[·]?)
 | .str x,.int i=>if x.length<lim then (ixI x.cps.toList.length i).bind fun j=>(x.cps.toList[j]?).map fun c=>.str ⟨#[c]⟩ else none
 | .dic ai,k=>(keyOf k).bind (a3o · ai)
 | _,_=>none
noncomputable def Ax:List T->Option T
 | [.tup xs]=>some (.int xs.length)
 | [.lst xs]=>some (.int xs.length)
 | [.str x]=>if x.length<lim then some (.int x.length) else none
 | [.dic ai]=>some (.int ai.length)
 | _=>none
noncomputable def inL (x:T):List T->Option Bool
 | []=>some false
 | y::r=>match eqD y x with
  | some e=>(inL x r).map (e || ·)
  | none=>none
noncomputable def inT (x y:T):Option T:=match y with
 | .dic ai=>(keyOf x).map fun q=>.bl (a3o q ai).isSome
 | _=>if (dat x).isSome then (match y with
  | .tup ys=>(inL x ys).map .bl
  | .lst ys=>(inL x ys).map .bl
  | _=>none) else none
def Og (x y:T):Option T:=match inT x y with
 | some (.bl b)=>some (.bl (!b))
 | _=>none
def zp:List T->Option T
 | [.lst xs]=>some (.tup xs)
 | [.tup xs]=>some (.tup xs)
 | _=>none
def R7:List T->Option T
 | [.lst xs]=>some (.lst xs)
 | [.tup xs]=>some (.lst xs)
 | _=>none
def Xu:List T->Option (List Int)
 | []=>some []
 | .int i::r=>(Xu r).map (i :: ·)
 | _=>none
def abu:List T->Option T
 | [.lst xs]=>(Xu xs).map fun l=>.int l.sum
 | _=>none
def Ip:List T->Option (List Bool)
 | []=>some []
 | .bl b::r=>(Ip r).map (b :: ·)
 | _=>none
def a9r:List T->Option T
 | [.lst xs]=>(Ip xs).map fun l=>.bl (l.all id)
 | _=>none
def ah8:List T->Option T
 | [.lst xs]=>(Ip xs).map fun l=>.bl (l.any id)
 | _=>none
def Ug:List T->Option (List Str)
 | []=>some []
 | .str x::r=>(Ug r).map (x :: ·)
 | _=>none
noncomputable def isTup:List T->Option T
 | [.tup _]=>some (.bl true)
 | [.obj _]=>none
 | [.adr _]=>none
 | [_]=>some (.bl false)
 | _=>none
noncomputable def isInt:List T->Option T
 | [.int _]=>some (.bl true)
 | [.bl _]=>some (.bl true)
 | [.obj _]=>none
 | [.adr _]=>none
 | [_]=>some (.bl false)
 | _=>none
noncomputable def adt:List T->Option T
 | [.bl _]=>some (.bl true)
 | [.obj _]=>none
 | [.adr _]=>none
 | [_]=>some (.bl false)
 | _=>none
noncomputable def isStr:List T->Option T
 | [.str _]=>some (.bl true)
 | [.obj _]=>none
 | [.adr _]=>none
 | [_]=>some (.bl false)
 | _=>none
noncomputable def abf:T->Option T
 | .lst xs=>some (.lst xs.reverse)
 | .tup xs=>some (.tup xs.reverse)
 | _=>none
noncomputable def yq (i:Nat):M T:=fun s=>match s.env[i]? with
 | some (some (.lst xs,_))=>some (.int xs.length,s)
 | some (some (.dic xs,_))=>some (.int xs.length,s)
 | _=>none
def Az (i:Nat) (s:Sta):Bool:=match s.env[i]? with
 | some (some (.lst _,_))=>true
 | _=>false
noncomputable def ux (o k:M T):M T:=fun s=>match o s with
 | some (.obj n,s1)=>match k s1 with
  | some (.int i,s2)=>match s2.sto[n]? with
   | some (.lst xs)=>match (ixI xs.length i).bind (xs[·]?) with
    | some t=>some (t,s2)
    | none=>none
   | _=>none
  | _=>none
 | _=>none
noncomputable def G4 (o:M T):M T:=fun s=>match o s with
 | some (.obj n,s1)=>match s1.sto[n]? with
  | some (.lst xs)=>some (.int xs.length,s1)
  | _=>none
 | _=>none
noncomputable def Ci (a:M (List T)):M T:=fun s=>match a s with
 | some (ts,s1)=>some (.obj s1.sto.length,{ s1 with sto:=s1.sto++[.lst ts] })
 | none=>none
inductive Flow where
 | next | ret (t:T) | brk | cont
abbrev S:=Sta->Option (Flow × Sta)
def Ce:S:=fun s=>some (.next,s)
def nj (a b:S):S:=fun s=>match a s with
 | some (.next,s1)=>b s1
 | r=>r
def xg (e:M T):S:=fun s=>match e s with
 | some (t,s1)=>some (.ret t,s1)
 | none=>none
noncomputable def sIf (c:M Bool) (a b:S):S:=fun s=>match c s with
 | some (true,s1)=>a s1
 | some (false,s1)=>b s1
 | none=>none
def jz (i:Nat) (t:T) (own:Bool) (s:Sta):Sta:={ s with env:=s.env.set i (some (t,own)) }
noncomputable def nq (i:Nat) (e:M T):S:=fun s=>match e s with
 | some (t,s1)=>some (.next,jz i t false s1)
 | none=>none
noncomputable def sNew (i:Nat) (e:M T):S:=fun s=>match e s with
 | some (t,s1)=>some (.next,jz i t true s1)
 | none=>none
noncomputable def n6 (i:Nat) (e:M T):S:=fun s=>if Az i s then (match e s with
 | some (t,s1)=>match s1.env[i]? with
  | some (some (.lst xs,true))=>if xs.length<lim then some (.next,jz i (.lst (xs++[t])) true s1) else none
  | _=>none
 | none=>none) else none
def J4:T->Option (List T)
 | .lst xs=>some xs
 | .tup xs=>some xs
 | _=>none
noncomputable def Ai (i:Nat) (e:M T):S:=fun s=>if Az i s then (match e s with
 | some (t,s1)=>match J4 t,s1.env[i]? with
  | some ys,some (some (.lst xs,true))=>if xs.length+ys.length<lim then some (.next,jz i (.lst (xs++ys)) true s1) else none
  | _,_=>none
 | none=>none) else none
noncomputable def Jt (o k v:M T):S:=fun s=>match v s with
 | some (t,s1)=>match o s1 with
  | some (.obj n,s2)=>match k s2 with
   | some (.int i,s3)=>match s3.sto[n]? with
    | some (.lst xs)=>match ixI xs.length i with
     | some j=>some (.next,{ s3 with sto:=s3.sto.set n (.lst (xs.set j t)) })
     | none=>none
    | _=>none
   | _=>none
  | _=>none
 | none=>none
noncomputable def Ia (i:Nat) (v:M T):S:=fun s=>match s.env[i]? with
 | some (some (.obj n,false))=>match s.sto[n]? with
  | some (.lst _)=>match v s with
   | some (t,s1)=>match s1.sto[n]? with
    | some (.lst xs)=>if xs.length<lim then some (.next,{ s1 with sto:=s1.sto.set n (.lst (xs++[t])) }) else none
    | _=>none
   | none=>none
  | _=>none
 | _=>none
abbrev G:=T->Sta->Option Sta
def hName (i:Nat):G:=fun t s=>some (jz i t false s)
noncomputable def a81 (is:List Nat):G:=fun t s=>match t with
 | .tup xs=>if xs.length=is.length then some ((is.zip xs).foldl (fun s p=>jz p.1 p.2 false s) s) else none
 | _=>none
noncomputable def sGo (g:G) (m:M T):S:=fun s=>match m s with
 | some (t,s1)=>match g t s1 with
  | some s2=>some (.next,s2)
  | none=>none
 | none=>none
noncomputable def forL (g:G) (b:S):List T->S
 | []=>fun s=>some (.next,s)
 | t::r=>fun s=>match g t s with
  | some s1=>match b s1 with
   | some (.next,s2)=>forL g b r s2
   | some (.cont,s2)=>forL g b r s2
   | some (.brk,s2)=>some (.next,s2)
   | some (.ret v,s2)=>some (.ret v,s2)
   | none=>none
  | none=>none
noncomputable def U9 (g:G) (it:M (List T)) (b:S):S:=fun s=>match it s with
 | some (ts,s1)=>forL g b ts s1
 | none=>none
def rangeT (n:Nat):List T:=(List.range n).map fun (k:Nat)=>.int (k:Int)
noncomputable def Ad (a:M T):M (List T):=fun s=>match a s with
 | some (.int n,s1)=>if n.natAbs<lim then some (rangeT n.toNat,s1) else none
 | _=>none
noncomputable def Bg (a:M T):M (List T):=fun s=>match a s with
 | some (.lst xs,s1)=>if xs.length<lim then some (xs,s1) else none
 | some (.tup xs,s1)=>if xs.length<lim then some (xs,s1) else none
 | _=>none
def Yk (s:Slot):Slot:=match s with
 | some (t,_)=>some (t,false)
 | none=>none
def jt (s:Sta):Sta:={ s with env:=s.env.map Yk }
noncomputable def Fl (g:G) (c:M Bool) (e:M T):List T->Sta->List T->Option (List T × Sta)
 | [],s,acc=>some (acc,s)
 | t::r,s,acc=>match g t s with
  | some s1=>match c s1 with
   | some (true,s2)=>match e s2 with
    | some (u,s3)=>if acc.length<lim then Fl g c e r (jt s3) (acc++[u]) else none
    | none=>none
   | some (false,s2)=>Fl g c e r (jt s2) acc
   | none=>none
  | none=>none
def p7:M Bool:=fun s=>some (true,s)
noncomputable def jq (is:List Nat) (env:List Slot):List Slot:=is.foldl (fun e i=>match e[i]? with
 | some (some (t,_))=>e.set i (some (t,false))
 | _=>e) env
noncomputable def qm (nv:Nat) (aw:List Nat) (g:G) (it:M (List T)) (c:M Bool) (e:M T):M T:=fun s=>match it s with
 | some (ts,s1) =>
  let env:=jq aw s1.env
  match Fl g c e ts ⟨List.replicate nv none++aw.map (fun i=>(env[i]?).getD none),s1.sto⟩ [] with
  | some (us,s2)=>some (.lst us,⟨env,s2.sto⟩)
  | none=>none
 | none=>none
noncomputable def v8 (n:Nat) (b:S):Fn:=fun ts sto=>match b ⟨ts.map (fun t=>some (t,false))++List.replicate (n - ts.length) none,sto⟩ with
 | some (.ret t,s)=>some (t,s.sto)
 | some (.next,s)=>some (.non,s.sto)
 | _=>none
section
variable {s s':Sta} {t v:T} {a b:M T}
theorem Ko {f:T->T->Option T} (h:mOp f a b s=some (v,s')):∃ t s1 u,a s=some (t,s1)/\b s1=some (u,s')/\f t u=some v:=by
 unfold mOp at h;cases ha:a s with
 | none=>rw [ha] at h; cases h
 | some p =>
  obtain ⟨t,s1⟩:=p; rw [ha] at h; dsimp only at h;cases hb:b s1 with
  | none=>rw [hb] at h; cases h
  | some p =>
   obtain ⟨u,s2⟩:=p; rw [hb] at h; dsimp only at h;cases hf:f t u with
   | none=>rw [hf] at h; cases h
   | some w=>rw [hf] at h; cases h; exact ⟨t,s1,u,rfl,hb,hf⟩
theorem a0o {f:T->Option T} (h:mUn f a s=some (v,s')):∃ t,a s=some (t,s')/\f t=some v:=by
 unfold mUn at h;cases ha:a s with
 | none=>rw [ha] at h; cases h
 | some p =>
  obtain ⟨t,s1⟩:=p; rw [ha] at h; dsimp only at h;cases hf:f t with
  | none=>rw [hf] at h; cases h
  | some w=>rw [hf] at h; cases h; exact ⟨t,rfl,hf⟩
theorem G9 {f:List T->Option T} {a:M (List T)} (h:gq f a s=some (v,s')):∃ ts,a s=some (ts,s')/\f ts=some v:=by
 unfold gq at h;cases ha:a s with
 | none=>rw [ha] at h; cases h
 | some p =>
  obtain ⟨t,s1⟩:=p; rw [ha] at h; dsimp only at h;cases hf:f t with
  | none=>rw [hf] at h; cases h
  | some w=>rw [hf] at h; cases h; exact ⟨t,rfl,hf⟩
theorem Gz {r:M (List T)} {ts:List T} (h:aj a r s=some (ts,s')):∃ t s1 us,a s=some (t,s1)/\r s1=some (us,s')/\ts=t::us:=by
 unfold aj at h;cases ha:a s with
 | none=>rw [ha] at h; cases h
 | some p =>
  obtain ⟨t,s1⟩:=p; rw [ha] at h; dsimp only at h;cases hb:r s1 with
  | none=>rw [hb] at h; cases h
  | some p=>obtain ⟨u,s2⟩:=p; rw [hb] at h; cases h; exact ⟨t,s1,u,rfl,hb,rfl⟩
theorem a2b {F:Fn} {a:M (List T)} (h:f9 F a s=some (v,s')):∃ ts s1 sto,a s=some (ts,s1)/\F ts s1.sto=some (v,sto)/\s' = { s1 with sto:=sto }:=by
 unfold f9 at h;cases ha:a s with
 | none=>rw [ha] at h; cases h
 | some p =>
  obtain ⟨t,s1⟩:=p; rw [ha] at h; dsimp only at h;cases hf:F t s1.sto with
  | none=>rw [hf] at h; cases h
  | some w=>obtain ⟨w,sto⟩:=w; rw [hf] at h; cases h; exact ⟨t,s1,sto,rfl,hf,rfl⟩
theorem zy {b:Bool} (h:cu a s=some (b,s')):a s=some (.bl b,s'):=by
 unfold cu at h;cases ha:a s with
 | none=>rw [ha] at h; cases h
 | some p =>
  obtain ⟨t,s1⟩:=p; rw [ha] at h;cases t <;> first | (cases h; rfl) | (cases h)
theorem Jk {c:M Bool} (h:yd c s=some (v,s')):∃ b,c s=some (b,s')/\v=.bl b:=by
 unfold yd at h;cases ha:c s with
 | none=>rw [ha] at h; cases h
 | some p=>obtain ⟨t,s1⟩:=p; rw [ha] at h; cases h; exact ⟨t,rfl,rfl⟩
theorem Us {c:M Bool} {b:Bool} (h:Mi c s=some (b,s')):∃ k,c s=some (k,s')/\b=!k:=by
 unfold Mi at h;cases ha:c s with
 | none=>rw [ha] at h; cases h
 | some p=>obtain ⟨t,s1⟩:=p; rw [ha] at h; cases h; exact ⟨t,rfl,rfl⟩
theorem Vz {c d:M Bool} {b:Bool} (h:Ep c d s=some (b,s')):(∃ s1,c s=some (true,s1)/\d s1=some (b,s'))\/(c s=some (false,s')/\b=false):=by
 unfold Ep at h;cases ha:c s with
 | none=>rw [ha] at h; cases h
 | some p =>
  obtain ⟨k,s1⟩:=p; rw [ha] at h;cases k with
  | true=>exact .inl ⟨s1,rfl,h⟩
  | false=>cases h; exact .inr ⟨rfl,rfl⟩
theorem a0q {c d:M Bool} {b:Bool} (h:mOr c d s=some (b,s')):(∃ s1,c s=some (false,s1)/\d s1=some (b,s'))\/(c s=some (true,s')/\b=true):=by
 unfold mOr at h;cases ha:c s with
 | none=>rw [ha] at h; cases h
 | some p =>
  obtain ⟨k,s1⟩:=p; rw [ha] at h;cases k with
  | false=>exact .inl ⟨s1,rfl,h⟩
  | true=>cases h; exact .inr ⟨rfl,rfl⟩
theorem aak {c:M Bool} (h:mIf c a b s=some (v,s')):(∃ s1,c s=some (true,s1)/\a s1=some (v,s'))\/(∃ s1,c s=some (false,s1)/\b s1=some (v,s')):=by
 unfold mIf at h;cases ha:c s with
 | none=>rw [ha] at h; cases h
 | some p =>
  obtain ⟨k,s1⟩:=p; rw [ha] at h;cases k with
  | true=>exact .inl ⟨s1,rfl,h⟩
  | false=>exact .inr ⟨s1,rfl,h⟩
theorem a4h {i:Nat} (h:au i s=some (v,s')):(s.env[i]? = some (some (v,false))/\s'=s)\/(s.env[i]? = some (some (v,true))/\s' = { s with env:=s.env.set i (some (v,false)) }):=by
 unfold au at h;split at h
 ·rename_i t e; cases h; exact .inl ⟨e,rfl⟩
 ·rename_i t e; cases h; exact .inr ⟨e,rfl⟩
 ·cases h
end
mutual
theorem yu:∀ (t:T) {d:PyData},dat t=some d->d.canLay0=true
 | .non,_,h=>by simp only [dat] at h; cases h; simp only [PyData.canLay0]
 | .bl b,_,h=>by simp only [dat] at h; cases h; simp only [PyData.canLay0]
 | .int i,_,h=>by simp only [dat] at h; cases h; simp only [PyData.canLay0]
 | .str x,_,h=>by
  simp only [dat] at h;split at h
  ·rename_i hx; cases h; exact hx
  ·cases h
 | .tup xs,_,h=>by
  simp only [dat] at h;obtain ⟨l,e1,e2⟩:=iO.mp h;subst e2;simp only [PyData.canLay0];exact N5 xs e1
 | .lst xs,_,h=>by
  simp only [dat] at h;obtain ⟨l,e1,e2⟩:=iO.mp h;subst e2;simp only [PyData.canLay0];exact N5 xs e1
 | .dic _,_,h=>by simp only [dat] at h; cases h
 | .obj _,_,h=>by simp only [dat] at h; cases h
theorem N5:∀ (ts:List T) {l:List PyData},Li ts=some l->PyData.canLayAll0 l=true
 | [],_,h=>by simp only [Li] at h; cases h; simp only [PyData.canLayAll0]
 | x::r,_,h=>by
  simp only [Li] at h;split at h
  ·rename_i a ea;obtain ⟨l,e1,e2⟩:=iO.mp h;subst e2;simp only [PyData.canLayAll0];rw [yu x ea,N5 r e1]; rfl
  ·cases h
end
theorem a3i {x:T} {r:List T} {l:List PyData} (h:Li (x::r)=some l):∃ a l',dat x=some a/\Li r=some l'/\l=a::l':=by
 simp only [Li] at h;split at h
 ·rename_i a ea;obtain ⟨l,e1,e2⟩:=iO.mp h;exact ⟨a,l,ea,e1,e2.symm⟩
 ·cases h
theorem Rz {t u:T} {b:Bool} (h:eqD t u=some b):∃ x y,dat t=some x/\dat u=some y/\x.depth<=40/\b=PyData.eqv x y:=by
 unfold eqD at h;split at h
 ·rename_i x ex;split at h
  ·rename_i y ey;split at h
   ·rename_i hd; cases h; exact ⟨x,y,ex,ey,hd,rfl⟩
   ·cases h
  ·cases h
 ·cases h
theorem aa3 {t u:T} {b:Bool} (h:eqT t u=some b):(∃ x y,t=.dic x/\u=.dic y/\((x.length=y.length/\abd x y=some b)\/(x.length≠y.length/\b=false)))\/eqD t u=some b:=by
 unfold eqT at h;split at h
 ·split at h
  ·rename_i hl; exact .inl ⟨_,_,rfl,rfl,.inl ⟨hl,h⟩⟩
  ·rename_i hl; cases h; exact .inl ⟨_,_,rfl,rfl,.inr ⟨hl,rfl⟩⟩
 ·exact .inr h
end C
end
section
namespace L2
open PySem PySem.Spec PyProof.Rows
abbrev Key:=Sum Int Str
def Xk:Key->Value->Bool
 | .inl k,v=>Value.isInt k v
 | .inr x,v=>Value.isStrOf x v
def ahh (w:World):Key->Int
 | .inl k=>hashInt k
 | .inr x=>hashStr w x
theorem qt:∀ {k:Key} {v:Value},Xk k v=true->(∃ i t,k=Sum.inl i/\v=Value.int i t)\/(∃ x t,k=Sum.inr x/\v=Value.str x t)
 | .inl i,v,h=>by
  obtain ⟨t,e⟩:=Value.isInt_shape (k:=i) (v:=v) h;exact .inl ⟨i,t,rfl,e⟩
 | .inr x,v,h=>by
  obtain ⟨t,e⟩:=Value.isStrOf_shape (x:=x) (v:=v) h;exact .inr ⟨x,t,rfl,e⟩
theorem Z1 (i:Int) (t:Tok):Xk (.inl i) (.int i t)=true:=by simp [Xk,Value.isInt]
theorem a1u (x:Str) (t:Tok):Xk (.inr x) (.str x t)=true:=by simp [Xk,Value.isStrOf]
theorem adv (a b:Int):decide ((Sum.inl a:Key)=Sum.inl b)=(a==b):=by
 by_cases e:a=b
 ·subst e; simp
 ·have h:¬ (Sum.inl a:Key)=Sum.inl b:=fun q=>e (Sum.inl.inj q);rw [iC h];exact (iY.mpr e).symm
theorem ae0 (a b:Str):decide ((Sum.inr a:Key)=Sum.inr b)=decide (a=b):=by
 by_cases e:a=b
 ·subst e; simp
 ·have h:¬ (Sum.inr a:Key)=Sum.inr b:=fun q=>e (Sum.inr.inj q);rw [iC h,iC e]
theorem ac7 (a:Int) (b:Str):decide ((Sum.inl a:Key)=Sum.inr b)=false:=iC (fun q=>nomatch q)
theorem acd (a:Str) (b:Int):decide ((Sum.inr a:Key)=Sum.inl b)=false:=iC (fun q=>nomatch q)
noncomputable def Bk (prog:Program) (w:World):PySem.KeyKind prog w Key where
 is:=Xk
 hash:=ahh w
 inj:=fun v a b ha hb=>by
  rcases qt ha with ⟨i,t,rfl,rfl⟩ | ⟨x,t,rfl,rfl⟩
  ·rcases qt hb with ⟨j,u,rfl,e⟩ | ⟨y,u,rfl,e⟩
   ·injection e with e1 _; rw [e1]
   ·exact nomatch e
  ·rcases qt hb with ⟨j,u,rfl,e⟩ | ⟨y,u,rfl,e⟩
   ·exact nomatch e
   ·injection e with e1 _; rw [e1]
 byValue:=fun k v h=>by
  rcases qt h with ⟨i,t,rfl,rfl⟩ | ⟨x,t,rfl,rfl⟩ <;> rfl
 pyHash:=fun hv h=>by
  rcases qt hv with ⟨i,t,rfl,rfl⟩ | ⟨x,t,rfl,rfl⟩
  ·exact wpAny_pyHash_int h
  ·exact wpAny_pyHash_str h
 eqBool:=fun hu hv h=>by
  rcases qt hu with ⟨i,t,rfl,rfl⟩ | ⟨x,t,rfl,rfl⟩
  ·rcases qt hv with ⟨j,u,rfl,rfl⟩ | ⟨y,u,rfl,rfl⟩
   ·rw [adv] at h; exact wpAny_eqBool_int h
   ·rw [ac7] at h; exact SeqAt.EqAt.int_str i t y u _ _ _ _ h
  ·rcases qt hv with ⟨j,u,rfl,rfl⟩ | ⟨y,u,rfl,rfl⟩
   ·rw [acd] at h; exact SeqAt.EqAt.str_int x t j u _ _ _ _ h
   ·rw [ae0] at h; exact wpAny_eqBool_str h
 «strs»:=fun k x t v h=>by
  rcases qt h with ⟨i,u,rfl,e⟩ | ⟨y,u,rfl,e⟩
  ·exact nomatch e
  ·injection e with e1 _;subst e1;cases v <;> rfl
theorem Rw (prog:Program) (w:World) (i:Int) (t:Tok):(Bk prog w).is (.inl i) (.int i t)=true:=Z1 i t
theorem Sy (prog:Program) (w:World) (x:Str) (t:Tok):(Bk prog w).is (.inr x) (.str x t)=true:=a1u x t
end L2
namespace L2
open PySem PySem.Spec PyProof.Rows
inductive V where
 | non | bl (b:Bool) | int (i:Int) | str (x:Str) | byt (b:Array UInt8) | flt (b:UInt64) | ref (a:Addr) | ty (n:String)
 deriving DecidableEq
def RelV:V->Value->Prop
 | .non,u=>u=Value.none
 | .bl b,u=>u=Value.bool b
 | .int i,u=>∃ t,u=Value.int i t
 | .str x,u=>∃ t,u=Value.str x t
 | .byt b,u=>∃ t,u=Value.bytes b t
 | .flt b,u=>∃ t,u=Value.float b t
 | .ref a,u=>u=Value.ref a
 | .ty n,u=>u=Value.type n
abbrev Vals:List V->List Value->Prop:=Paired RelV
theorem Vals.length {xs:List V} {us:List Value} (r:Vals xs us):xs.length=us.length:=Paired.length r
theorem Vals.get:∀ {xs:List V} {us:List Value} {i:Nat} {x:V},Vals xs us->xs[i]? = some x->∃ u,us[i]? = some u/\RelV x u
 | _,_,_,_,.nil,e=>by simp at e
 | _,_,0,_,.cons r _,e=>by simp at e; subst e; exact ⟨_,rfl,r⟩
 | _,_,i+1,x,.cons _ t,e=>by
  obtain ⟨u,h1,h2⟩:=Vals.get (i:=i) (x:=x) t (by simpa using e);exact ⟨u,by simpa using h1,h2⟩
theorem Vals.set {x:V} {u:Value} (r:RelV x u):∀ {xs:List V} {us:List Value} (i:Nat),Vals xs us->Vals (xs.set i x) (us.set i u)
 | _,_,_,.nil=>.nil
 | _,_,0,.cons _ t=>.cons r t
 | _,_,i+1,.cons q t=>.cons q (Vals.set r i t)
theorem Vals.append {xs ys:List V} {us ws:List Value} (r:Vals xs us) (s:Vals ys ws):Vals (xs++ys) (us++ws):=by
 induction r with
 | nil=>exact s
 | cons r _ ih=>exact .cons r ih
theorem Vals.take:∀ {xs:List V} {us:List Value} (n:Nat),Vals xs us->Vals (xs.take n) (us.take n)
 | _,_,0,_=>.nil
 | _,_,_+1,.nil=>.nil
 | _,_,n+1,.cons r t=>.cons r (Vals.take n t)
theorem Vals.drop:∀ {xs:List V} {us:List Value} (n:Nat),Vals xs us->Vals (xs.drop n) (us.drop n)
 | _,_,0,r=>r
 | _,_,_+1,.nil=>.nil
 | _,_,n+1,.cons _ t=>Vals.drop n t
def Oe:Option V->Option Value->Prop
 | some v,some u=>RelV v u
 | none,none=>True
 | _,_=>False
def KV {κ:Type}:List (κ × V)->List (κ × Value)->Prop:=Paired fun (p:κ × V) (q:κ × Value)=>p.1=q.1/\RelV p.2 q.2
def kV:Key->V
 | .inl i=>.int i
 | .inr x=>.str x
inductive HO where
 | lst (xs:List V)
 | tup (xs:List V)
 | dK (ai:List (Key × V)) | dT (ai:List (List Key × V))
 | set (S:Int->Bool) (n:Nat)
 | ins (C dx:Addr) (fs:List (Str × V))
 | own (x:Addr)
 | xd (fs:List (Str × V))
 | met (f x:Addr)
 | rng (lo hi:Int)
 | frz (o:Obj) (u:HO)
 | tbl (ps:Array Value)
 | ext (φ:Heap->Prop)
abbrev Hp:=Addr->Option HO
def upd (H:Hp) (a:Addr) (o:HO):Hp:=fun b=>if b=a then some o else H b
theorem dj {H:Hp} {a:Addr} {o:HO}:upd H a o a=some o:=by unfold upd; rw [hU rfl]
theorem gw {H:Hp} {a b:Addr} {o:HO} (h:b≠a):upd H a o b=H b:=by unfold upd; rw [hV h]
theorem o8 {H:Hp} {a b:Addr} {o:HO} (h:H a=some o) (h':H b=none):a≠b:=by
 intro e; subst e; rw [h] at h'; cases h'
def a3z (h:Heap) (a:Addr) (items:Array Value):Prop:=∃ o,h.get? a=some o/\o.cls=.type "tuple" /\ o.dict=none/\∃ n,o.data=.seq items n
theorem a3z.is {h:Heap} {a:Addr} {items:Array Value} (x:a3z h a items):IsTup h a items:=let ⟨o,e,c,_,d⟩:=x; ⟨o,e,c,d⟩
theorem a3z.new (h:Heap) (items:Array Value):a3z (h.push { cls:=.type "tuple",data:=.seq items }) h.objs.size items:=⟨_,iI _ rfl,rfl,rfl,0,rfl⟩
section
variable (P:Program) (w:World)
def vq (H:Hp) (h:Heap) (a:Addr):HO->Prop
 | .lst xs=>xs.length<=sizeLine/\∃ (its:List Value) (n:Nat),Vals xs its/\h.get? a=some { cls:=.type "list",data:=.seq its.toArray n }
 | .tup xs=>xs.length<=sizeLine/\∃ its:List Value,Vals xs its/\a3z h a its.toArray
 | .dK ai=>ai.length<=sizeLine/\(a==sysModules)=false/\∃ vs,KV ai vs/\h.DictOf (Bk P w) a vs
 | .dT ai=>ai.length<=sizeLine/\(a==sysModules)=false/\∃ xs:List (List Key × Addr × Value),
   Paired (fun (p:List Key × V) (q:List Key × Addr × Value)=>p.1=q.1/\H q.2.1=some (.tup (p.1.map kV))/\RelV p.2 q.2.2) ai xs /\
   ∃ o es ep,h.get? a=some o/\o.ExactDict/\o.data=.dict es ep/\es.toList=xs.map (entryOfKey (tupleKind (Bk P w)))/\(xs.map (·.1)).Nodup
 | .set S n=>h.SetOf (intKind P w) a S n
 | .ins C dx fs=>H dx=some (.own a)/\fs.length<=1000/\dx≠a/\h.get? a=some (PySem.W.instObj C dx) /\
   ∃ mA,h.Ns1 dx mA/\(∀ f,Oe (fs.lookup f) (mA f))/\PySem.Within mA (fs.map (·.1))
 | .own _=>∃ o,h.get? a=some o
 | .xd fs=>∃ mA,h.Ns1 a mA/\∀ f,Oe (fs.lookup f) (mA f)
 | .rng lo hi=>∃ t u v,h.get? a=some { cls:=.type "range",data:=.fields #[.int lo t,.int hi u,.int 1 v] }
 | .frz o u=>h.get? a=some o/\vq H h a u
 | .tbl ps=>h.get? a=some { cls:=.none,data:=.fields ps }
 | .met f x=>h.get? a=some (PySem.W.methodObj (.ref f) (.ref x))
 | .ext φ=>φ h/\(∃ o,h.get? a=some o)/\∀ h1 h2:Heap,φ h1->(∀ o,h1.get? a=some o->h2.get? a=some o)->φ h2
def HOk (H:Hp) (h:Heap):Prop:=∀ a o,H a=some o->vq P w H h a o
end
section
variable {P:Program} {w:World} {H H':Hp} {h h':Heap} {a:Addr} {o:HO}
theorem vq.lt (x:vq P w H h a o):a<h.objs.size:=by
 cases o with
 | lst xs=>obtain ⟨_,_,_,_,e⟩:=x; exact iq e
 | tup xs=>obtain ⟨_,_,_,p⟩:=x; exact p.is.lt
 | dK ai=>obtain ⟨_,_,_,_,o,_,_,e,_⟩:=x; exact iq e
 | dT ai=>obtain ⟨_,_,_,_,o,_,_,e,_⟩:=x; exact iq e
 | set S n=>obtain ⟨o,_,_,_,e,_⟩:=x; exact iq e
 | ins C dx fs=>obtain ⟨_,_,_,e,_⟩:=x; exact iq e
 | own y=>obtain ⟨_,e⟩:=x; exact iq e
 | xd fs=>obtain ⟨_,⟨_,_,_,e,_⟩,_⟩:=x; exact iq e
 | rng lo hi=>obtain ⟨_,_,_,e⟩:=x; exact iq e
 | frz ob u=>obtain ⟨e,_⟩:=x; exact iq e
 | tbl ps=>exact iq (show h.get? a=some _ from x)
 | met f y=>exact iq (show h.get? a=some _ from x)
 | ext φ=>obtain ⟨_,⟨_,e⟩,_⟩:=x; exact iq e
theorem Paired.agr {α β:Type} {F G:α->β->Prop} {cT:List α} {dE:List β} (r:Paired F cT dE) (f:∀ a b,F a b->G a b):Paired G cT dE:=by
 induction r with
 | nil=>exact .nil
 | cons r _ ih=>exact .cons (f _ _ r) ih
theorem vq.stay (x:vq P w H h a o) (k:∀ b u,(b=a\/H b=some (.own a))->h.get? b=some u->h'.get? b=some u)
  (ho:∀ b,H b=some (.own a)->H' b=some (.own a)) (ht:∀ b xs,H b=some (.tup xs)->H' b=some (.tup xs)):vq P w H' h' a o:=by
 induction o with
 | lst xs=>obtain ⟨z,its,n,r,e⟩:=x; exact ⟨z,its,n,r,k _ _ (.inl rfl) e⟩
 | tup xs=>obtain ⟨z,its,r,ob,e,c⟩:=x; exact ⟨z,its,r,ob,k _ _ (.inl rfl) e,c⟩
 | dK ai=>obtain ⟨z,y,vs,r,ob,es,ep,e,c⟩:=x; exact ⟨z,y,vs,r,ob,es,ep,k _ _ (.inl rfl) e,c⟩
 | dT ai =>
  obtain ⟨z,y,xs,r,ob,es,ep,e,c⟩:=x;exact ⟨z,y,xs,Paired.agr r fun p q z=>⟨z.1,ht _ _ z.2.1,z.2.2⟩,ob,es,ep,k _ _ (.inl rfl) e,c⟩
 | set S n=>obtain ⟨ob,es,ep,t,e,c⟩:=x; exact ⟨ob,es,ep,t,k _ _ (.inl rfl) e,c⟩
 | ins C dx fs =>
  obtain ⟨d,z,ne,e,mA,⟨od,es,ep,e2,c⟩,r⟩:=x;exact ⟨ho _ d,z,ne,k _ _ (.inl rfl) e,mA,⟨od,es,ep,k _ _ (.inr d) e2,c⟩,r⟩
 | own y=>obtain ⟨ob,e⟩:=x; exact ⟨ob,k _ _ (.inl rfl) e⟩
 | xd fs=>obtain ⟨mA,⟨od,es,ep,e,c⟩,r⟩:=x; exact ⟨mA,⟨od,es,ep,k _ _ (.inl rfl) e,c⟩,r⟩
 | rng lo hi=>obtain ⟨t,u,v,e⟩:=x; exact ⟨t,u,v,k _ _ (.inl rfl) e⟩
 | frz ob u ih=>obtain ⟨e,q⟩:=x; exact ⟨k _ _ (.inl rfl) e,ih q⟩
 | tbl ps =>
  have e:h.get? a=some { cls:=.none,data:=.fields ps }:=x;show h'.get? a=some { cls:=.none,data:=.fields ps };exact k a _ (.inl rfl) e
 | met f y =>
  have e:h.get? a=some (PySem.W.methodObj (.ref f) (.ref y)):=x;show h'.get? a=some (PySem.W.methodObj (.ref f) (.ref y));exact k a _ (.inl rfl) e
 | ext φ=>obtain ⟨p,⟨o,e⟩,st⟩:=x; exact ⟨st _ _ p fun o q=>k _ _ (.inl rfl) q,⟨o,k _ _ (.inl rfl) e⟩,st⟩
theorem HOk.lt (x:HOk P w H h) (e:H a=some o):a<h.objs.size:=(x a o e).lt
theorem HOk.fresh (x:HOk P w H h) (e:h.objs.size<=a):H a=none:=by
 cases q:H a with
 | none=>rfl
 | some u=>exact absurd (iD (x.lt q) e) (jM _)
theorem HOk.kept (x:HOk P w H h) (k:∀ b u,h.get? b=some u->h'.get? b=some u):HOk P w H h':=fun a o e =>
 (x a o e).stay (fun b u _ q=>k b u q) (fun _ q=>q) fun _ _ q=>q
theorem HOk.laid (x:HOk P w H h) (k:∀ b u,h.get? b=some u->h'.get? b=some u) (hp:h.objs.size<=a) (new:vq P w (upd H a o) h' a o):HOk P w (upd H a o) h':=fun b u e=>by
 have hn:=x.fresh hp
 by_cases hb:b=a
 ·subst hb; rw [dj] at e; cases e; exact new
 ·rw [gw hb] at e;exact (x b u e).stay (fun c v _ q=>k c v q) (fun c q=>by rw [gw (o8 q hn)]; exact q) fun c xs q=>by rw [gw (o8 q hn)]; exact q
end
def Rd (H:Hp) (a:Addr) (u:HO):Prop:=H a=some u\/∃ o,H a=some (.frz o u)
theorem Rd.ok {P:Program} {w:World} {H:Hp} {h:Heap} {a:Addr} {u:HO} (r:Rd H a u) (x:HOk P w H h):vq P w H h a u:=by
 rcases r with r | ⟨o,r⟩
 ·exact x a u r
 ·obtain ⟨_,q⟩:=x a _ r;exact q
def Mut:Option HO->Prop
 | some (.lst _)=>True
 | some (.dK _)=>True
 | some (.dT _)=>True
 | some (.set _ _)=>True
 | some (.ins _ _ _)=>True
 | some (.ext _)=>True
 | _=>False
section
variable {P:Program} {w:World} {H:Hp} {h h':Heap} {x e:Addr} {o':HO}
theorem HOk.write (ok:HOk P w H h) (mu:Mut (H x)) (he:e=x\/H e=some (.own x)) (k:∀ b u,b≠e->h.get? b=some u->h'.get? b=some u) (cO:∃ u,h'.get? e=some u)
  (new:vq P w (upd H x o') h' x o'):HOk P w (upd H x o') h':=fun b u q=>by
 have dA:∀ c y,H c=some (.own y)->c≠x:=fun c y r z=>by subst z; rw [r] at mu; exact mu
 have dR:∀ c xs,H c=some (.tup xs)->c≠x:=fun c xs r z=>by subst z; rw [r] at mu; exact mu
 by_cases hb:b=x
 ·subst hb; rw [dj] at q; cases q; exact new
 ·rw [gw hb] at q
  by_cases hbe:b=e
  ·have q':H b=some (.own x):=by
    rcases he with z | z
    ·exact absurd (hbe.trans z) hb
    ·rw [hbe]; exact z
   rw [q] at q'; cases q';obtain ⟨v,hv⟩:=cO;exact ⟨v,by rw [hbe]; exact hv⟩
  ·refine (ok b u q).stay (fun c v hc r=>k c v ?_ r) (fun c r=>by rw [gw (dA c b r)]; exact r) fun c xs r=>by rw [gw (dR c xs r)]; exact r
   rcases hc with rfl | hc
   ·exact hbe
   ·rintro rfl;rcases he with z | z
    ·exact dA c b hc z
    ·rw [hc] at z; cases z; exact hb rfl
end
structure Un (fs ex:List Addr) (H H':Hp) (h h':Heap):Prop where
 keep:∀ b o,h.get? b=some o->H b=none->b∉fs->b∉ex->h'.get? b=some o
 slot:∀ b o,h.get? b=some o->H b=none->b∈fs->b∉ex->∃ sl,h'.get? b=some { o with slots:=sl }
 free:∀ b o,h.get? b=some o->H b=none->b∉ex->H' b=none
 there:∀ b o,h.get? b=some o->b∉ex->∃ o',h'.get? b=some o'
 tups:∀ b xs,H b=some (.tup xs)->H' b=some (.tup xs)
 frzs:∀ b o u,H b=some (.frz o u)->H' b=some (.frz o u)
 tbls:∀ b ps,H b=some (.tbl ps)->∃ more,H' b=some (.tbl (ps++more))
section
variable {fs cY ex gR:List Addr} {H H1 H2:Hp} {h h1 h2 h':Heap} {a x e:Addr} {o:HO}
theorem Un.any (u:Un fs ex H H1 h h1) {b:Addr} {ob:Obj} (q:h.get? b=some ob) (n:H b=none) (hx:b∉ex):∃ sl,h1.get? b=some { ob with slots:=sl }:=by
 by_cases hb:b∈fs
 ·exact u.slot b ob q n hb hx
 ·exact ⟨ob.slots,u.keep b ob q n hb hx⟩
theorem Un.kept (k:∀ b u,h.get? b=some u->h'.get? b=some u):Un fs ex H H h h' :=
 ⟨fun b ob q _ _ _=>k b ob q,fun b ob q _ _ _=>⟨ob.slots,k b ob q⟩,fun _ _ _ n _=>n,fun b ob q _=>⟨ob,k b ob q⟩,fun _ _ q=>q,fun _ _ _ q=>q,fun _ ps q=>⟨#[],by rw [q]; simp⟩⟩
theorem Un.refl:Un fs ex H H h h:=Un.kept fun _ _ q=>q
theorem Un.laid (k:∀ b u,h.get? b=some u->h'.get? b=some u) (hp:h.objs.size<=a) (hn:H a=none):Un fs ex H (upd H a o) h h' where
 keep:=fun b u q _ _ _=>k b u q
 slot:=fun b u q _ _ _=>⟨u.slots,k b u q⟩
 free:=fun b u q n _=>by rw [gw (iQ (iD (iq q) hp))]; exact n
 there:=fun b u q _=>⟨u,k b u q⟩
 tups:=fun b xs q=>by rw [gw (o8 q hn)]; exact q
 frzs:=fun b u xs q=>by rw [gw (o8 q hn)]; exact q
 tbls:=fun b ps q=>⟨#[],by rw [gw (o8 q hn),q]; simp⟩
theorem Un.write (mu:Mut (H x)) (he:e=x\/H e=some (.own x)) (k:∀ b u,b≠e->h.get? b=some u->h'.get? b=some u) (cO:∃ u,h'.get? e=some u):Un fs ex H (upd H x o) h h':=by
 have hx:∀ b,H b=none->b≠x:=fun b n z=>by subst z; rw [n] at mu; exact mu
 have hb:∀ b,H b=none->b≠e:=fun b n z=>by
  subst z;rcases he with r | r
  ·exact hx b n r
  ·rw [n] at r; cases r
 have hm:∀ b u,H b=some u->¬ Mut (some u)->b≠x:=fun b u q nm z=>by subst z; rw [q] at mu; exact nm mu
 refine ⟨fun b u q n _ _=>k b u (hb b n) q,fun b u q n _ _=>⟨u.slots,k b u (hb b n) q⟩,fun b u q n _=>by rw [gw (hx b n)]; exact n,fun b u q _=>?_,
  fun b xs q=>by rw [gw (hm b _ q fun z=>z)]; exact q,fun b u xs q=>by rw [gw (hm b _ q fun z=>z)]; exact q,fun b ps q=>⟨#[],by rw [gw (hm b _ q fun z=>z),q]; simp⟩⟩
 by_cases hbe:b=e
 ·subst hbe; exact cO
 ·exact ⟨u,k b u hbe q⟩
end
def trk (h:Heap) (H:Hp):List Addr:=(List.range h.objs.size).filter fun a=>(H a).isSome
def a5o (h:Heap) (H:Hp):Heap:=PySem.W.hideAll h (trk h H)
theorem Yq (h:Heap) (H:Hp):(a5o h H).objs.size=h.objs.size:=PySem.W.hideAll_size _ _
theorem a5n {h:Heap} {H:Hp} {b:Addr} {o:Obj} (e:h.get? b=some o) (n:H b=none):(a5o h H).get? b=some o :=
 PySem.W.hideAll_get _ e fun hm=>by
  have q:(H b).isSome=true:=(List.mem_filter.mp hm).2;rw [n] at q; simp at q
theorem ab3 {h:Heap} {H:Hp} {b:Addr} {o:Obj} (e:(a5o h H).get? b=some o):h.get? b=some o/\H b=none:=by
 have e':h.get? b=some o:=PySem.W.of_hideAll (trk h H) e;refine ⟨e',?_⟩;cases q:H b with
 | none=>rfl
 | some x =>
  have hm:b∈trk h H:=List.mem_filter.mpr ⟨lE.mpr (iq e'),by simp [q]⟩;have z:(a5o h H).get? b=none:=PySem.W.hideAll_none (trk h H) hm;rw [z] at e; cases e
end L2
namespace L2
open PySem PySem.Spec PyProof.Rows
structure Mod (K:PySem.W.Frag) (mg:Str->Option Value) (base:Heap):Prop where
 kin:K.In base
 glob:base.Ns mainGlobals mg
 blt:∃ mb,base.Ns builtinsNs mb/\∀ x:Str,x ≠ "__name__" -> mb x=bootBuiltins x
 nolimit:base.NoLimit
structure Cx where
 prog:Program
 w:World
 K:PySem.W.Frag
 mg:Str->Option Value
 base:Heap
 A:Around
 N:List Str
 s₀:Shared
 H₀:Hp
 env:Env
 outer:List Env
 stack:List Env
 ex:List Addr
 fn:Str->Bool
 calm:Bool
 pn:List (Addr × Obj)
 xe:Value->Shared->Prop
def frs (l:List Env):List Addr:=l.filterMap (·.frame)
abbrev Cx.fs (X:Cx):List Addr:=frs X.outer
def Vis (sc:Scope) (x:Str):Prop:=sc.names.lookup x=some .local\/sc.names.lookup x=some .cell\/sc.names.lookup x=some .free
def Loc (sc:Scope) (x:Str):Prop:=sc.names.lookup x=some .local\/sc.names.lookup x=some .cell
def Look (env:Env) (h:Heap) (m:Str->Option Value) (x:Str) (u:Value):Prop :=
 (env.kindOf x=some .local/\m x=some u)\/((env.kindOf x=some .cell\/env.kindOf x=some .free)/\∃ c,env.cells.lookup x=some c/\h.IsCell c (some u))
structure Cx.Ok (X:Cx):Prop where
 mod:Mod X.K X.mg X.base
 kind:X.env.scope.kind=.function
 glob:X.env.globals=mainGlobals
 blt:X.env.builtins=builtinsNs
 above:X.s₀.heap.objs.size<=X.env.locals
 inj:∀ x y c,X.env.cells.lookup x=some c->X.env.cells.lookup y=some c->x=y
 has:∀ x,(X.env.kindOf x=some .cell\/X.env.kindOf x=some .free)->∃ c,X.env.cells.lookup x=some c
 cab:∀ x c,X.fn x=true->X.env.cells.lookup x=some c->X.s₀.heap.objs.size<=c
 hd:X.calm=true->X.A.handled=none
 frames:X.A.frames=some X.stack
 stk:X.stack=X.outer\/(X.stack=X.env::X.outer/\X.env.frame=some X.env.locals)
 exf:∀ b∈X.ex,b≠X.env.locals/\∀ x c,X.env.cells.lookup x=some c->c≠b
 bs:∀ b o,X.base.get? b=some o->X.s₀.heap.get? b=some o/\X.H₀ b=none
 bsz:X.base.objs.size<=X.s₀.heap.objs.size
 noex:∀ b o,X.base.get? b=some o->b∉X.ex
 exfs:∀ b∈X.ex,b∉X.fs
 Yj:X.s₀.heap.FunFrames X.base X.outer
 frf:∀ b∈X.fs,X.H₀ b=none
structure Inv (X:Cx) (pins:List (Addr × Obj)) (σ:List (Option V)) (H:Hp) (s:Shared):Prop where
 ok:X.Ok
 os:s.os=X.s₀.os
 bare:AllBare s.gens
 base:Un X.fs X.ex X.H₀ H X.s₀.heap s.heap
 loc:∃ m,s.heap.Ns X.env.locals m/\∀ (i:Nat) (x:Str) (v:V),X.N[i]? = some x->σ[i]? = some (some v)->Vis X.env.scope x->∃ u,RelV v u/\Look X.env s.heap m x u
 cell:∀ x c,X.env.cells.lookup x=some c->∃ v,s.heap.IsCell c v
 free:H X.env.locals=none
 freeC:∀ x c,X.env.cells.lookup x=some c->H c=none
 pin:∀ p∈X.pn++pins,s.heap.get? p.1=some p.2/\H p.1=none/\p.1≠X.env.locals/\p.1∉X.fs/\∀ v,p.2.data≠.cell v
 hok:HOk X.prog X.w H s.heap
 len:σ.length=X.N.length
section
variable {X:Cx} {pins:List (Addr × Obj)} {σ:List (Option V)} {H H':Hp} {s:Shared} {h':Heap}
theorem Cx.Ok.ah5 (ok:X.Ok) {b:Addr} {o:Obj} (e:X.base.get? b=some o):b∉X.fs:=fun hb=>by
 have:=(ok.Yj.mem hb).1;rw [e] at this; cases this
theorem Inv.bs (I:Inv X pins σ H s):∀ b o,X.base.get? b=some o->s.heap.get? b=some o/\H b=none:=fun b o e =>
 ⟨I.base.keep b o (I.ok.bs b o e).1 (I.ok.bs b o e).2 (I.ok.ah5 e) (I.ok.noex b o e),I.base.free b o (I.ok.bs b o e).1 (I.ok.bs b o e).2 (I.ok.noex b o e)⟩
theorem Inv.bk (I:Inv X pins σ H s):∀ b o,X.base.get? b=some o->s.heap.get? b=some o:=fun b o e=>(I.bs b o e).1
theorem Inv.mod (I:Inv X pins σ H s):Mod X.K X.mg X.base:=I.ok.mod
theorem Inv.kIn (I:Inv X pins σ H s):X.K.In s.heap:=I.ok.mod.kin.keeps I.bk
theorem Inv.lt (I:Inv X pins σ H s):X.env.locals<s.heap.objs.size:=let ⟨_,hn,_⟩:=I.loc; hn.lt
theorem Inv.sz (I:Inv X pins σ H s):X.s₀.heap.objs.size<=s.heap.objs.size:=ip I.ok.above (iK I.lt)
theorem Inv.ahe (I:Inv X pins σ H s) {a:Addr} (h:s.heap.objs.size<=a):a∉X.fs:=fun hb=>by
 obtain ⟨_,o,ho,_⟩:=I.ok.Yj.mem hb;exact absurd (iD (iq ho) (ip I.sz h)) (jM _)
theorem Inv.cne (I:Inv X pins σ H s):∀ x c,X.env.cells.lookup x=some c->c≠X.env.locals:=fun x c e z=>by
 obtain ⟨v,o,ho,hd⟩:=I.cell x c e;obtain ⟨m,⟨o',es,ep,a5,bS,_⟩,_⟩:=I.loc;rw [z,a5] at ho; cases ho; rw [bS] at hd; cases hd
theorem Inv.Yj (I:Inv X pins σ H s):s.heap.FunFrames X.base X.outer:=by
 have all:∀ (l:List Env),(∀ b∈frs l,b∈X.fs)->X.s₀.heap.FunFrames X.base l->s.heap.FunFrames X.base l:=by
  intro l
  induction l with
  | nil=>intro _ _; trivial
  | cons env r ih =>
   intro hs hl;obtain ⟨hk,⟨L,o,hf,hn,ho,hd⟩,hr⟩:=hl;have hL:L∈X.fs:=hs L (by unfold frs; rw [kR,hf]; exact ie);obtain ⟨sl,e⟩:=I.base.slot L o ho (I.ok.frf L hL) hL fun z=>I.ok.exfs L z hL;exact ⟨hk,⟨L,_,hf,hn,e,hd⟩,ih (fun b hb=>hs b (by unfold frs; rw [kR,hf]; exact ij _ hb)) hr⟩
 exact all X.outer (fun _ hb=>hb) I.ok.Yj
theorem Inv.stack (I:Inv X pins σ H s):s.heap.FunFrames X.base X.stack:=by
 rcases I.ok.stk with e | ⟨e,hf⟩
 ·rw [e]; exact I.Yj
 ·rw [e];obtain ⟨m,hn,_⟩:=I.loc;refine .cons (by rw [I.ok.kind]; decide) hf hn ?_ I.Yj;exact Heap.get?_none_of_le (ip I.ok.bsz I.ok.above)
theorem Inv.Ra (I:Inv X pins σ H s):∀ b∈frs X.stack,b∈X.env.locals::X.fs:=fun b hb=>by
 rcases I.ok.stk with e | ⟨e,hf⟩
 ·rw [e] at hb; exact ij _ hb
 ·rw [e] at hb;unfold frs at hb;rw [kR,hf] at hb;exact hb
theorem Inv.Rv (I:Inv X pins σ H s):∀ b∈frs X.stack,H b=none:=fun b hb=>by
 rcases ir.mp (I.Ra b hb) with e | hb
 ·rw [e]; exact I.free
 ·obtain ⟨_,o,ho,_⟩:=I.ok.Yj.mem hb;exact I.base.free b o ho (I.ok.frf b hb) fun z=>I.ok.exfs b z hb
theorem Inv.step {g':Array GenState} {t':Nat} {d':Drawn} {ch:List Addr} (I:Inv X pins σ H s)
  (aV:∀ b∈ch,(b∈X.ex\/X.s₀.heap.objs.size<=b)/\b≠X.env.locals/\(∀ x c,X.env.cells.lookup x=some c->c≠b)/\∀ p∈X.pn++pins,p.1≠b)
  (keep:∀ b o,b≠X.env.locals->b∉X.fs->b∉ch->s.heap.get? b=some o->H b=none->h'.get? b=some o)
  (slot:∀ b o,b≠X.env.locals->b∈X.fs->b∉ch->s.heap.get? b=some o->H b=none->∃ sl,h'.get? b=some { o with slots:=sl }) (free:∀ b o,b∉ch->s.heap.get? b=some o->H b=none->H' b=none)
  (there:∀ b o,b∉ch->s.heap.get? b=some o->∃ o',h'.get? b=some o')
  (tups:∀ b xs,H b=some (.tup xs)->H' b=some (.tup xs)) (frzs:∀ b o u,H b=some (.frz o u)->H' b=some (.frz o u)) (tbls:∀ b ps,H b=some (.tbl ps)->∃ more,H' b=some (.tbl (ps++more)))
  (ns:∀ m,s.heap.Ns X.env.locals m->h'.Ns X.env.locals m) (hok:HOk X.prog X.w H' h') (hg:AllBare g') :
  Inv X pins σ H' { s with heap:=h',gens:=g',drawn:=d',toks:=t' }:=by
 have e7:∀ b o,X.s₀.heap.get? b=some o->b≠X.env.locals:=fun b o e=>iQ (iD (iq e) I.ok.above)
 have dH:∀ b o,X.s₀.heap.get? b=some o->b∉X.ex->b∉ch:=fun b o e hx hb=>by
  rcases (aV b hb).1 with z | z
  ·exact hx z
  ·exact absurd (iD (iq e) z) (jM _)
 have cellK:∀ x c,X.env.cells.lookup x=some c->∀ v,s.heap.IsCell c v->h'.IsCell c v:=fun x c e v z9=>by
  obtain ⟨o,ho,hd⟩:=z9;have bW:c∉ch:=fun z=>(aV c z).2.2.1 x c e rfl
  by_cases hc:c∈X.fs
  ·obtain ⟨sl,q⟩:=slot c o (I.cne x c e) hc bW ho (I.freeC x c e);exact ⟨_,q,hd⟩
  ·exact ⟨o,keep c o (I.cne x c e) hc bW ho (I.freeC x c e),hd⟩
 refine ⟨I.ok,I.os,hg,⟨fun b o e n hb hx=>?_,fun b o e n hb hx=>?_,fun b o e n hx=>?_,fun b o e hx=>?_,fun b xs e=>tups b xs (I.base.tups b xs e),fun b o xs e=>frzs b o xs (I.base.frzs b o xs e),fun b ps e=>?_⟩,?_,fun x c e=>?_,?_,fun x c e=>?_,fun p hp=>?_,hok,I.len⟩
 ·exact keep b o (e7 b o e) hb (dH b o e hx) (I.base.keep b o e n hb hx) (I.base.free b o e n hx)
 ·obtain ⟨sl,e1⟩:=I.base.slot b o e n hb hx;obtain ⟨sl',e2⟩:=slot b _ (e7 b o e) hb (dH b o e hx) e1 (I.base.free b o e n hx);exact ⟨sl',e2⟩
 ·obtain ⟨o',e1⟩:=I.base.there b o e hx;exact free b o' (dH b o e hx) e1 (I.base.free b o e n hx)
 ·obtain ⟨o',e1⟩:=I.base.there b o e hx;exact there b o' (dH b o e hx) e1
 ·obtain ⟨m1,e1⟩:=I.base.tbls b ps e;obtain ⟨m2,e2⟩:=tbls b _ e1;exact ⟨m1++m2,by rw [e2,Array.append_assoc]⟩
 ·obtain ⟨m,hn,hl⟩:=I.loc;refine ⟨m,ns m hn,fun i x v e1 e2 e3=>?_⟩;obtain ⟨u,r,l⟩:=hl i x v e1 e2 e3;refine ⟨u,r,?_⟩;rcases l with l | ⟨k,c,e,z⟩
  ·exact .inl l
  ·exact .inr ⟨k,c,e,cellK x c e _ z⟩
 ·obtain ⟨v,z⟩:=I.cell x c e;exact ⟨v,cellK x c e v z⟩
 ·obtain ⟨m,⟨o,_,_,ho,_⟩,_⟩:=I.loc;exact free _ o (fun z=>(aV _ z).2.1 rfl) ho I.free
 ·obtain ⟨v,o,ho,hd⟩:=I.cell x c e;exact free c o (fun z=>(aV c z).2.2.1 x c e rfl) ho (I.freeC x c e)
 ·obtain ⟨e,n,ne,nf,d⟩:=I.pin p hp;have bW:p.1∉ch:=fun z=>(aV p.1 z).2.2.2 p hp rfl;exact ⟨keep p.1 p.2 ne nf bW e n,free p.1 p.2 bW e n,ne,nf,d⟩
theorem Inv.un {t':Nat} (I:Inv X pins σ H s) (u:Un X.fs [] H H' s.heap h') (hok:HOk X.prog X.w H' h'):Inv X pins σ H' { s with heap:=h',toks:=t' }:=by
 obtain ⟨m,⟨o,es,ep,ho,r⟩,_⟩:=id I.loc;obtain ⟨sl,hL⟩:=u.any ho I.free (by simp)
 exact I.step (g':=s.gens) (d':=s.drawn) (ch:=[]) (fun _ z=>nomatch z) (fun b o _ hb _ e n=>u.keep b o e n hb (by simp)) (fun b o _ hb _ e n=>u.slot b o e n hb (by simp)) (fun b o _ e n=>u.free b o e n (by simp)) (fun b o _ e=>u.there b o e (by simp)) u.tups u.frzs u.tbls (fun m' hm=>by
  obtain ⟨o',bO,ep',a5,r'⟩:=hm;rw [ho] at a5; cases a5;exact ⟨_,bO,ep',hL,r'⟩) hok I.bare
theorem Inv.call {g':Array GenState} {t':Nat} {d':Drawn} {ch:List Addr} (I:Inv X pins σ H s) (u:Un (frs X.stack) ch H H' s.heap h') (hok:HOk X.prog X.w H' h') (hg:AllBare g')
  (aV:∀ b∈ch,(b∈X.ex\/X.s₀.heap.objs.size<=b)/\b≠X.env.locals/\(∀ x c,X.env.cells.lookup x=some c->c≠b)/\∀ p∈X.pn++pins,p.1≠b) :
  Inv X pins σ H' { s with heap:=h',gens:=g',drawn:=d',toks:=t' }:=by
 obtain ⟨m,⟨o,es,ep,ho,r⟩,_⟩:=id I.loc;obtain ⟨sl,hL⟩:=u.any ho I.free fun z=>(aV _ z).2.1 rfl
 exact I.step (ch:=ch) aV (fun b o hL hb hc e n=>u.keep b o e n (fun z=>(ir.mp (I.Ra b z)).elim hL hb) hc) (fun b o _ _ hc e n=>u.any e n hc) (fun b o hc e n=>u.free b o e n hc) (fun b o hc e=>u.there b o e hc) u.tups u.frzs u.tbls (fun m' hm=>by
  obtain ⟨o',bO,ep',a5,r'⟩:=hm;rw [ho] at a5; cases a5;exact ⟨_,bO,ep',hL,r'⟩) hok hg
theorem Inv.turned {t':Nat} {it:Addr} (I:Inv X pins σ H s) (k:∀ b o,b≠it->s.heap.get? b=some o->h'.get? b=some o) (hn:H it=none) (hL:it≠X.env.locals)
  (h1:it∈X.ex\/X.s₀.heap.objs.size<=it) (h2:∀ x c,X.env.cells.lookup x=some c->c≠it) (h3:∀ p∈X.pn++pins,p.1≠it):Inv X pins σ H { s with heap:=h',toks:=t' }:=by
 have fk:∀ b u,H b=some u->b≠it:=fun b u e z=>by rw [z,hn] at e; cases e
 refine I.step (g':=s.gens) (d':=s.drawn) (ch:=[it]) (fun b hb=>?_) (fun b o _ _ hc e _=>k b o (fun z=>hc (by simp [z])) e) (fun b o _ _ hc e _=>⟨o.slots,k b o (fun z=>hc (by simp [z])) e⟩) (fun _ _ _ _ n=>n)
  (fun b o hc e=>⟨o,k b o (fun z=>hc (by simp [z])) e⟩) (fun _ _ e=>e) (fun _ _ _ e=>e) (fun b ps e=>⟨#[],by rw [e]; simp⟩) (fun m hm=>?_) (fun b u e=>?_) I.bare
 ·have e:b=it:=by simpa using hb
  subst e;exact ⟨h1,hL,h2,h3⟩
 ·obtain ⟨o,es,ep,ho,r⟩:=hm;exact ⟨o,es,ep,k _ o (Ne.symm hL) ho,r⟩
 ·refine (I.hok b u e).stay (fun c v hc q=>k c v ?_ q) (fun _ q=>q) fun _ _ q=>q;rcases hc with z | z
  ·rw [z]; exact fk b u e
  ·exact fk c _ z
theorem Inv.tok (I:Inv X pins σ H s) (t:Nat):Inv X pins σ H { s with toks:=t }:=I.un (h':=s.heap) (t':=t) Un.refl I.hok
theorem Inv.kept {t':Nat} (I:Inv X pins σ H s) (k:∀ b u,s.heap.get? b=some u->h'.get? b=some u):Inv X pins σ H { s with heap:=h',toks:=t' }:=I.un (Un.kept k) (I.hok.kept k)
theorem Inv.laid {a:Addr} {o:HO} {t':Nat} (I:Inv X pins σ H s) (k:∀ b u,s.heap.get? b=some u->h'.get? b=some u) (hp:s.heap.objs.size<=a) (new:vq X.prog X.w (upd H a o) h' a o) :
  Inv X pins σ (upd H a o) { s with heap:=h',toks:=t' }:=I.un (Un.laid k hp (I.hok.fresh hp)) (I.hok.laid k hp new)
theorem Inv.write {x e:Addr} {o:HO} {t':Nat} (I:Inv X pins σ H s) (mu:Mut (H x)) (he:e=x\/H e=some (.own x)) (k:∀ b u,b≠e->s.heap.get? b=some u->h'.get? b=some u) (cO:∃ u,h'.get? e=some u)
  (new:vq X.prog X.w (upd H x o) h' x o):Inv X pins σ (upd H x o) { s with heap:=h',toks:=t' }:=I.un (Un.write mu he k cO) (I.hok.write mu he k cO new)
theorem Inv.Fy {pins':List (Addr × Obj)} (I:Inv X pins σ H s) (h:∀ p∈pins',s.heap.get? p.1=some p.2/\H p.1=none/\p.1≠X.env.locals/\p.1∉X.fs/\∀ v,p.2.data≠.cell v):Inv X pins' σ H s :=
 ⟨I.ok,I.os,I.bare,I.base,I.loc,I.cell,I.free,I.freeC,fun p hp=>(jn.mp hp).elim (fun z=>I.pin p (kq _ z)) (h p),I.hok,I.len⟩
theorem V4 {N:List Str} (hN:N.Nodup) {i j:Nat} {x:Str} (a:N[i]? = some x) (b:N[j]? = some x):i=j:=by
 obtain ⟨h1,e1⟩:=iE.mp a;obtain ⟨h2,e2⟩:=iE.mp b;exact (List.getElem_inj hN).mp (e1.trans e2.symm)
theorem a2d {M:Model} {A:Around} {E:Value->Shared->Prop} {i:Nat} {x:Str} {v:V} {u:Value} {Q:Unit->Shared->Prop} (I:Inv X pins σ H s) (hN:X.N.Nodup) (hi:X.N[i]? = some x) (hx:Loc X.env.scope x) (r:RelV v u)
  (h:∀ s',Inv X pins (σ.set i (some v)) H s'->(∃ a,Heap.SameBut a s.heap s'.heap/\(a=X.env.locals\/X.env.cells.lookup x=some a))->Q () s') (hf:X.fn x=true\/X.env.scope.names.lookup x=some .local:=by first | exact .inl rfl | exact .inr rfl | assumption):wpAny M A (storeName X.env x u) Q E s:=by
 obtain ⟨m,hn,hl⟩:=id I.loc;have eK:(X.env.scope.kind == .class||(X.env.scope.kind == .module&&X.env.locals != X.env.globals))=false:=by rw [I.ok.kind]; rfl
 have dn:i<σ.length:=by rw [I.len]; exact (iE.mp hi).1
 have cne:=I.cne
 have tracked:∀ {a:Addr} {h':Heap},(∃ o,s.heap.get? a=some o/\H a=none)->Heap.SameBut a s.heap h'->HOk X.prog X.w H h':=fun {a h'} ha hs b ob e=>by
  obtain ⟨_,_,hfree⟩:=ha;refine (I.hok b ob e).stay (fun c w' hc q=>(hs.2 c ?_).trans q) (fun _ q=>q) fun _ _ q=>q;rintro rfl;rcases hc with rfl | hc
  ·rw [hfree] at e; cases e
  ·rw [hfree] at hc; cases hc
 rcases hx with hk | hk
 ·refine wpAny_storeName_local hk hn (fun h' fM hs=>?_) eK;obtain ⟨oL,_,_,hoL,_⟩:=id hn;refine h _ ⟨I.ok,I.os,I.bare,⟨fun b o e n hb hx=>?_,fun b o e n hb hx=>?_,I.base.free,fun b o e hx=>?_,I.base.tups,I.base.frzs,I.base.tbls⟩,⟨_,fM,fun j y v' e1 e2 e3=>?_⟩,fun y c e=>?_,I.free,I.freeC,fun p hp=>?_,tracked ⟨oL,hoL,I.free⟩ hs,by simpa using I.len⟩ ⟨_,hs,.inl rfl⟩
  ·exact (hs.2 b (iQ (iD (iq e) I.ok.above))).trans (I.base.keep b o e n hb hx)
  ·obtain ⟨sl,e1⟩:=I.base.slot b o e n hb hx;exact ⟨sl,(hs.2 b (iQ (iD (iq e) I.ok.above))).trans e1⟩
  ·obtain ⟨o',e1⟩:=I.base.there b o e hx;exact ⟨o',(hs.2 b (iQ (iD (iq e) I.ok.above))).trans e1⟩
  ·by_cases hj:j=i
   ·subst hj;rw [hi] at e1; cases e1;rw [iM dn] at e2;cases e2;exact ⟨u,r,.inl ⟨hk,by simp⟩⟩
   ·rw [iJ (Ne.symm hj)] at e2;obtain ⟨u',r',q⟩:=hl j y v' e1 e2 e3;refine ⟨u',r',?_⟩;rcases q with ⟨k,e⟩ | ⟨k,c,e,z⟩
    ·refine .inl ⟨k,?_⟩;have:y≠x:=fun e=>hj (V4 hN e1 (e ▸ hi));simp [this,e]
    ·exact .inr ⟨k,c,e,z.sameBut hs (cne y c e)⟩
  ·obtain ⟨w',z⟩:=I.cell y c e;exact ⟨w',z.sameBut hs (cne y c e)⟩
  ·obtain ⟨e,n,ne,nf,d⟩:=I.pin p hp;exact ⟨(hs.2 p.1 ne).trans e,n,ne,nf,d⟩
 ·have eF:X.fn x=true:=by
   rcases hf with z | z
   ·exact z
   ·rw [z] at hk; cases hk
  obtain ⟨c,hc⟩:=I.ok.has x (.inl hk);obtain ⟨w',z⟩:=I.cell x c hc;refine wpAny_storeName_cell I.ok.kind hk hc z (fun h' b8 hs=>?_);obtain ⟨oc,hoc,hocd⟩:=id z;refine h { s with heap:=h' } ⟨I.ok,I.os,I.bare,⟨fun b o e n hb hx=>?_,fun b o e n hb hx=>?_,I.base.free,fun b o e hx=>?_,I.base.tups,I.base.frzs,I.base.tbls⟩,⟨m,hn.sameBut hs (Ne.symm (cne x c hc)),fun j y v' e1 e2 e3=>?_⟩,fun y c' e=>?_,I.free,I.freeC,fun p hp=>?_,tracked ⟨oc,hoc,I.freeC x c hc⟩ hs,by simpa using I.len⟩ ⟨c,hs,.inr hc⟩
  ·exact (hs.2 b (iQ (iD (iq e) (I.ok.cab x c eF hc)))).trans (I.base.keep b o e n hb hx)
  ·obtain ⟨sl,e1⟩:=I.base.slot b o e n hb hx;exact ⟨sl,(hs.2 b (iQ (iD (iq e) (I.ok.cab x c eF hc)))).trans e1⟩
  ·obtain ⟨o',e1⟩:=I.base.there b o e hx;exact ⟨o',(hs.2 b (iQ (iD (iq e) (I.ok.cab x c eF hc)))).trans e1⟩
  ·by_cases hj:j=i
   ·subst hj;rw [hi] at e1; cases e1;rw [iM dn] at e2;cases e2;exact ⟨u,r,.inr ⟨.inl hk,c,hc,b8⟩⟩
   ·rw [iJ (Ne.symm hj)] at e2;obtain ⟨u',r',q⟩:=hl j y v' e1 e2 e3;refine ⟨u',r',?_⟩;rcases q with q | ⟨k,c',e,z'⟩
    ·exact .inl q
    ·refine .inr ⟨k,c',e,z'.sameBut hs ?_⟩;rintro rfl;exact hj (V4 hN e1 (I.ok.inj _ _ _ e hc ▸ hi))
  ·by_cases hcc:c'=c
   ·subst hcc; exact ⟨_,b8⟩
   ·obtain ⟨w2,z2⟩:=I.cell y c' e;exact ⟨w2,z2.sameBut hs hcc⟩
  ·obtain ⟨e,n,ne,nf,d⟩:=I.pin p hp;refine ⟨(hs.2 p.1 ?_).trans e,n,ne,nf,d⟩;intro q;rw [q,hoc] at e;have q':oc=p.2:=jY e;exact d w' (by rw [<- q']; exact hocd)
theorem W0 {M:Model} {A:Around} {E:Value->Shared->Prop} {i:Nat} {x:Str} {v:V} {u:Value} {Q:Unit->Shared->Prop} (I:Inv X pins σ H s) (hN:X.N.Nodup) (hi:X.N[i]? = some x) (hx:Loc X.env.scope x) (r:RelV v u)
  (h:∀ s',Inv X pins (σ.set i (some v)) H s'->Q () s') (hf:X.fn x=true\/X.env.scope.names.lookup x=some .local:=by first | exact .inl rfl | exact .inr rfl | assumption):wpAny M A (storeName X.env x u) Q E s :=
 a2d I hN hi hx r (fun s' I' _=>h s' I') hf
theorem Inv.call' {s':Shared} {ch:List Addr} (I:Inv X pins σ H s) (ho:s'.os=s.os) (u:Un (frs X.stack) ch H H' s.heap s'.heap) (hok:HOk X.prog X.w H' s'.heap) (hg:AllBare s'.gens)
  (aV:∀ b∈ch,(b∈X.ex\/X.s₀.heap.objs.size<=b)/\b≠X.env.locals/\(∀ x c,X.env.cells.lookup x=some c->c≠b)/\∀ p∈X.pn++pins,p.1≠b):Inv X pins σ H' s':=by
 obtain ⟨h',g',d',t',o'⟩:=s';have e:o'=s.os:=ho;subst e;exact I.call (g':=g') (t':=t') (d':=d') u hok hg aV
end
abbrev XK:=Value->Option Addr->Hp->Prop
abbrev St:=List (Option V)
abbrev VK:=V->Hp->Prop
abbrev TE:=St->Hp->VK->Prop
abbrev TT:=St->Hp->(Bool->Hp->Prop)->Prop
abbrev TA:=St->Hp->(List V->Hp->Prop)->Prop
structure Ends where
 nx:St->Hp->Prop
 rt:VK
 bk:St->Hp->Prop:=fun _ _=>False
 ct:St->Hp->Prop:=fun _ _=>False
abbrev TS:=Ends->St->Hp->Prop
inductive EP (X:Cx) (pins:List (Addr × Obj)) (σ:St) (Q:VK) (u:Value) (s':Shared):Prop
 | mk (v:V) (H':Hp) (I:Inv X pins σ H' s') (r:RelV v u) (q:Q v H')
def TP (X:Cx) (pins:List (Addr × Obj)) (σ:St) (Q:Bool->Hp->Prop) (b:Bool) (s':Shared):Prop:=∃ H',Inv X pins σ H' s'/\Q b H'
inductive AP (X:Cx) (pins:List (Addr × Obj)) (σ:St) (Q:List V->Hp->Prop) (us:List Value) (s':Shared):Prop
 | mk (vs:List V) (H':Hp) (I:Inv X pins σ H' s') (r:Vals vs us) (q:Q vs H')
def SP (X:Cx) (pins:List (Addr × Obj)) (D:Ends) (f:Flow) (s':Shared):Prop :=
 match f with
 | .next=>∃ ag H',Inv X pins ag H' s'/\D.nx ag H'
 | .brk=>∃ ag H',Inv X pins ag H' s'/\D.bk ag H'
 | .cont=>∃ ag H',Inv X pins ag H' s'/\D.ct ag H'
 | .ret u=>∃ v ag H',Inv X pins ag H' s'/\RelV v u/\D.rt v H'
def PE (X:Cx) (e:Expr) (t:TE):Prop :=
 ∀ (pins:List (Addr × Obj)) (s:Shared) (σ:St) (H:Hp) (Q:VK),Inv X pins σ H s->t σ H Q->wpAny (model X.prog X.w) X.A (eval e X.env) (EP X pins σ Q) X.xe s
def PT (X:Cx) (e:Expr) (t:TT):Prop :=
 ∀ (pins:List (Addr × Obj)) (s:Shared) (σ:St) (H:Hp) (Q:Bool->Hp->Prop),Inv X pins σ H s->t σ H Q->wpAny (model X.prog X.w) X.A (isTrue e X.env (eval e X.env)) (TP X pins σ Q) X.xe s
def PW (X:Cx) (e:Expr) (t:TT):Prop :=
 ∀ (whole:Sem Value) (pins:List (Addr × Obj)) (s:Shared) (σ:St) (H:Hp) (Q:Bool->Hp->Prop),Inv X pins σ H s->t σ H Q->wpAny (model X.prog X.w) X.A (isTrue e X.env whole) (TP X pins σ Q) X.xe s
theorem PW.pt {X:Cx} {e:Expr} {t:TT} (h:PW X e t):PT X e t:=h _
def PA (X:Cx) (es:List Expr) (t:TA):Prop :=
 ∀ (pos:Pos) (pins:List (Addr × Obj)) (s:Shared) (σ:St) (H:Hp) (Q:List V->Hp->Prop),Inv X pins σ H s->t σ H Q->wpAny (model X.prog X.w) X.A (spliced (backTo pos (starEach es X.env))) (AP X pins σ Q) X.xe s
def PS (X:Cx) (st:Stmt) (t:TS):Prop :=
 ∀ (pins:List (Addr × Obj)) (s:Shared) (σ:St) (H:Hp) (D:Ends),Inv X pins σ H s->t D σ H->wpAny (model X.prog X.w) X.A (exec st X.env) (SP X pins D) X.xe s
def PSs (X:Cx) (st:List Stmt) (t:TS):Prop :=
 ∀ (pins:List (Addr × Obj)) (s:Shared) (σ:St) (H:Hp) (D:Ends),Inv X pins σ H s->t D σ H->wpAny (model X.prog X.w) X.A (execs st X.env) (SP X pins D) X.xe s
theorem thn {α:Type} {t:Sem α} {Q Q':α->Shared->Prop} {M:Model} {A:Around} {E:Value->Shared->Prop} {s:Shared} (h:wpAny M A t Q E s) (hQ:∀ a s,Q a s->Q' a s):wpAny M A t Q' E s:=iT h hQ fun _ _ x=>x
end L2
namespace L2
open PySem PySem.Spec PyProof.Rows
section
variable {X:Cx}
def Y8 (i:Nat):TE:=fun σ H Q=>∃ v,σ[i]? = some (some v)/\Q v H
def tC (v:V):TE:=fun _ H Q=>Q v H
theorem a0n {i:Nat} {x:Str} {pos:Pos} (hN:X.N[i]? = some x) (hv:Vis X.env.scope x) (hd:(x==("__debug__" : Str))=false:=by decide) (bz:(x==("__classdict__" : Str))=false:=by decide):PE X (.Name x pos) (Y8 i):=by
 intro pins s σ H Q I h;obtain ⟨v,e,h⟩:=h;obtain ⟨m,hn,hl⟩:=I.loc;obtain ⟨u,r,l⟩:=hl i x v hN e hv;have fin:EP X pins σ Q u s:=⟨v,H,I,r,h⟩;rcases l with ⟨hk,hm⟩ | ⟨hk,c,hc,hcell⟩
 ·exact wpAny_Name (wpAny_loadName_local I.ok.kind hk hn hm fin) hd
 ·rcases hk with hk | hk
  ·exact wpAny_Name (wpAny_loadName_cell I.ok.kind hk hc hcell fin) hd
  ·exact wpAny_Name (wpAny_loadName_free I.ok.kind hk hc hcell fin bz) hd
theorem a8c {i j pos}:PE X (.Constant (.int i) j pos) (tC (.int i)):=fun _ _ _ H _ I h=>wpAny_Constant_int ⟨.int i,H,I.tok _,⟨_,rfl⟩,h⟩
theorem afc {b j pos}:PE X (.Constant (.bool b) j pos) (tC (.bl b)):=fun _ _ _ H _ I h=>Constant_bool ⟨.bl b,H,I,rfl,h⟩
theorem acs {x j pos}:PE X (.Constant (.str x) j pos) (tC (.str x)):=fun _ _ _ H _ I h=>Calls.Constant_str ⟨.str x,H,I.tok _,⟨_,rfl⟩,h⟩
def Gl (X:Cx) (x:Str):Prop:=X.env.kindOf x=some .globalImplicit
theorem O9 {E:Value->Shared->Prop} {pins:List (Addr × Obj)} {s:Shared} {σ:St} {H:Hp} {x:Str} {u:Value} {pos:Pos} {Q:Value->Shared->Prop} (I:Inv X pins σ H s) (hg:Gl X x) (hm:X.mg x=some u) (h:Q u s)
  (hd:(x==("__debug__" : Str))=false:=by decide):wpAny (model X.prog X.w) X.A (eval (.Name x pos) X.env) Q E s :=
 Calls.Name_function_global I.ok.kind hg (Calls.loadGlobal_global (by rw [I.ok.glob]; exact I.mod.glob.keeps I.bk) hm h) hd
theorem Mg {E:Value->Shared->Prop} {pins:List (Addr × Obj)} {s:Shared} {σ:St} {H:Hp} {x:Str} {u:Value} {pos:Pos} {Q:Value->Shared->Prop} (I:Inv X pins σ H s) (hg:Gl X x) (hm:X.mg x=none) (hv:bootBuiltins x=some u) (h:Q u s)
  (hn:x ≠ "__name__" := by decide) (hd:(x==("__debug__" : Str))=false:=by decide):wpAny (model X.prog X.w) X.A (eval (.Name x pos) X.env) Q E s:=by
 obtain ⟨mb,h1,h2⟩:=I.mod.blt;exact Calls.Name_function_global I.ok.kind hg (Calls.loadGlobal_builtin (by rw [I.ok.glob]; exact I.mod.glob.keeps I.bk) hm (by rw [I.ok.blt]; exact h1.keeps I.bk) ((h2 x hn).trans hv) h) hd
theorem a1q {x:Str} {v:V} {u:Value} {pos:Pos} (hg:Gl X x) (hm:X.mg x=some u) (r:RelV v u) (hd:(x==("__debug__" : Str))=false:=by decide):PE X (.Name x pos) (tC v) :=
 fun _ _ _ H _ I h=>O9 I hg hm ⟨v,H,I,r,h⟩ hd
theorem a0r {x:Str} {v:V} {u:Value} {pos:Pos} (hg:Gl X x) (hm:X.mg x=none) (hv:bootBuiltins x=some u) (r:RelV v u) (hn:x ≠ "__name__" := by decide) (hd:(x==("__debug__" : Str))=false:=by decide):PE X (.Name x pos) (tC v) :=
 fun _ _ _ H _ I h=>Mg I hg hm hv ⟨v,H,I,r,h⟩ hn hd
variable {a b:Expr} {ta tb:TE} {pos:Pos}
def tB (t:TE):TT:=fun σ H Q=>t σ H fun x H1=>∃ c,x=.bl c/\Q c H1
theorem adi {e:Expr} {t:TE} (h:PE X e t) (he:∀ whole,isTrue e X.env whole=(do let v <- whole; standAt e.pos; holding [v] (truthy v)):=by intro _; rfl):PT X e (tB t):=by
 intro pins s σ H Q I hw;refine isTrue_plain (thn (h pins s σ H _ I hw) fun v s1 z0=>?_) (he _);obtain ⟨x,H1,I1,r1,q1⟩:=z0;obtain ⟨d,rfl,q⟩:=q1;cases r1;exact kr ⟨H1,I1,q⟩
variable {tA dQ:TT} {rest:List Expr}
def agi (t u:TT):TT:=fun σ H Q=>t σ H fun c H1=>if c=true then u σ H1 Q else Q false H1
def tOr (t u:TT):TT:=fun σ H Q=>t σ H fun c H1=>if c=true then Q true H1 else u σ H1 Q
def ahc (t:TT):TT:=fun σ H Q=>t σ H fun c H1=>Q (!c) H1
theorem pw_and1 (ha:PT X a tA):PW X (.BoolOp .And [a] pos) tA:=by
 intro wh pins s σ H Q I h;refine isTrue_and (thn (ha pins s σ H Q I h) fun c s1 e=>?_);cases c with
 | true=>exact isTrue_and_nil e
 | false=>exact e
theorem pw_or1 (ha:PT X a tA):PW X (.BoolOp .Or [a] pos) tA:=by
 intro wh pins s σ H Q I h;refine isTrue_or (thn (ha pins s σ H Q I h) fun c s1 e=>?_);cases c with
 | false=>exact isTrue_or_nil e
 | true=>exact e
theorem pw_and (ha:PT X a tA) (hb:PW X (.BoolOp .And (b::rest) pos) dQ):PW X (.BoolOp .And (a::b::rest) pos) (agi tA dQ):=by
 intro wh pins s σ H Q I h;refine isTrue_and (thn (ha pins s σ H _ I h) fun c s1 z0=>?_);obtain ⟨H1,I1,q1⟩:=z0;cases c with
 | true=>exact hb wh pins s1 σ H1 Q I1 q1
 | false=>exact ⟨H1,I1,q1⟩
theorem pw_or (ha:PT X a tA) (hb:PW X (.BoolOp .Or (b::rest) pos) dQ):PW X (.BoolOp .Or (a::b::rest) pos) (tOr tA dQ):=by
 intro wh pins s σ H Q I h;refine isTrue_or (thn (ha pins s σ H _ I h) fun c s1 z0=>?_);obtain ⟨H1,I1,q1⟩:=z0;cases c with
 | true=>exact ⟨H1,I1,q1⟩
 | false=>exact hb wh pins s1 σ H1 Q I1 q1
theorem ac3 (ha:PT X a tA):PT X (.UnaryOp .Not a pos) (ahc tA):=by
 intro pins s σ H Q I h;exact isTrue_not (ha pins s σ H (fun c H1=>Q (!c) H1) I h)
noncomputable def aen (ta tb:TE):TE:=fun σ H Q=>ta σ H fun x H1=>∃ c,x=.bl c/\if c=true then tb σ H1 Q else Q (.bl false) H1
noncomputable def ah3 (ta tb:TE):TE:=fun σ H Q=>ta σ H fun x H1=>∃ c,x=.bl c/\if c=true then Q (.bl true) H1 else tb σ H1 Q
def af6 (ta:TE):TE:=fun σ H Q=>ta σ H fun x H1=>∃ c,x=.bl c/\Q (.bl (!c)) H1
theorem acf {op} {t:TE} (h:PE X a t):PE X (.BoolOp op [a] pos) t:=fun pins s σ H Q I hw=>BoolOp_one (h pins s σ H Q I hw)
theorem abg (ha:PE X a ta) (hb:PE X (.BoolOp .And (b::rest) pos) tb):PE X (.BoolOp .And (a::b::rest) pos) (aen ta tb):=by
 intro pins s σ H Q I h;refine BoolOp_and (thn (ha pins s σ H _ I h) fun v s1 z0=>?_);obtain ⟨x,H1,I1,r1,q1⟩:=z0;obtain ⟨c,rfl,q1⟩:=q1;cases r1;refine kr ?_;cases c with
 | true=>exact hb pins s1 σ H1 Q I1 q1
 | false=>exact ⟨.bl false,H1,I1,rfl,q1⟩
theorem afh (ha:PE X a ta) (hb:PE X (.BoolOp .Or (b::rest) pos) tb):PE X (.BoolOp .Or (a::b::rest) pos) (ah3 ta tb):=by
 intro pins s σ H Q I h;refine BoolOp_or (thn (ha pins s σ H _ I h) fun v s1 z0=>?_);obtain ⟨x,H1,I1,r1,q1⟩:=z0;obtain ⟨c,rfl,q1⟩:=q1;cases r1;refine kr ?_;cases c with
 | false=>exact hb pins s1 σ H1 Q I1 q1
 | true=>exact ⟨.bl true,H1,I1,rfl,q1⟩
theorem ado (ha:PE X a ta):PE X (.UnaryOp .Not a pos) (af6 ta):=by
 intro pins s σ H Q I h;refine UnaryOp_ (thn (ha pins s σ H _ I h) fun v s1 z0=>?_);obtain ⟨x,H1,I1,r1,q1⟩:=z0;obtain ⟨c,rfl,q1⟩:=q1;cases r1;exact not_of (kr ⟨.bl (!c),H1,I1,rfl,q1⟩)
noncomputable def tIf (t:TT) (ta tb:TE):TE:=fun σ H Q=>t σ H fun c H1=>if c=true then ta σ H1 Q else tb σ H1 Q
theorem a5k {c:Expr} (hc:PT X c tA) (ha:PE X a ta) (hb:PE X b tb):PE X (.IfExp c a b pos) (tIf tA ta tb):=by
 intro pins s σ H Q I h;refine wpAny_IfExp (thn (hc pins s σ H _ I h) fun d s1 z0=>?_);obtain ⟨H1,I1,q1⟩:=z0;cases d with
 | true=>exact ha pins s1 σ H1 Q I1 q1
 | false=>exact hb pins s1 σ H1 Q I1 q1
end
end L2
namespace L2
open PySem PySem.Spec PyProof.Rows
def SqL (K:PySem.W.Frag) (H:Hp) (a:Addr) (xs:List V):Prop :=
 Rd H a (.lst xs) \/
  ∃ (o:Obj) (its:Array Value) (n:Nat),K.lookup a=some o/\o.cls=.type "list" /\ o.dict=none/\o.data=.seq its n/\its.size<=sizeLine/\Vals xs its.toList
def SqT (K:PySem.W.Frag) (H:Hp) (a:Addr) (xs:List V):Prop :=
 Rd H a (.tup xs) \/
  ∃ (o:Obj) (its:Array Value) (n:Nat),K.lookup a=some o/\o.cls=.type "tuple" /\ o.dict=none/\o.data=.seq its n/\its.size<=sizeLine/\Vals xs its.toList
noncomputable def ahj:Value->Option V
 | .none=>some .non
 | .bool b=>some (.bl b)
 | .int i _=>some (.int i)
 | .str x _=>some (.str x)
 | .bytes b _=>some (.byt b)
 | .float b _=>some (.flt b)
 | .ref a=>some (.ref a)
 | .type n=>some (.ty n)
 | _=>none
theorem RelV.abs {x:V} {u:Value} (r:RelV x u):ahj u=some x:=by
 cases x with
 | non=>cases r; rfl
 | bl _=>cases r; rfl
 | int _=>obtain ⟨t,rfl⟩:=r; rfl
 | str _=>obtain ⟨t,rfl⟩:=r; rfl
 | byt _=>obtain ⟨t,rfl⟩:=r; rfl
 | flt _=>obtain ⟨t,rfl⟩:=r; rfl
 | ref _=>cases r; rfl
 | ty _=>cases r; rfl
theorem RelV.inj {x y:V} {u:Value} (r:RelV x u) (q:RelV y u):x=y:=jY (r.abs.symm.trans q.abs)
theorem Vals.inj {xs ys:List V} {us:List Value} (h:Vals xs us):Vals ys us->xs=ys:=by
 induction h generalizing ys with
 | nil=>intro k; cases k; rfl
 | cons r t ih=>intro k; cases k with | cons r' t'=>rw [r.inj r',ih t']
section
variable {X:Cx} {pins:List (Addr × Obj)} {σ:St} {H:Hp} {s:Shared} {a:Addr} {xs ys:List V}
theorem SqL.of {K:PySem.W.Frag} (h:H a=some (.lst xs)):SqL K H a xs:=.inl (.inl h)
theorem SqT.of {K:PySem.W.Frag} (h:H a=some (.tup xs)):SqT K H a xs:=.inl (.inl h)
theorem Inv.list (I:Inv X pins σ H s) (h:SqL X.K H a xs):∃ its:List Value,Vals xs its/\PlainL s.heap a its.toArray/\xs.length<=sizeLine:=by
 rcases h with h | ⟨o,its,n,hk,hc,hd,hs,hz,r⟩
 ·obtain ⟨z,its,n,r,e⟩:=h.ok I.hok;exact ⟨its,r,⟨_,n,e,rfl,rfl,rfl⟩,z⟩
 ·refine ⟨its.toList,r,⟨o,n,I.kIn a o hk,hc,hd,by simpa using hs⟩,?_⟩;have e:=r.length;simp only [Array.length_toList] at e;omega
theorem Inv.tuple (I:Inv X pins σ H s) (h:SqT X.K H a xs):∃ its:List Value,Vals xs its/\IsTup s.heap a its.toArray/\xs.length<=sizeLine:=by
 rcases h with h | ⟨o,its,n,hk,hc,hdn,hs,hz,r⟩
 ·obtain ⟨z,its,r,p⟩:=h.ok I.hok;exact ⟨its,r,p.is,z⟩
 ·refine ⟨its.toList,r,⟨o,I.kIn a o hk,hc,n,by simpa using hs⟩,?_⟩;have e:=r.length;simp only [Array.length_toList] at e;omega
theorem Inv.Wj (I:Inv X pins σ H s) (h:SqL X.K H a xs) (h':SqL X.K H a ys):xs=ys:=by
 obtain ⟨its,r,⟨o,n,e,_,_,d⟩,_⟩:=I.list h;obtain ⟨its',r',⟨o',n',e',_,_,d'⟩,_⟩:=I.list h';rw [e] at e'; cases e';rw [d] at d';injection d' with d1 _;have:its=its':=by simpa using iX Array.toList d1
 subst this;exact r.inj r'
theorem Inv.Ov (I:Inv X pins σ H s) (h:SqT X.K H a xs) (h':SqT X.K H a ys):xs=ys:=by
 obtain ⟨its,r,⟨o,e,_,n,d⟩,_⟩:=I.tuple h;obtain ⟨its',r',⟨o',e',_,n',d'⟩,_⟩:=I.tuple h';rw [e] at e'; cases e';rw [d] at d';injection d' with d1 _;have:its=its':=by simpa using iX Array.toList d1
 subst this;exact r.inj r'
end
abbrev Cx.wish (X:Cx) (E:Value->Shared->Prop):Cx:={ X with xe:=E }
abbrev Cx.nox (X:Cx):Cx:=X.wish fun _ _=>False
theorem Cx.Ok.wish {X:Cx} (ok:X.Ok) (E:Value->Shared->Prop):(X.wish E).Ok :=
 ⟨ok.mod,ok.kind,ok.glob,ok.blt,ok.above,ok.inj,ok.has,ok.cab,ok.hd,ok.frames,ok.stk,ok.exf,ok.bs,ok.bsz,ok.noex,ok.exfs,ok.Yj,ok.frf⟩
theorem Cx.Ok.Fo {X:Cx} {E:Value->Shared->Prop} (ok:(X.wish E).Ok):X.Ok :=
 ⟨ok.mod,ok.kind,ok.glob,ok.blt,ok.above,ok.inj,ok.has,ok.cab,ok.hd,ok.frames,ok.stk,ok.exf,ok.bs,ok.bsz,ok.noex,ok.exfs,ok.Yj,ok.frf⟩
section
variable {X:Cx} {pins:List (Addr × Obj)} {σ:St} {H:Hp} {s:Shared} {E:Value->Shared->Prop}
theorem Inv.wish (I:Inv X pins σ H s) (E:Value->Shared->Prop):Inv (X.wish E) pins σ H s:=⟨I.ok.wish E,I.os,I.bare,I.base,I.loc,I.cell,I.free,I.freeC,I.pin,I.hok,I.len⟩
theorem Inv.Fo (I:Inv (X.wish E) pins σ H s):Inv X pins σ H s:=⟨I.ok.Fo,I.os,I.bare,I.base,I.loc,I.cell,I.free,I.freeC,I.pin,I.hok,I.len⟩
theorem SP.Fo {D:Ends} {f:Flow} {s':Shared} (h:SP (X.wish E) pins D f s'):SP X pins D f s':=by
 cases f with
 | next=>obtain ⟨ag,H',I,q⟩:=h; exact ⟨ag,H',I.Fo,q⟩
 | brk=>obtain ⟨ag,H',I,q⟩:=h; exact ⟨ag,H',I.Fo,q⟩
 | cont=>obtain ⟨ag,H',I,q⟩:=h; exact ⟨ag,H',I.Fo,q⟩
 | ret u=>obtain ⟨v,ag,H',I,r,q⟩:=h; exact ⟨v,ag,H',I.Fo,r,q⟩
theorem PSs.nox {st:List Stmt} {t:TS} (h:PSs X.nox st t):PSs X st t:=fun pins s σ H D I hw =>
 iT (h pins s σ H D (I.wish _) hw) (fun _ _ q=>q.Fo) fun _ _ z=>False.elim z
end
section
variable {X:Cx} {st:Stmt} {rest:List Stmt} {t u:TS} {e:Expr} {te:TE} {pos:Pos}
def aey:TS:=fun D σ H=>D.nx σ H
def agq (t u:TS):TS:=fun D σ H=>t { D with nx:=u D } σ H
theorem a8w:PSs X [] aey:=fun _ _ σ H _ I h=>lF ⟨σ,H,I,h⟩
theorem Uw (h1:PS X st t) (h2:PSs X rest u):PSs X (st::rest) (agq t u):=by
 intro pins s σ H D I h;refine wpAny_execs_cons (thn (h1 pins s σ H { D with nx:=u D } I h) fun f s1 q=>?_);cases f with
 | next =>
  obtain ⟨ag,H',I',q⟩:=q;exact h2 pins s1 ag H' D I' q
 | ret v=>exact q
 | brk=>exact q
 | cont=>exact q
theorem Sg (h1:PS X st t):PSs X [st] t:=by
 intro pins s σ H D I h;refine wpAny_execs_cons (thn (h1 pins s σ H D I h) fun f s1 q=>?_);cases f with
 | next=>exact lF q
 | ret v=>exact q
 | brk=>exact q
 | cont=>exact q
theorem Inv.quiet {pins:List (Addr × Obj)} {σ:St} {H:Hp} {s:Shared} (I:Inv X pins σ H s):interactive X.env=false:=by simp [interactive,I.ok.kind]
def Xj (te:TE):TS:=fun D σ H=>te σ H fun _ H1=>D.nx σ H1
theorem Ah (he:PE X e te) (hs:swapsWith e none pos.line X.env=pure false:=by rfl):PS X (.Expr e pos) (Xj te):=by
 intro pins s σ H D I h;exact wpAny_Expr_any (thn (he pins s σ H _ I h) fun v s1 z7=>by obtain ⟨x,H1,I1,r1,q1⟩:=z7; exact ⟨σ,H1,I1,q1⟩) I.quiet hs
def agy (te:TE):TS:=fun D σ H=>te σ H D.rt
theorem a7h (he:PE X e te):PS X (.Return (some e) pos) (agy te):=by
 intro pins s σ H D I h;exact wpAny_Return_some (thn (he pins s σ H _ I h) fun v s1 z7=>by obtain ⟨x,H1,I1,r1,q1⟩:=z7; exact ⟨x,σ,H1,I1,r1,q1⟩)
def ahd (c:TT) (t u:TS):TS:=fun D σ H=>c σ H fun b H1=>if b=true then t D σ H1 else u D σ H1
theorem ady {c:Expr} {a b:List Stmt} {tc:TT} (hc:PT X c tc) (ha:PSs X a t) (hb:PSs X b u):PS X (.If c a b pos) (ahd tc t u):=by
 intro pins s σ H D I h;refine wpAny_If (thn (hc pins s σ H _ I h) fun d s1 z0=>?_);obtain ⟨H1,I1,q1⟩:=z0;cases d with
 | true=>exact ha pins s1 σ H1 D I1 q1
 | false=>exact hb pins s1 σ H1 D I1 q1
end
abbrev TG:=V->St->Hp->(St->Hp->Prop)->Prop
abbrev TGs:=List V->St->Hp->(St->Hp->Prop)->Prop
def PG (X:Cx) (target:Expr) (t:TG):Prop :=
 ∀ (pins:List (Addr × Obj)) (s:Shared) (σ:St) (H:Hp) (v:V) (u:Value) (Q:St->Hp->Prop),Inv X pins σ H s->RelV v u->t v σ H Q ->
  wpAny (model X.prog X.w) X.A (assign target X.env u) (fun _ s'=>∃ ag H',Inv X pins ag H' s'/\Q ag H') X.xe s
def PGs (X:Cx) (ts:List Expr) (t:TGs):Prop :=
 ∀ (pins:List (Addr × Obj)) (s:Shared) (σ:St) (H:Hp) (vs:List V) (us:List Value) (Q:St->Hp->Prop),Inv X pins σ H s->Vals vs us->t vs σ H Q ->
  wpAny (model X.prog X.w) X.A (assignInOrder ((assignEach ts X.env).map (·.2)) us) (fun _ s'=>∃ ag H',Inv X pins ag H' s'/\Q ag H') X.xe s
abbrev afm:=V->V->V->Hp->(Hp->Prop)->Prop
def aga (X:Cx) (t:afm):Prop :=
 ∀ (pins:List (Addr × Obj)) (s:Shared) (σ:St) (H:Hp) (o i v:V) (ov iv u:Value) (Q:Hp->Prop),Inv X pins σ H s->RelV o ov->RelV i iv->RelV v u->t o i v H Q ->
  wpAny (model X.prog X.w) X.A (setItem ov iv u) (fun _ s'=>∃ H',Inv X pins σ H' s'/\Q H') X.xe s
section
variable {X:Cx} {pos:Pos}
def Mv (i:Nat):TG:=fun v σ H Q=>Q (σ.set i (some v)) H
theorem ju {i:Nat} {x:Str} (hN:X.N.Nodup) (hi:X.N[i]? = some x) (hx:Loc X.env.scope x) (hf:X.fn x=true\/X.env.scope.names.lookup x=some .local:=by first | exact .inl rfl | exact .inr rfl | assumption):PG X (.Name x pos) (Mv i):=by
 intro pins s σ H v u Q I r h;exact wpAny_assign_Name (W0 I hN hi hx r (fun s' I'=>⟨_,H,I',h⟩) hf)
def ag6:TGs:=fun vs σ H Q=>vs=[]/\Q σ H
def acy (t:TG) (u:TGs):TGs:=fun vs σ H Q=>∃ v r,vs=v::r/\t v σ H fun ag H'=>u r ag H' Q
theorem U5:PGs X [] ag6:=by
 intro pins s σ H vs us Q I r h;obtain ⟨e,h⟩:=h;subst e;cases r;exact assignInOrder_nil ⟨σ,H,I,h⟩
theorem Fd {e:Expr} {es:List Expr} {t:TG} {u:TGs} (h1:PG X e t) (h2:PGs X es u)
  (hs:(assignEach (e::es) X.env).map (·.2)=assign e X.env::(assignEach es X.env).map (·.2):=by rfl):PGs X (e::es) (acy t u):=by
 intro pins s σ H vs us Q I r h;obtain ⟨v,vr,e1,h⟩:=h;subst e1;cases r with
 | cons r rr =>
  rw [hs];refine assignInOrder_cons (thn (h1 pins s σ H _ _ _ I r h) fun _ s1 z0=>?_);obtain ⟨σ1,H1,I1,q1⟩:=z0;exact h2 pins s1 σ1 H1 _ _ Q I1 rr q1
noncomputable def agb (K:PySem.W.Frag) (n:Nat) (t:TGs):TG:=fun v σ H Q=>∃ a xs,v=.ref a/\SqT K H a xs/\xs.length=n/\t xs σ H Q
theorem a2a {es:List Expr} {k:Nat} {t:TGs} {n:Nat} (hc:X.calm=true) (h:PGs X es t)
  (hn:(assignEach es X.env).length=n:=by rfl) (hst:(assignEach es X.env).findIdx? (·.1)=none:=by rfl):PG X (.Tuple es k pos) (agb X.K n t):=by
 intro pins s σ H v u Q I r hw;obtain ⟨a,xs,e1,hq,hl,hw⟩:=hw;subst e1;cases r;obtain ⟨its,rv,ht,hz⟩:=I.tuple hq;refine assign_Tuple_tuple (I.ok.hd hc) ht (by simp [hn,<- hl,rv.length]) hst fun h' hx=>?_;have I1:Inv X pins σ H { s with heap:=h' }:=I.kept (t':=s.toks) fun b o e=>hx b o (iQ (iq e)) e;exact h pins _ σ H xs _ Q I1 (by simpa using rv) hw
noncomputable def agd (to ti:TE) (t:afm):TG:=fun v σ H Q=>to σ H fun o H1=>ti σ H1 fun i H2=>t o i v H2 fun H3=>Q σ H3
theorem a76 {o i:Expr} {to ti:TE} {t:afm} (ho:PE X o to) (hi:PE X i ti) (hs:aga X t)
  (ha:∀ v,assign (.Subscript o i pos) X.env v=(do
   let ov <- holding [v] (eval o X.env)
   let iv <- holding [v,ov] (eval i X.env)
   standAt pos
   holding [v,ov,iv] (setItem ov iv v)
   release [v,ov,iv] []):=by intro _; rfl):PG X (.Subscript o i pos) (agd to ti t):=by
 intro pins s σ H v u Q I r h;rw [ha];refine hJ (ku (thn (ho pins s σ H _ I h) fun ov s1 z0=>?_));obtain ⟨x,H1,I1,r1,q1⟩:=z0;refine hJ (ku (thn (hi pins s1 σ H1 _ I1 q1) fun iv s2 z0=>?_));obtain ⟨y,H2,I2,r2,q2⟩:=z0;refine hJ (kT (hJ (ku (thn (hs pins s2 σ H2 x y v ov iv u _ I2 r1 r2 r q2) fun _ s3 z0=>?_))));obtain ⟨H3,I3,q3⟩:=z0;exact wpAny_release ⟨σ,H3,I3,q3⟩
def a90 (te:TE) (g:TG):TS:=fun D σ H=>te σ H fun x H1=>g x σ H1 D.nx
theorem a0t {tg e:Expr} {te:TE} {g:TG} (he:PE X e te) (hg:PG X tg g) (hs:swapsWithSole [tg] e pos.line X.env=pure false:=by rfl) (hw:swappedStores [tg] e X.env=pure none:=by rfl)
  (h1:(assignEach [tg] X.env).map (·.2)=[assign tg X.env]:=by rfl):PS X (.Assign [tg] e pos) (a90 te g):=by
 intro pins s σ H D I h;refine wpAny_Assign_stores (thn (he pins s σ H _ I h) fun v s1 z0=>?_) hs hw;obtain ⟨x,H1,I1,r1,q1⟩:=z0;rw [h1];exact thn (hg pins s1 σ H1 x v _ I1 r1 q1) fun _ s2 q=>q
theorem Df {i:Nat} {x:Str} {e:Expr} {te:TE} {pos':Pos} (hN:X.N.Nodup) (hi:X.N[i]? = some x) (hx:Loc X.env.scope x) (he:PE X e te) (hs:swapsWith e (some (.Name x pos')) pos.line X.env=pure false:=by rfl) (hf:X.fn x=true\/X.env.scope.names.lookup x=some .local:=by first | exact .inl rfl | exact .inr rfl | assumption) :
  PS X (.Assign [.Name x pos'] e pos) (a90 te (Mv i)):=by
 intro pins s σ H D I h;refine wpAny_Assign_Name (thn (he pins s σ H _ I h) fun v s1 z0=>?_) hs;obtain ⟨y,H1,I1,r1,q1⟩:=z0;exact W0 I1 hN hi hx r1 (fun s2 I2=>⟨_,H1,I2,q1⟩) hf
end
section
variable {X:Cx} {pos:Pos}
noncomputable def ac9 (c:TT) (tb:TS):TS:=fun D σ H=>∃ W:Nat->St->Hp->Prop,(∃ m,W m σ H)/\∀ m σ H,W m σ H ->
 c σ H fun b H1=>if b=true then ∃ N:St->Hp->Prop,(∀ ag H',N ag H'->∃ m',m'<m/\W m' ag H')/\tb { D with nx:=N,ct:=N,bk:=D.nx } σ H1 else D.nx σ H1
theorem Wb {c:Expr} {body:List Stmt} {tc:TT} {tb:TS} (hp:PassesOwn (model X.prog X.w) X.A X.env X.xe) (hc:PT X c tc) (hb:PSs X body tb):PS X (.While c body [] pos) (ac9 tc tb):=by
 intro pins s σ H D I h;obtain ⟨W,⟨m0,w0⟩,turn⟩:=h;refine wpAny_While (codeAny_whileLoop (fun n s'=>∃ ag H',Inv X pins ag H' s'/\W n ag H') ?_ m0 ⟨σ,H,I,w0⟩);rintro n s1 ⟨σ1,H1,I1,w1⟩;refine ky hp (thn (hc pins s1 σ1 H1 _ I1 (turn n σ1 H1 w1)) fun b s2 z0=>?_);obtain ⟨H2,I2,q2⟩:=z0;cases b with
 | true =>
  obtain ⟨N,hN,q2⟩:=q2;rw [hU rfl];refine ky hp (thn (hb pins s2 σ1 H2 _ I2 q2) fun f s3 q3=>?_);cases f with
  | next =>
   obtain ⟨bM,H3,I3,n3⟩:=q3;obtain ⟨m',hm,w3⟩:=hN bM H3 n3;exact ⟨m',hm,bM,H3,I3,w3⟩
  | cont =>
   obtain ⟨bM,H3,I3,n3⟩:=q3;obtain ⟨m',hm,w3⟩:=hN bM H3 n3;exact ⟨m',hm,bM,H3,I3,w3⟩
  | brk=>exact q3
  | ret v=>exact q3
 | false =>
  rw [hV kJ];exact lF ⟨σ1,H2,I2,q2⟩
end
structure It where
 go:Nat->Hp->Prop
 yld:Nat->Hp->V->Hp->Prop
 stop:Nat->Hp->Prop
def Kr (X:Cx) (pins:List (Addr × Obj)) (H:Hp) (b:Addr):Prop :=
 H b=none/\b≠X.env.locals/\b∉X.fs/\(b∈X.ex\/X.s₀.heap.objs.size<=b)/\(∀ x c,X.env.cells.lookup x=some c->c≠b)/\∀ p∈X.pn++pins,p.1≠b
theorem Inv.a9c {X:Cx} {pins:List (Addr × Obj)} {σ:St} {H H':Hp} {s:Shared} {b:Addr} (I:Inv X pins σ H s) (hb:s.heap.objs.size<=b) (hn:H' b=none):Kr X pins H' b:=by
 refine ⟨hn,kl (iD I.lt hb),I.ahe hb,.inr (ip I.sz hb),fun x c e z=>?_,fun p hp z=>?_⟩
 ·obtain ⟨v,q⟩:=I.cell x c e;exact absurd (iD q.lt (by rw [z]; exact hb)) (jM _)
 ·exact absurd (iD (iq (I.pin p hp).1) (by rw [z]; exact hb)) (jM _)
structure Turn (P:Program) (w:World) (K:PySem.W.Frag) (tg:Expr) (J:It) (fp:List Addr) (it:Addr) (tn:Nat->Heap->Prop):Prop where
 mem:it∈fp
 obj:∀ i h,tn i h->∀ b∈fp,∃ o,h.get? b=some o/\∀ v,o.data≠.cell v
 keep:∀ i h h',tn i h->(∀ b∈fp,∀ o,h.get? b=some o->h'.get? b=some o)->tn i h'
 item:∀ (X:Cx),X.prog=P->X.w=w->X.K=K->X.calm=true->∀ (i:Nat) (pins:List (Addr × Obj)) (s:Shared) (σ:St) (H:Hp) (E:Value->Shared->Prop),Inv X pins σ H s->(∀ b∈fp,Kr X pins H b)->tn i s.heap->J.go i H ->
  wpAny (model P w) X.A (pyNext (.ref it)) (fun r s1=>∃ u,r=some u /\
   wpAny (model P w) X.A (letOwnedTupleGo tg (.ref it) u) (fun _ s2=>∃ x H',Inv X pins σ H' s2/\RelV x u/\J.yld i H x H'/\tn (i+1) s2.heap/\∀ b∈fp,H' b=none) E s1) E s
 done:∀ (X:Cx),X.prog=P->X.w=w->X.K=K->X.calm=true->∀ (i:Nat) (pins:List (Addr × Obj)) (s:Shared) (σ:St) (H:Hp) (E:Value->Shared->Prop),Inv X pins σ H s->(∀ b∈fp,Kr X pins H b)->tn i s.heap->J.stop i H ->
  wpAny (model P w) X.A (pyNext (.ref it)) (fun r s1=>r=none/\Inv X pins σ H s1) E s
 self:∀ (A:Around) (i:Nat) (s:Shared) (Q:Value->Shared->Prop) (E:Value->Shared->Prop),tn i s.heap->Q (.ref it) s->wpAny (model P w) A (pyIter (.ref it)) Q E s
abbrev TI:=St->Hp->(It->Hp->Prop)->Prop
def PIE (X:Cx) (pins:List (Addr × Obj)) (σ:St) (tg:Expr) (R:It->Hp->Prop) (b9:Value) (s2:Shared):Prop :=
 ∃ (it:Addr) (fp:List Addr) (tn:Nat->Heap->Prop) (J:It) (H':Hp),b9=.ref it/\Inv X pins σ H' s2/\Turn X.prog X.w X.K tg J fp it tn/\tn 0 s2.heap/\(∀ b∈fp,Kr X pins H' b)/\R J H'
def PI (X:Cx) (tg iter:Expr) (wi:TI):Prop :=
 ∀ (pins:List (Addr × Obj)) (s:Shared) (σ:St) (H:Hp) (R:It->Hp->Prop),Inv X pins σ H s->wi σ H R ->
  wpAny (model X.prog X.w) X.A (eval iter X.env) (fun v s1=>wpAny (model X.prog X.w) X.A (pyIter v) (PIE X pins σ tg R) X.xe s1) X.xe s
theorem Yz {M:Model} {A:Around} {E:Value->Shared->Prop} {s:Shared} {tg:Expr} {it:Addr} {u:Value} {o:Obj} {n:String} {vs:Array Value} {Q:Unit->Shared->Prop} (ho:s.heap.get? it=some o) (hc:o.cls=.type n) (hd:o.data=.fields vs)
  (hn:["enumerate","zip","dict_itemiterator","dict_reverseitemiterator","odict_iterator","itertools.zip_longest","itertools.pairwise"].contains n=false) (hQ:Q () s):wpAny M A (letOwnedTupleGo tg (.ref it) u) Q E s:=by
 unfold letOwnedTupleGo
 cases tg <;> first
  | exact ia hQ
  | (cases u <;> first
    | exact ia hQ
    | (refine hJ (wpAny_load ho ?_)
       rw [hc,hd];show wpAny M A (if (["enumerate","zip","dict_itemiterator","dict_reverseitemiterator","odict_iterator","itertools.zip_longest","itertools.pairwise"].contains n&&vs[0]? == some (rawInt _))=true then _ else _) Q E s;rw [hV (by intro h; rw [hn,Bool.false_and] at h; cases h)];exact ia hQ))
noncomputable def Itl (K:PySem.W.Frag) (a:Addr):It :=
 ⟨fun i H=>∃ xs x,SqL K H a xs/\xs[i]? = some x,fun i H x H'=>H'=H/\∀ xs,SqL K H a xs->xs[i]? = some x,fun i H=>∃ xs,SqL K H a xs/\xs.length<=i⟩
noncomputable def Itt (K:PySem.W.Frag) (a:Addr):It :=
 ⟨fun i H=>∃ xs x,SqT K H a xs/\xs[i]? = some x,fun i H x H'=>H'=H/\∀ xs,SqT K H a xs->xs[i]? = some x,fun i H=>∃ xs,SqT K H a xs/\xs.length<=i⟩
def Itr (lo:Int) (n:Nat):It:=⟨fun i _=>i<n,fun i H x H'=>H'=H/\x=.int (lo+i),fun i _=>n<=i⟩
theorem a1b {P:Program} {w:World} {K:PySem.W.Frag} {tg:Expr} (a it:Addr):Turn P w K tg (Itl K a) [it] it (fun i h=>h.IsListIter it a i) where
 mem:=by simp
 obj:=fun i h st b hb=>by
  have e:b=it:=by simpa using hb
  subst e;obtain ⟨o,e,c,d⟩:=st;exact ⟨o,e,fun v z=>by rw [d] at z; cases z⟩
 keep:=fun i h h' st k=>st.at fun o e=>k it (by simp) o e
 item:=by
  intro X hP hw hK hc i pins s σ H E I hf st hg;subst hP hw hK;obtain ⟨xs,x,hq,hx⟩:=hg;obtain ⟨its,rv,p,hz⟩:=I.list hq;obtain ⟨u,hu,ru⟩:=rv.get hx;obtain ⟨f0,f1,f2,f3,f4,f5⟩:=hf it (by simp);refine wpAny_pyNext_list_item st p.isList (x:=u) (by simpa using hu) fun h' aa sb=>?_;have I1:Inv X pins σ H { s with heap:=h' }:=I.turned (t':=s.toks) (fun b o hb e=>(sb.2 b hb).trans e) f0 f1 f3 f4 f5;obtain ⟨o,e,c,d⟩:=id aa;exact ⟨u,rfl,Yz (s:={ s with heap:=h' }) e c d (by decide) ⟨x,H,I1,ru,⟨rfl,fun ys hy=>by rw [I.Wj hy hq]; exact hx⟩,aa,fun b hb=>(hf b hb).1⟩⟩
 done:=by
  intro X hP hw hK hc i pins s σ H E I hf st hg;subst hP hw hK;obtain ⟨xs,hq,hx⟩:=hg;obtain ⟨its,rv,p,hz⟩:=I.list hq;obtain ⟨f0,f1,f2,f3,f4,f5⟩:=hf it (by simp);have hl:=rv.length;exact wpAny_pyNext_list_end (I.ok.hd hc) st p.isList (by simp; omega) fun h' eb=>⟨rfl,I.turned (t':=s.toks) (fun b o hb e=>eb b o hb e) f0 f1 f3 f4 f5⟩
 self:=fun _ _ _ _ _ st h=>wpAny_pyIter_listiter st h
theorem Y4 {P:Program} {w:World} {K:PySem.W.Frag} {tg:Expr} (a it:Addr):Turn P w K tg (Itt K a) [it] it (fun i h=>h.IsTupleIter it a i) where
 mem:=by simp
 obj:=fun i h st b hb=>by
  have e:b=it:=by simpa using hb
  subst e;obtain ⟨o,e,c,d⟩:=st;exact ⟨o,e,fun v z=>by rw [d] at z; cases z⟩
 keep:=fun i h h' st k=>st.at fun o e=>k it (by simp) o e
 item:=by
  intro X hP hw hK hc i pins s σ H E I hf st hg;subst hP hw hK;obtain ⟨xs,x,hq,hx⟩:=hg;obtain ⟨its,rv,p,hz⟩:=I.tuple hq;obtain ⟨u,hu,ru⟩:=rv.get hx;obtain ⟨f0,f1,f2,f3,f4,f5⟩:=hf it (by simp);refine wpAny_pyNext_tuple_item st (show s.heap.IsTuple a its.toArray from p) (x:=u) (by simpa using hu) fun h' aa sb=>?_;have I1:Inv X pins σ H { s with heap:=h' }:=I.turned (t':=s.toks) (fun b o hb e=>(sb.2 b hb).trans e) f0 f1 f3 f4 f5;obtain ⟨o,e,c,d⟩:=id aa;exact ⟨u,rfl,Yz (s:={ s with heap:=h' }) e c d (by decide) ⟨x,H,I1,ru,⟨rfl,fun ys hy=>by rw [I.Ov hy hq]; exact hx⟩,aa,fun b hb=>(hf b hb).1⟩⟩
 done:=by
  intro X hP hw hK hc i pins s σ H E I hf st hg;subst hP hw hK;obtain ⟨xs,hq,hx⟩:=hg;obtain ⟨its,rv,p,hz⟩:=I.tuple hq;obtain ⟨f0,f1,f2,f3,f4,f5⟩:=hf it (by simp);have hl:=rv.length;exact wpAny_pyNext_tuple_end (I.ok.hd hc) st (show s.heap.IsTuple a its.toArray from p) (by simp; omega) fun h' eb=>⟨rfl,I.turned (t':=s.toks) (fun b o hb e=>eb b o hb e) f0 f1 f3 f4 f5⟩
 self:=fun _ _ _ _ _ st h=>wpAny_pyIter_tupleiter st h
theorem Xc {P:Program} {w:World} {K:PySem.W.Frag} {tg:Expr} (it:Addr) (lo:Int) (n:Nat):Turn P w K tg (Itr lo n) [it] it (fun i h=>IsRangeIter h it (lo+(i:Nat) * 1) ((n:Int) - (i:Nat)) 1) where
 mem:=by simp
 obj:=fun i h st b hb=>by
  have e:b=it:=by simpa using hb
  subst e
  exact ⟨_,st,fun v z=>by
   have z':Data.fields _=Data.cell v:=z;cases z'⟩
 keep:=fun i h h' st k=>k it (by simp) _ st
 item:=by
  intro X hP hw hK hc i pins s σ H E I hf st hg;subst hP hw hK;obtain ⟨f0,f1,f2,f3,f4,f5⟩:=hf it (by simp);have W:=Walks.range (prog:=X.prog) (w:=X.w) (I.ok.hd hc) it lo 1 n;refine W.item i s _ _ hg st fun v h' tk hv aa kk=>?_;obtain ⟨t,rfl⟩:=hv;have I1:Inv X pins σ H { s with heap:=h',toks:=tk }:=I.turned (fun b o hb e=>kk b o (by simpa using hb) e) f0 f1 f3 f4 f5;refine ⟨_,rfl,Yz (s:={ s with heap:=h',toks:=tk }) (n := "range_iterator") aa rfl rfl (by decide) ⟨.int (lo+i),H,I1,⟨t,?_⟩,⟨rfl,rfl⟩,aa,fun b hb=>(hf b hb).1⟩⟩;rw [Int.mul_one]
 done:=by
  intro X hP hw hK hc i pins s σ H E I hf st hg;subst hP hw hK;obtain ⟨f0,f1,f2,f3,f4,f5⟩:=hf it (by simp);exact wpAny_pyNext_range_end (I.ok.hd hc) st (by have:n<=i:=hg; omega) fun h' eb=>⟨rfl,I.turned (t':=s.toks) (fun b o hb e=>eb b o hb e) f0 f1 f3 f4 f5⟩
 self:=fun _ _ _ _ _ st h=>wpAny_pyIter_rangeiter st h
end L2
namespace L2
open PySem PySem.Spec PyProof.Rows
section
variable {X:Cx} {tg:Expr}
theorem a3w {pins:List (Addr × Obj)} {σ:St} {H:Hp} {s:Shared} {R:It->Hp->Prop} {E:Value->Shared->Prop} {lo hi:Int} {t u v:Tok} {tk:Nat} (I:Inv X pins σ H s) (h1:-(2 ^ 62)<=lo) (h2:lo<2 ^ 62) (h3:-(2 ^ 62)<=hi) (h4:hi<2 ^ 62)
  (q:R (Itr lo (hi - lo).toNat) H):wpAny (model X.prog X.w) X.A (pyIter (.ref s.heap.objs.size)) (PIE X pins σ tg R) E { s with heap:=s.heap.push { cls:=.type "range",data:=.fields #[.int lo t,.int hi u,.int 1 v] },toks:=tk }:=by
 refine wpAny_pyIter_range (IsRange.new ..) (small_one h1 h2 h3 h4) ?_;have I1:Inv X pins σ H { s with heap:=s.heap.push { cls:=.type "range",data:=.fields #[.int lo t,.int hi u,.int 1 v] },toks:=tk }:=I.kept fun b o e=>ix _ e
 refine ⟨(s.heap.push { cls:=.type "range",data:=.fields #[.int lo t,.int hi u,.int 1 v] }).objs.size,[(s.heap.push { cls:=.type "range",data:=.fields #[.int lo t,.int hi u,.int 1 v] }).objs.size],_,_,H,rfl,
  I1.kept (t':=tk) fun b o e=>ix _ e,Xc _ lo (hi - lo).toNat,?_,fun b hb=>?_,q⟩
 ·have e1:lo+((0:Nat):Int) * 1=lo:=by simp
  have e2:(((hi - lo).toNat:Nat):Int) - ((0:Nat):Int)=Builtin.Range.rangeSize lo hi 1:=by rw [rangeSize_one]; split <;> omega
  show IsRangeIter _ _ (lo+((0:Nat):Int) * 1) ((((hi - lo).toNat:Nat):Int) - ((0:Nat):Int)) 1;rw [e1,e2];exact iI _ rfl
 ·have e:b=(s.heap.push { cls:=.type "range",data:=.fields #[.int lo t,.int hi u,.int 1 v] }).objs.size:=by simpa using hb
  subst e;exact I1.a9c (ic _) (I1.hok.fresh (ic _))
noncomputable def aei (ta:TA):TI:=fun σ H R=>ta σ H fun vs H1=>∃ j:Int,vs=[.int j]/\-(2 ^ 62)<=j/\j<2 ^ 62/\R (Itr 0 j.toNat) H1
theorem a3b {a:Expr} {ta:TA} {p pos:Pos} (hg:Gl X "range") (hm:X.mg "range" = none) (ha:PA X [a] ta) (hs:starEach [a] X.env=[(false,eval a X.env)]:=by rfl):PI X tg (.Call (.Name "range" p) [a] [] pos) (aei ta):=by
 intro pins s σ H R I h;refine Call_ (Mg I hg hm boot_range (lG (thn (ha pos pins s σ H _ I h) fun us s1 z0=>?_) hs rfl));obtain ⟨vs,H1,I1,r1,q1⟩:=z0;obtain ⟨j,e,q1,q2,q⟩:=q1;subst e;cases r1 with
 | cons r rr =>
  cases rr;obtain ⟨t,rfl⟩:=r;exact call_range_1 (a3w I1 (by omega) (by omega) q1 q2 (by simpa using q))
noncomputable def ah6 (wi:TI) (g:TG) (tb:TS):TS:=fun D σ H=>wi σ H fun J H1=>∃ W:Nat->Nat->St->Hp->Prop,(∃ m,W 0 m σ H1)/\∀ i m σ H,W i m σ H ->
 (J.stop i H/\D.nx σ H)\/(J.go i H/\∃ N:St->Hp->Prop,(∀ ag H',N ag H'->∃ m',m'<m/\W (i+1) m' ag H')/\∀ x H',J.yld i H x H'->g x σ H' fun bG H2=>tb { D with nx:=N,ct:=N,bk:=D.nx } bG H2)
def Qu (fp:List Addr) (h:Heap):List (Addr × Obj):=fp.filterMap fun b=>(h.get? b).map fun o=>(b,o)
theorem Cw {fp:List Addr} {h:Heap} {b:Addr} {o:Obj} (hb:b∈fp) (e:h.get? b=some o):(b,o)∈Qu fp h:=List.mem_filterMap.mpr ⟨b,hb,by rw [e]; rfl⟩
theorem a0u {fp:List Addr} {h:Heap} {p:Addr × Obj} (hp:p∈Qu fp h):p.1∈fp/\h.get? p.1=some p.2:=by
 obtain ⟨b,hb,e⟩:=List.mem_filterMap.mp hp;cases q:h.get? b with
 | none=>rw [q] at e; cases e
 | some o =>
  rw [q] at e;have e':(b,o)=p:=jY e;subst e';exact ⟨hb,q⟩
theorem Inv.pinned {pins:List (Addr × Obj)} {σ:St} {H:Hp} {s:Shared} {fp:List Addr} (I:Inv X pins σ H s) (hf:∀ b∈fp,Kr X pins H b) (ho:∀ b∈fp,∃ o,s.heap.get? b=some o/\∀ v,o.data≠.cell v):Inv X (pins++Qu fp s.heap) σ H s :=
 I.Fy fun p hp=>(jn.mp hp).elim (fun z=>I.pin p (js _ z)) fun z=>by
  obtain ⟨hb,e⟩:=a0u z;obtain ⟨f0,f1,f2,_⟩:=hf p.1 hb;obtain ⟨o,e',d⟩:=ho p.1 hb;rw [e] at e'; cases e';exact ⟨e,f0,f1,f2,d⟩
theorem Inv.Gy {pins pl:List (Addr × Obj)} {σ:St} {H:Hp} {s:Shared} (I:Inv X (pins++pl) σ H s):Inv X pins σ H s:=I.Fy fun p hp=>I.pin p (js _ (kq _ hp))
theorem acw {iter:Expr} {body:List Stmt} {wi:TI} {g:TG} {tb:TS} {pos:Pos} (hp:PassesOwn (model X.prog X.w) X.A X.env X.xe) (hc:X.calm=true) (hi:PI X tg iter wi) (hg:PG X tg g) (hb:PSs X body tb)
  (hs:∀ x,foldedSetIterable iter X.env x=pure x:=by intro _; rfl):PS X (.For tg iter body [] pos) (ah6 wi g tb):=by
 intro pins s σ H D I h;refine wpAny_For (thn (hi pins s σ H _ I h) fun v s1 h1=>thn h1 fun b9 s2 h2=>?_) hs;obtain ⟨it,fp,tn,J,H2,e,I2,T,aQ,f2,W,⟨m0,w0⟩,turn⟩:=h2;subst e;have bF:∀ {H':Hp},(∀ b∈fp,H' b=none)->∀ b∈fp,Kr X pins H' b:=fun hn b hb=>⟨hn b hb,(f2 b hb).2⟩;refine codeAny_forLoop_any (fun n s'=>∃ i ag H',Inv X pins ag H' s'/\tn i s'.heap/\(∀ b∈fp,H' b=none)/\W i n ag H') ?_ m0 ⟨0,σ,H2,I2,aQ,fun b hb=>(f2 b hb).1,w0⟩;rintro n s3 ⟨i,bM,H3,I3,st3,fr3,w3⟩;rcases turn i n bM H3 w3 with ⟨stop,qn⟩ | ⟨go,N,hN,step⟩
 ·refine ky hp (thn (T.done X rfl rfl rfl hc i pins s3 bM H3 X.xe I3 (bF fr3) st3 stop) fun r s4 z0=>?_);obtain ⟨hr,I4⟩:=z0;subst hr;exact lF ⟨bM,H3,I4,qn⟩
 ·refine ky hp (thn (T.item X rfl rfl rfl hc i pins s3 bM H3 X.xe I3 (bF fr3) st3 go) fun r s4 z0=>?_);obtain ⟨u,hr,h4⟩:=z0;subst hr;refine ky hp (thn h4 fun _ s5 z0=>?_);obtain ⟨x,H5,I5,r5,y5,st5,fr5⟩:=z0;have gM:=I5.pinned (bF fr5) (T.obj _ _ st5);refine ky hp (thn (hg _ s5 bM H5 x u _ gM r5 (step x H5 y5)) fun _ s6 z0=>?_);obtain ⟨σ6,H6,I6,q6⟩:=z0;refine ky hp (thn (hb _ s6 σ6 H6 _ I6 q6) fun f s7 q7=>?_)
  have again:∀ {bu:St} {H7:Hp},Inv X (pins++Qu fp s5.heap) bu H7 s7->N bu H7->∃ m,m<n/\∃ i ag H',Inv X pins ag H' s7/\tn i s7.heap/\(∀ b∈fp,H' b=none)/\W i m ag H':=fun {bu H7} I7 n7=>by
   obtain ⟨m',hm,w7⟩:=hN bu H7 n7;refine ⟨m',hm,i+1,bu,H7,I7.Gy,T.keep _ _ _ st5 fun b hb o e=>(I7.pin (b,o) (js _ (js _ (Cw hb e)))).1,fun b hb=>?_,w7⟩;obtain ⟨o,e,d⟩:=T.obj _ _ st5 b hb;exact (I7.pin (b,o) (js _ (js _ (Cw hb e)))).2.1
  cases f with
  | next=>obtain ⟨bu,H7,I7,n7⟩:=q7; exact again I7 n7
  | cont=>obtain ⟨bu,H7,I7,n7⟩:=q7; exact again I7 n7
  | brk=>obtain ⟨bu,H7,I7,q7⟩:=q7; exact ⟨bu,H7,I7.Gy,q7⟩
  | ret v=>obtain ⟨x7,bu,H7,I7,r7,q7⟩:=q7; exact ⟨x7,bu,H7,I7.Gy,r7,q7⟩
end
end L2
namespace L2
open PySem PySem.Spec PyProof.Rows
abbrev R2:=V->V->Hp->VK->Prop
def OpR (X:Cx) (f:Value->Value->Sem Value) (r:R2):Prop :=
 ∀ (pins:List (Addr × Obj)) (s:Shared) (σ:St) (H:Hp) (x y:V) (v u:Value) (Q:VK),Inv X pins σ H s->RelV x v->RelV y u->r x y H Q ->
  wpAny (model X.prog X.w) X.A (f v u) (EP X pins σ Q) X.xe s
def UnR (X:Cx) (f:Value->Sem Value) (r:V->Hp->VK->Prop):Prop :=
 ∀ (pins:List (Addr × Obj)) (s:Shared) (σ:St) (H:Hp) (x:V) (v:Value) (Q:VK),Inv X pins σ H s->RelV x v->r x H Q ->
  wpAny (model X.prog X.w) X.A (f v) (EP X pins σ Q) X.xe s
def Jj (X:Cx) (f:Value) (r:List V->Hp->VK->Prop):Prop :=
 ∀ (pins:List (Addr × Obj)) (s:Shared) (σ:St) (H:Hp) (xs:List V) (us:List Value) (Q:VK),Inv X pins σ H s->Vals xs us->r xs H Q ->
  wpAny (model X.prog X.w) X.A (call f us) (EP X pins σ Q) X.xe s
def tOp (r:R2) (ta tb:TE):TE:=fun σ H Q=>ta σ H fun x H1=>tb σ H1 fun y H2=>r x y H2 Q
def tUn (r:V->Hp->VK->Prop) (ta:TE):TE:=fun σ H Q=>ta σ H fun x H1=>r x H1 Q
def rI (C:Int->Int->Prop) (g:Int->Int->V):R2:=fun x y H Q=>∃ i j,x=.int i/\y=.int j/\C i j/\Q (g i j) H
def rI0 (g:Int->Int->V):R2:=fun x y H Q=>∃ i j,x=.int i/\y=.int j/\Q (g i j) H
def rU (g:Int->V):V->Hp->VK->Prop:=fun x H Q=>∃ i,x=.int i/\Q (g i) H
section
variable {X:Cx} {a b c:Expr} {ta tb tc:TE} {pos:Pos}
theorem afs (ha:PE X a ta) (hb:PE X b tb) {pins:List (Addr × Obj)} {s:Shared} {σ:St} {H:Hp} {R:V->V->Hp->Prop} (I:Inv X pins σ H s)
  (h:ta σ H fun x H1=>tb σ H1 fun y H2=>R x y H2) {Q:Value->Shared->Prop} {f:Value->Value->Sem Value}
  (hf:∀ v u s2 x y H2,Inv X pins σ H2 s2->RelV x v->RelV y u->R x y H2->wpAny (model X.prog X.w) X.A (f v u) Q X.xe s2) :
  wpAny (model X.prog X.w) X.A (eval a X.env) (fun v ax=>wpAny (model X.prog X.w) X.A (eval b X.env) (fun u az=>wpAny (model X.prog X.w) X.A (f v u) Q X.xe az) X.xe ax) X.xe s:=by
 refine thn (ha pins s σ H _ I h) fun v s1 z0=>?_;obtain ⟨x,H1,I1,r1,q1⟩:=z0;refine thn (hb pins s1 σ H1 _ I1 q1) fun u s2 z0=>?_;obtain ⟨y,H2,I2,r2,q2⟩:=z0;exact hf v u s2 x y H2 I2 r1 r2 q2
theorem a8i {op:Operator} {r:R2} (ho:OpR X (binaryOp op) r) (ha:PE X a ta) (hb:PE X b tb):PE X (.BinOp a op b pos) (tOp r ta tb):=by
 intro pins s σ H Q I h;exact wpAny_BinOp (afs ha hb I h fun v u s2 x y H2 I2 rx ry q=>ho pins s2 σ H2 x y v u Q I2 rx ry q)
theorem aah {op:UnaryOp} {r:V->Hp->VK->Prop} (ho:UnR X (unaryOp op) r) (ha:PE X a ta):PE X (.UnaryOp op a pos) (tUn r ta):=by
 intro pins s σ H Q I h;exact UnaryOp_ (thn (ha pins s σ H _ I h) fun v s1 z7=>by obtain ⟨x,H1,I1,r1,q1⟩:=z7; exact ho pins s1 σ H1 x v Q I1 r1 q1)
theorem opI {f:Value->Value->Sem Value} {C:Int->Int->Prop} {g:Int->Int->Int}
  (rule:∀ (i j:Int) (t u:Tok) (s:Shared) (Q:Value->Shared->Prop) (E:Value->Shared->Prop),C i j->Q (.int (g i j) s.toks) { s with toks:=s.toks+1 }->wpAny (model X.prog X.w) X.A (f (.int i t) (.int j u)) Q E s) :
  OpR X f (rI C fun i j=>.int (g i j)):=by
 intro pins s σ H x y v u Q I rx ry h;obtain ⟨i,j,rfl,rfl,hc,q⟩:=h;obtain ⟨t,rfl⟩:=rx;obtain ⟨t',rfl⟩:=ry;exact rule i j t t' s _ _ hc ⟨.int (g i j),H,I.tok _,⟨_,rfl⟩,q⟩
theorem ag8 {f:Value->Value->Sem Value} {g:Int->Int->Int}
  (rule:∀ (i j:Int) (t u:Tok) (s:Shared) (Q:Value->Shared->Prop) (E:Value->Shared->Prop),Q (.int (g i j) s.toks) { s with toks:=s.toks+1 }->wpAny (model X.prog X.w) X.A (f (.int i t) (.int j u)) Q E s) :
  OpR X f (rI0 fun i j=>.int (g i j)):=by
 intro pins s σ H x y v u Q I rx ry h;obtain ⟨i,j,rfl,rfl,q⟩:=h;obtain ⟨t,rfl⟩:=rx;obtain ⟨t',rfl⟩:=ry;exact rule i j t t' s _ _ ⟨.int (g i j),H,I.tok _,⟨_,rfl⟩,q⟩
theorem aec {f:Value->Value->Sem Value} {g:Int->Int->Bool}
  (rule:∀ (i j:Int) (t u:Tok) (s:Shared) (Q:Value->Shared->Prop) (E:Value->Shared->Prop),Q (.bool (g i j)) s->wpAny (model X.prog X.w) X.A (f (.int i t) (.int j u)) Q E s) :
  OpR X f (rI0 fun i j=>.bl (g i j)):=by
 intro pins s σ H x y v u Q I rx ry h;obtain ⟨i,j,rfl,rfl,q⟩:=h;obtain ⟨t,rfl⟩:=rx;obtain ⟨t',rfl⟩:=ry;exact rule i j t t' s _ _ ⟨.bl (g i j),H,I,rfl,q⟩
def ags (i j:Int):Prop:=0<=j/\j<=1000000/\i.natAbs<2 ^ 64
def afj (i j:Int):Prop:=(-(2 ^ 64)<i/\i<2 ^ 64)\/(-(2 ^ 64)<j/\j<2 ^ 64)
theorem afj.ok {i j:Int} (h:afj i j):IntMulOk i j:=by
 rcases h with ⟨h1,h2⟩ | ⟨h1,h2⟩
 ·exact .of_left (intBits_le_64 h1 h2)
 ·exact .of_right (intBits_le_64 h1 h2)
theorem acv:OpR X (binaryOp .Add) (rI0 fun i j=>.int (i+j)):=ag8 fun _ _ _ _ _ _ _ q=>add_int q
theorem abn:OpR X (binaryOp .Sub) (rI0 fun i j=>.int (i - j)):=ag8 fun _ _ _ _ _ _ _ q=>sub_int q
theorem abl:OpR X (binaryOp .Mult) (rI afj fun i j=>.int (i * j)):=opI fun _ _ _ _ _ _ _ hc q=>mul_int q hc.ok
theorem abx:OpR X (binaryOp .Mod) (rI (fun _ j=>0<j) fun i j=>.int (i%j)):=opI fun i j _ _ _ _ _ hc q=>by
 have h1:(0:Int)<j:=hc;exact mod_int' (by omega) (by rw [Int.fmod_eq_emod_of_nonneg i (by omega)]; exact q)
theorem adl:OpR X (binaryOp .Pow) (rI ags fun i j=>.int (i ^ j.toNat)):=opI fun _ _ _ _ _ _ _ hc q=>pow_int_small hc.1 hc.2.1 hc.2.2 q
theorem unI {f:Value->Sem Value} {g:Int->Int}
  (rule:∀ (i:Int) (t:Tok) (s:Shared) (Q:Value->Shared->Prop) (E:Value->Shared->Prop),Q (.int (g i) s.toks) { s with toks:=s.toks+1 }->wpAny (model X.prog X.w) X.A (f (.int i t)) Q E s) :
  UnR X f (rU fun i=>.int (g i)):=by
 intro pins s σ H x v Q I rx h;obtain ⟨i,rfl,q⟩:=h;obtain ⟨t,rfl⟩:=rx;exact rule i t s _ _ ⟨.int (g i),H,I.tok _,⟨_,rfl⟩,q⟩
theorem a7p:UnR X (unaryOp .USub) (rU fun i=>.int (-i)):=unI fun _ _ _ _ _ q=>neg_int q
end
section
variable {X:Cx} {a b c:Expr} {ta tb tc:TE} {pos:Pos}
theorem afq:OpR X (compareOp .Lt) (rI0 fun i j=>.bl (decide (i<j))):=aec fun _ _ _ _ _ _ _ q=>lt_int q
theorem aee:OpR X (compareOp .LtE) (rI0 fun i j=>.bl (decide (i<=j))):=aec fun _ _ _ _ _ _ _ q=>le_int q
theorem af0:OpR X (compareOp .Gt) (rI0 fun i j=>.bl (decide (j<i))):=aec fun _ _ _ _ _ _ _ q=>gt_int q
theorem af4:OpR X (compareOp .GtE) (rI0 fun i j=>.bl (decide (j<=i))):=aec fun _ _ _ _ _ _ _ q=>ge_int q
theorem iw (b:Expr) {op:CmpOp} (h:op≠.In:=by decide) (h2:op≠.NotIn:=by decide):behindInMarks op b=false:=by
 have e1:(op==CmpOp.In)=false:=by cases op <;> first | rfl | exact absurd rfl h
 have e2:(op==CmpOp.NotIn)=false:=by cases op <;> first | rfl | exact absurd rfl h2
 cases b <;> simp [behindInMarks,e1,e2]
theorem a2e {op:CmpOp} {r:R2} (ho:OpR X (compareOp op) r) (ha:PE X a ta) (hb:PE X b tb) (hm:behindInMarks op b=false):PE X (.Compare a [op] [b] pos) (tOp r ta tb):=by
 intro pins s σ H Q I h;exact wpAny_Compare1 (afs ha hb I h fun v u s2 x y H2 I2 rx ry q=>ho pins s2 σ H2 x y v u Q I2 rx ry q) hm
def acp (t:TE):TT:=fun σ H Q=>t σ H fun x H'=>∃ k,x=.bl k/\Q k H'
theorem a0b {op:CmpOp} {r:R2} (ho:OpR X (compareOp op) r) (ha:PE X a ta) (hb:PE X b tb) (hm:behindInMarks op b=false):PT X (.Compare a [op] [b] pos) (acp (tOp r ta tb)):=by
 intro pins s σ H Q I h
 refine wpAny_isTrue_Compare1 (thn (ha pins s σ H _ I h) fun v s1 ⟨x,H1,I1,r1,q1⟩=>thn (hb pins s1 σ H1 _ I1 q1) fun u s2 ⟨y,H2,I2,r2,q2⟩ =>
  thn (ho pins s2 σ H2 x y v u _ I2 r1 r2 q2) fun c s3 ⟨z,H3,I3,r3,k,e,q3⟩=>?_) hm
 subst e;cases r3;exact kr ⟨H3,I3,q3⟩
noncomputable def a7e (r r':R2) (ta tb tc:TE):TE:=fun σ H Q=>ta σ H fun x H1=>tb σ H1 fun y H2=>r x y H2 fun z H3=>∃ k,z=.bl k /\
 (if k=true then tc σ H3 fun w' H4=>r' y w' H4 Q else Q (.bl false) H3)
theorem a68 {op bX:CmpOp} {r r':R2} (ho:OpR X (compareOp op) r) (a5:OpR X (compareOp bX) r') (ha:PE X a ta) (hb:PE X b tb) (hc:PE X c tc)
  (hm:lastMarks [op,bX] [b,c]=false:=by with_unfolding_all rfl):PE X (.Compare a [op,bX] [b,c] pos) (a7e r r' ta tb tc):=by
 intro pins s σ H Q I h
 refine Compare_chain (thn (ha pins s σ H _ I h) fun v s1 ⟨x,H1,I1,r1,q1⟩=>chain_link (thn (hb pins s1 σ H1 _ I1 q1) fun u s2 ⟨y,H2,I2,r2,q2⟩ =>
  thn (ho pins s2 σ H2 x y v u _ I2 r1 r2 q2) fun d s3 ⟨z,H3,I3,r3,k,e,q3⟩=>?_)) hm
 subst e;cases r3;refine kr ?_;cases k with
 | false=>exact ite_ff ⟨.bl false,H3,I3,rfl,q3⟩
 | true=>exact ite_tt (chain_last (thn (hc pins s3 σ H3 _ I3 q3) fun w' s4 z7=>by obtain ⟨z',H4,I4,r4,q4⟩:=z7; exact a5 pins s4 σ H4 y z' u w' Q I4 r2 r4 q4))
theorem Lz:(sizeLine:Nat)<2 ^ 63:=by rw [sizeLine_eq]; decide
theorem X3:OpR X (binaryOp .Add) (fun x y H Q=>∃ i j,x=.str i/\y=.str j/\i.length+j.length<=sizeLine/\Q (.str (i++j)) H):=by
 intro pins s σ H x y v u Q I rx ry h;obtain ⟨i,j,rfl,rfl,hz,q⟩:=h;obtain ⟨t,rfl⟩:=rx;obtain ⟨t',rfl⟩:=ry;exact add_str (fun t' tk=>⟨.str (i++j),H,I.tok _,⟨_,rfl⟩,q⟩) hz
theorem vals1 {x:V} {us:List Value} (r:Vals [x] us):∃ u,us=[u]/\RelV x u:=by
 cases r with
 | cons r1 r2=>cases r2; exact ⟨_,rfl,r1⟩
theorem vals2 {x y:V} {us:List Value} (r:Vals [x,y] us):∃ u w',us=[u,w']/\RelV x u/\RelV y w':=by
 cases r with
 | cons r1 r2 =>
  cases r2 with
  | cons r3 r4=>cases r4; exact ⟨_,_,rfl,r1,r3⟩
theorem Yy (hc:X.calm=true):Jj X (.builtin "min") (fun xs H Q=>∃ i j,xs=[.int i,.int j]/\Q (.int (if j<i then j else i)) H):=by
 intro pins s σ H xs us Q I r h;obtain ⟨i,j,rfl,q⟩:=h;obtain ⟨u,w',rfl,⟨t,rfl⟩,⟨t',rfl⟩⟩:=vals2 r;refine min_two_ints (I.ok.hd hc) fun h' tk k=>⟨_,H,I.kept k,?_,q⟩
 by_cases hj:j<i
 ·rw [hU hj,hU hj]; exact ⟨_,rfl⟩
 ·rw [hV hj,hV hj]; exact ⟨_,rfl⟩
end
end L2
namespace L2
open PySem PySem.Spec PyProof.Rows
structure aax (h:Heap) (x dx C:Addr) (mA:Str->Option Value):Prop where
 obj:h.get? x=some (PySem.W.instObj C dx)
 ns:h.Ns1 dx mA
 ne:dx≠x
theorem a1w {h:Heap} {dx:Addr} {mA:Str->Option Value} (n:h.Ns1 dx mA):∃ od,h.get? dx=some od/\∀ name,PySem.W.lookIn name od=some (mA name):=by
 obtain ⟨o,es,ep,ho,hd,hk,_,hm⟩:=n;refine ⟨o,ho,fun name=>?_⟩;have e:=hm name;unfold nsFind findBy at e;rw [<- Array.find?_toList] at e;unfold PySem.W.lookIn;rw [hd];dsimp only;split
 ·rename_i y q;rw [q] at e;exact iX some e
 ·rename_i q;rw [q] at e
  have a:es.toList.any (·.refKey)=false:=by
   rw [List.any_eq_false];intro y hy;obtain ⟨z,t,hkey⟩:=hk y (Array.mem_toList_iff.mp hy);simp [DictEntry.refKey,hkey]
  have a':¬ es.toList.any (·.refKey)=true:=by rw [a]; exact kJ
  rw [hV a'];exact iX some e
theorem aax.look {h:Heap} {x dx C:Addr} {mA:Str->Option Value} (I:aax h x dx C mA):∃ od,PySem.W.InstAt h x (PySem.W.instObj C dx) C (some od)/\∀ name,PySem.W.lookIn name od=some (mA name) :=
 let ⟨od,ho,hl⟩:=a1w I.ns
 ⟨od,⟨I.obj,rfl,rfl,ho⟩,hl⟩
section
variable {prog:Program} {w:World} {A:Around} {E:Value->Shared->Prop} {s:Shared} {K:PySem.W.Frag} {x dx C f:Addr} {mA:Str->Option Value} {name:Str} {v:Value}
theorem get_map {expr:Bool} {Q:Value->Shared->Prop} (X:K.In s.heap) (I:aax s.heap x dx C mA) (hg:PySem.W.plainGet K C name=true) (hh:PySem.W.hasDictIn K C=true)
  (ha:PySem.W.findIn K (.ref C) name=some none) (hv:mA name=some v) (fL:PySem.W.handedIn v=true) (h:Q v { s with toks:=s.toks+1 }) :
  wpAny (model prog w) A (getAttr (.ref x) name expr) Q E s:=by
 obtain ⟨od,J,hl⟩:=I.look;exact PySem.W.get_value X J (mw hg).1 (PySem.W.findObj_own hh ha rfl (by rw [hl,hv])) fL h
theorem a5d {pl:Sem Bool} {Q:Value × List Value->Shared->Prop} (X:K.In s.heap) (I:aax s.heap x dx C mA) (hg:PySem.W.plainGet K C name=true)
  (hf:PySem.W.findIn K (.ref C) name=some (some (.ref f))) (ht:PySem.W.isFn K (.ref f)=true) (hv:mA name=none) (h:Q (.ref f,[.ref x]) s) :
  wpAny (model prog w) A (getMethod (.ref x) name pl) Q E s:=by
 obtain ⟨od,J,hl⟩:=I.look;exact PySem.W.method_fn X J (mw hg).1 (mw hg).2 hf (jI.mp ht) (by show (PySem.W.lookIn name od).map (·.isSome)=some false; rw [hl,hv]; rfl) h
theorem a9y {ns:List Str} {Q:Unit->Shared->Prop} (X:K.In s.heap) (I:aax s.heap x dx C mA)
  (hs:PySem.W.findIn K (.ref C) "__setattr__" = some (some (.builtin "object.__setattr__"))) (hp:PySem.W.plainOver K C=true) (ht:PySem.W.takerIn K C name=some none) (hh:PySem.W.hasDictIn K C=true)
  (hw:PySem.Within mA ns) (bB:ns.length<=sizeLine)
  (h:∀ h',aax h' x dx C (fun y=>if y=name then some v else mA y)->Heap.SameBut dx s.heap h'->Q () { s with heap:=h',toks:=s.toks+2 }) :
  wpAny (model prog w) A (setAttr (.ref x) name v) Q E s:=by
 obtain ⟨od,J,hl⟩:=I.look;refine PySem.W.set_plain X J hs (PySem.W.osa_open (s:={ s with toks:=s.toks+1 }) (r:=none) X J hp ht fun b=>?_);obtain ⟨cd,hc,bS⟩:=PySem.W.any_some hh;have hx:s.heap.get? x=some ⟨.ref C,some dx,.plain,#[]⟩:=I.obj;refine hJ (ia (hJ (hJ (wpAny_loadPart hx (hJ (PySem.W.Looks.here (s:={ s with toks:=s.toks+1 }) (PySem.W.looks_clsIn X hc) ?_))))));rw [bS];refine ia (a:=some dx) (hJ (ia (hJ ?_)));refine wpAny_nsSet1 (s:={ s with toks:=s.toks+1 }) I.ns fun h' dJ aR=>?_;obtain ⟨oD,esD,epD,hoD,hdD,hcD⟩:=dJ.count (PySem.Within.cons name v hw);refine hJ (wpAny_lookBehind hoD (by rw [hdD]; exact pastItsLine_dict (ip hcD (by rw [iA]; omega))) ?_);exact ia (h _ ⟨(aR.2 _ (Ne.symm I.ne)).trans I.obj,dJ,I.ne⟩ aR)
theorem a6x {R:Result->Shared->Prop} {vs:List Value} {kw:List (Str × Value)} (X:K.In s.heap) (hm:PySem.W.makesIn K C=true)
  (hi:PySem.W.findIn K (.ref C) "__init__" = some (some (.ref f))) (hf:PySem.W.typeIn K (.ref f)=some (.type "function"))
  (h:codeAny (model prog w) (A.under (.builtin "type.__call__" ⟨.ref C::vs,kw⟩)) (.call (.ref f) ⟨.ref (s.heap.objs.size+1)::vs,kw⟩) (PySem.W.InitBack (s.heap.objs.size+1) R)
   { s with heap:=(s.heap.push PySem.W.emptyDict).push (PySem.W.instObj C s.heap.objs.size) }) :
  codeAny (model prog w) A (.call (.ref C) ⟨vs,kw⟩) R s:=by
 obtain ⟨hh,g,d,t,os⟩:=s;exact PySem.W.make_core (PySem.W.makes_of X hm) (PySem.W.looks_findIn X hi) (fun self=>PySem.W.bind_fn X self hf) (.inl rfl) h
end
noncomputable def Nr (f:Str) (v:V):List (Str × V)->List (Str × V)
 | []=>[(f,v)]
 | (g,x)::r=>if g=f then (g,v)::r else (g,x)::Nr f v r
theorem Jp (f g:Str) (v:V):∀ fs:List (Str × V),(Nr f v fs).lookup g=if g=f then some v else fs.lookup g
 | []=>by
  show List.lookup g [(f,v)]=_
  by_cases h:g=f
  ·have hb:(g==f)=true:=jI.mpr h;simp only [List.lookup,hb,if_pos h]
  ·have hb:(g==f)=false:=iY.mpr h;simp only [List.lookup,hb,if_neg h]
 | (k,x)::r=>by
  have ih:=Jp f g v r;rw [show Nr f v ((k,x)::r)=(if k=f then (k,v)::r else (k,x)::Nr f v r) from rfl]
  by_cases hk:k=f
  ·rw [hU hk]
   by_cases h:g=k
   ·have hb:(g==k)=true:=jI.mpr h;simp only [List.lookup,hb,if_pos (h.trans hk)]
   ·have hb:(g==k)=false:=iY.mpr h;simp only [List.lookup,hb,if_neg (fun e:g=f=>h (e.trans hk.symm))]
  ·rw [hV hk]
   by_cases h:g=k
   ·have hb:(g==k)=true:=jI.mpr h;simp only [List.lookup,hb,if_neg (fun e:g=f=>hk (h.symm.trans e))]
   ·have hb:(g==k)=false:=iY.mpr h;simp only [List.lookup,hb];exact ih
theorem Jv (f:Str) (v:V):∀ fs:List (Str × V),f∈(Nr f v fs).map (·.1)/\∀ g,g∈fs.map (·.1)->g∈(Nr f v fs).map (·.1)
 | []=>⟨by simp [Nr],fun g h=>by simp at h⟩
 | (k,x)::r=>by
  obtain ⟨i1,i2⟩:=Jv f v r;rw [show Nr f v ((k,x)::r)=(if k=f then (k,v)::r else (k,x)::Nr f v r) from rfl]
  by_cases hk:k=f
  ·rw [hU hk];subst hk;exact ⟨by simp,fun g h=>by simpa using h⟩
  ·rw [hV hk];refine ⟨?_,fun g h=>?_⟩
   ·rw [iL];exact ij _ i1
   ·rw [iL] at h ⊢;rcases ir.mp h with e | e
    ·exact ir.mpr (.inl e)
    ·exact ij _ (i2 g e)
theorem Ka (f:Str) (v:V):∀ fs:List (Str × V),(Nr f v fs).length<=fs.length+1
 | []=>by simp [Nr]
 | (k,x)::r=>by
  have ih:=Ka f v r;rw [show Nr f v ((k,x)::r)=(if k=f then (k,v)::r else (k,x)::Nr f v r) from rfl]
  by_cases hk:k=f
  ·rw [hU hk,iA,iA]; omega
  ·rw [hV hk,iA,iA]; omega
theorem Oe.some_of {v:V} {o:Option Value} (r:Oe (some v) o):∃ u,o=some u/\RelV v u:=by
 cases o with
 | none=>exact (show False from r).elim
 | some u=>exact ⟨u,rfl,r⟩
theorem Oe.none_of {o:Option Value} (r:Oe none o):o=none:=by
 cases o with
 | none=>rfl
 | some u=>exact (show False from r).elim
theorem a2z {v:V} {u:Value} (r:RelV v u):PySem.W.handedIn u=true:=by
 cases v with
 | non=>cases (show u=Value.none from r); rfl
 | bl b=>cases (show u=Value.bool b from r); rfl
 | int i=>obtain ⟨t,e⟩:=(show ∃ t,u=Value.int i t from r); cases e; rfl
 | str x=>obtain ⟨t,e⟩:=(show ∃ t,u=Value.str x t from r); cases e; rfl
 | byt b=>obtain ⟨t,e⟩:=(show ∃ t,u=Value.bytes b t from r); cases e; rfl
 | flt b=>obtain ⟨t,e⟩:=(show ∃ t,u=Value.float b t from r); cases e; rfl
 | ref a=>cases (show u=Value.ref a from r); rfl
 | ty n=>cases (show u=Value.type n from r); rfl
section
variable {P:Program} {w:World} {H H':Hp} {h h':Heap} {a C dx:Addr} {fs cY:List (Str × V)}
theorem Nq (hok:HOk P w H h) (e:H a=some (.ins C dx fs)):∃ mA,aax h a dx C mA/\(∀ f,Oe (fs.lookup f) (mA f))/\PySem.Within mA (fs.map (·.1))/\fs.length<=1000/\H dx=some (.own a):=by
 obtain ⟨d,z,ne,ob,mA,n,r,q⟩:=(show vq P w H h a (.ins C dx fs) from hok a _ e);exact ⟨mA,⟨ob,n,ne⟩,r,q,z,d⟩
end
structure Cls (K:PySem.W.Frag) (C:Addr):Prop where
 pg:PySem.W.plainGet K C Str.empty=true
 hd:PySem.W.hasDictIn K C=true
 po:PySem.W.plainOver K C=true
 sa:PySem.W.findIn K (.ref C) "__setattr__" = some (some (.builtin "object.__setattr__"))
theorem Cls.get {K:PySem.W.Frag} {C:Addr} (c:Cls K C) (f:Str):PySem.W.plainGet K C f=true:=c.pg
def Ft (K:PySem.W.Frag) (C:Addr) (f:Str):Prop:=PySem.W.findIn K (.ref C) f=some none
theorem Ft.taker {K:PySem.W.Frag} {C:Addr} {f:Str} (n:Ft K C f):PySem.W.takerIn K C f=some none:=by
 unfold PySem.W.takerIn;rw [show PySem.W.findIn K (.ref C) f=some none from n];rfl
structure Con (K:PySem.W.Frag) (C:Addr) (f:Str) (v:V) (u:Value):Prop where
 at_:PySem.W.findIn K (.ref C) f=some (some u)
 rel:RelV v u
 get:PySem.W.specialIn K u "__get__" = some none
 cp:PySem.W.copiedNames.contains f=false
structure Meth (K:PySem.W.Frag) (C:Addr) (m:Str) (f:Addr):Prop where
 at_:PySem.W.findIn K (.ref C) m=some (some (.ref f))
 fn:PySem.W.isFn K (.ref f)=true
 kp:PySem.W.keepIn K (.ref f)=true
section
variable {X:Cx} {pins:List (Addr × Obj)} {σ:St} {H:Hp} {s:Shared} {a C dx:Addr} {fs:List (Str × V)} {f:Str} {v:V} {A:Around} {E:Value->Shared->Prop}
theorem Y0 {b:Bool} {Q:Value->Shared->Prop} (I:Inv X pins σ H s) (e:H a=some (.ins C dx fs)) (c:Cls X.K C) (n:Ft X.K C f) (l:fs.lookup f=some v)
  (h:∀ u s',Inv X pins σ H s'->RelV v u->Q u s'):wpAny (model X.prog X.w) A (getAttr (.ref a) f b) Q E s:=by
 obtain ⟨mA,O,r,_,_,_⟩:=Nq I.hok e;obtain ⟨u,hu,ru⟩:=Oe.some_of (v:=v) (o:=mA f) (by rw [<- l]; exact r f);exact get_map I.kIn O (c.get f) c.hd n hu (a2z ru) (h u _ (I.tok _) ru)
theorem Lr {m:Str} {g:Addr} {pl:Sem Bool} {Q:Value × List Value->Shared->Prop} (I:Inv X pins σ H s) (e:H a=some (.ins C dx fs)) (c:Cls X.K C) (k:Meth X.K C m g) (l:fs.lookup m=none)
  (h:Q (.ref g,[.ref a]) s):wpAny (model X.prog X.w) A (getMethod (.ref a) m pl) Q E s:=by
 obtain ⟨mA,O,r,_,_,_⟩:=Nq I.hok e;have hn:mA m=none:=Oe.none_of (by rw [<- l]; exact r m);exact a5d I.kIn O (c.get m) k.at_ k.fn hn h
theorem Xp {y:V} {u:Value} {Q:Unit->Shared->Prop} (I:Inv X pins σ H s) (e:H a=some (.ins C dx fs)) (c:Cls X.K C) (n:Ft X.K C f) (hl:fs.length<1000) (ry:RelV y u)
  (h:∀ s',Inv X pins σ (upd H a (.ins C dx (Nr f y fs))) s'->Q () s'):wpAny (model X.prog X.w) A (setAttr (.ref a) f u) Q E s:=by
 obtain ⟨mA,O,r,wi,_,ho⟩:=Nq I.hok e;have hz:(fs.map (·.1)).length<=sizeLine:=by rw [hZ,sizeLine_eq]; omega
 refine a9y I.kIn O c.sa c.po n.taker c.hd wi hz fun h' O' sb=>h _ ?_;have hd:∃ o,h'.get? dx=some o:=let ⟨o,_,_,e',_⟩:=O'.ns; ⟨o,e'⟩;refine I.write (x:=a) (e:=dx) (by rw [e]; exact True.intro) (.inr ho) (fun b q hb z=>(sb.2 b hb).trans z) hd ?_;refine ⟨by rw [gw O.ne]; exact ho,?_,O.ne,O'.obj,_,O'.ns,fun g=>?_,fun g hg=>?_⟩
 ·have:=Ka f y fs; omega
 ·show Oe ((Nr f y fs).lookup g) (if g=f then some u else mA g);rw [Jp]
  by_cases q:g=f
  ·rw [hU q,hU q]; exact ry
  ·rw [hV q,hV q]; exact r g
 ·by_cases q:g=f
  ·rw [q]; exact (Jv f y fs).1
  ·refine (Jv f y fs).2 g (wi g fun z=>hg ?_);show (if g=f then some u else mA g)=none;rw [hV q]; exact z
theorem Inv.made (I:Inv X pins σ H s):Inv X pins σ (upd (upd H s.heap.objs.size (.own (s.heap.objs.size+1))) (s.heap.objs.size+1) (.ins C s.heap.objs.size []))
  { s with heap:=(s.heap.push PySem.W.emptyDict).push (PySem.W.instObj C s.heap.objs.size) }:=by
 have e1:(s.heap.push PySem.W.emptyDict).get? s.heap.objs.size=some PySem.W.emptyDict:=iI s.heap rfl
 have e2:((s.heap.push PySem.W.emptyDict).push (PySem.W.instObj C s.heap.objs.size)).get? (s.heap.objs.size+1)=some (PySem.W.instObj C s.heap.objs.size):=by
  have:=iI (s.heap.push PySem.W.emptyDict) (o:=PySem.W.instObj C s.heap.objs.size) rfl
  rwa [jU] at this
 have e3:(s.heap.push PySem.W.emptyDict).Ns s.heap.objs.size (fun _=>none):=⟨PySem.W.emptyDict,#[],_,e1,rfl,(fun e he=>absurd he (by simp)),fun _=>rfl⟩;have I1:=I.laid (a:=s.heap.objs.size) (o:=.own (s.heap.objs.size+1)) (h':=s.heap.push PySem.W.emptyDict) (t':=s.toks) (fun b u q=>ix _ q) (ic _) ⟨_,e1⟩;refine I1.laid (a:=s.heap.objs.size+1) (o:=.ins C s.heap.objs.size []) (t':=s.toks) (fun b u q=>ix _ q) (kU (jU _ _)) ?_;have ne:s.heap.objs.size≠s.heap.objs.size+1:=iQ (jZ _);refine ⟨by rw [gw ne,dj],iZ _,ne,e2,fun _=>none,(Heap.Ns1.of_empty e3).at fun o q=>ix _ q,fun _=>True.intro,fun y hy=>absurd rfl hy⟩
theorem aam {prog:Program} {w:World} {env:Env} {e:Expr} {f:Str} {pos:Pos} {s:Shared} {Q:Value->Shared->Prop} (hb:attributeBase e f env (eval e env)=eval e env)
  (h:wpAny (model prog w) A (eval e env) (fun o ax=>wpAny (model prog w) A (getAttr o f true) Q E ax) E s):wpAny (model prog w) A (eval (.Attribute e f pos) env) Q E s :=
 Attribute_any_ h (by rw [arm_eval_Attribute,hb])
end
noncomputable def agl (K:PySem.W.Frag) (ta:TE) (f:Str):TE:=fun σ H Q=>ta σ H fun x H1=>∃ a C dx fs v,x=.ref a/\H1 a=some (.ins C dx fs)/\Cls K C/\Ft K C f/\fs.lookup f=some v/\Q v H1
noncomputable def ago (K:PySem.W.Frag) (ta tv:TE) (f:Str):TS:=fun D σ H=>tv σ H fun y H1=>ta σ H1 fun x H2=>∃ a C dx fs,x=.ref a/\H2 a=some (.ins C dx fs)/\Cls K C/\Ft K C f/\fs.length<1000 /\
 D.nx σ (upd H2 a (.ins C dx (Nr f y fs)))
section
variable {X:Cx} {o e value:Expr} {f:Str} {pos pos' aM:Pos} {ta tv:TE}
theorem ad5 (he:PE X e ta) (hb:attributeBase e f X.env (eval e X.env)=eval e X.env):PE X (.Attribute e f pos) (agl X.K ta f):=by
 intro pins s σ H Q I h;refine aam hb (thn (he pins s σ H _ I h) fun u s1 z0=>?_);obtain ⟨x,H1,I1,rx,a,C,dx,fs,v,ex,ea,c,n,l,q⟩:=z0;subst ex;obtain rfl:u=Value.ref a:=rx;exact Y0 I1 ea c n l fun u' s2 I2 ru=>⟨v,H1,I2,ru,q⟩
theorem abw (ha:PE X o ta) (hv:PE X value tv) (hs:swapsWith value (some (.Attribute o f pos')) pos.line X.env=pure false):PS X (.Assign [.Attribute o f pos'] value pos) (ago X.K ta tv f):=by
 intro pins s σ H D I h;refine plainObj_wpAny_Assign_Attribute (thn (hv pins s σ H _ I h) fun u s1 ⟨y,H1,I1,ry,q⟩=>thn (ha pins s1 σ H1 _ I1 q) fun ov s2 ⟨x,H2,I2,rx,a,C,dx,fs,ex,ea,c,n,l,q2⟩=>?_) hs;subst ex;obtain rfl:ov=Value.ref a:=rx;exact Xp I2 ea c n l ry fun s3 I3=>⟨σ,_,I3,q2⟩
end
section
variable {X:Cx} {pins:List (Addr × Obj)} {σ:St} {H:Hp} {s:Shared} {A:Around} {E:Value->Shared->Prop} {Q:Value->Shared->Prop} {c:Value} {b:Bool}
inductive Yo (K:PySem.W.Frag) (H:Hp):V->Value->Prop where
 | non:Yo K H .non (.type "NoneType")
 | bl (x:Bool):Yo K H (.bl x) (.type "bool")
 | int (i:Int):Yo K H (.int i) (.type "int")
 | str (x:Str):Yo K H (.str x) (.type "str")
 | flt (x:UInt64):Yo K H (.flt x) (.type "float")
 | lst {a:Addr} {xs:List V} (e:H a=some (.lst xs)):Yo K H (.ref a) (.type "list")
 | frz {a:Addr} {o:Obj} {xs:List V} (e:H a=some (.frz o (.lst xs))):Yo K H (.ref a) (.type "list")
 | tup {a:Addr} {xs:List V} (e:H a=some (.tup xs)):Yo K H (.ref a) (.type "tuple")
 | dK {a:Addr} {ai:List (Key × V)} (e:H a=some (.dK ai)):Yo K H (.ref a) (.type "dict")
 | dT {a:Addr} {ai:List (List Key × V)} (e:H a=some (.dT ai)):Yo K H (.ref a) (.type "dict")
 | ins {a C dx:Addr} {fs:List (Str × V)} (e:H a=some (.ins C dx fs)) (cl:Cls K C) (ha:PySem.W.findIn K (.ref C) "__class__" = some (some (.builtin "object.__class__")))
   (hn:PySem.W.specialIn K (.builtin "object.__class__") "__get__" = some (some (.builtin "getset_descriptor.__get__"))) (fh:PySem.W.takesIn K (.builtin "object.__class__")=some true)
   (hm:PySem.W.mroIn K C (.type "object")=some true):Yo K H (.ref a) (.ref C)
theorem Gk {x:V} {u t:Value} (I:Inv X pins σ H s) (rx:RelV x u) (ty:Yo X.K H x t) (e:PySem.W.kitOne X.K t c=some b) (h:∀ tk,Q (.bool b) { s with toks:=tk }) :
  wpAny (model X.prog X.w) A (call (.builtin "isinstance") [u,c]) Q E s:=by
 cases ty with
 | non=>cases (show u=Value.none from rx); exact jB PySem.W.kitx_none I.kIn True.intro e (fun z=>nomatch z) h
 | bl y=>cases (show u=Value.bool y from rx); exact jB PySem.W.kitx_bool I.kIn True.intro e (fun z=>nomatch z) h
 | int i=>obtain ⟨t,q⟩:=(show ∃ t,u=Value.int i t from rx); cases q; exact jB PySem.W.kitx_int I.kIn True.intro e (fun z=>nomatch z) h
 | str y=>obtain ⟨t,q⟩:=(show ∃ t,u=Value.str y t from rx); cases q; exact jB PySem.W.kitx_str I.kIn True.intro e (fun z=>nomatch z) h
 | flt y=>obtain ⟨t,q⟩:=(show ∃ t,u=Value.float y t from rx); cases q; exact jB PySem.W.kitx_float I.kIn True.intro e (fun z=>nomatch z) h
 | @lst a xs ea =>
  cases (show u=Value.ref a from rx);obtain ⟨_,_,n,_,h1⟩:=(show vq X.prog X.w H s.heap a (.lst xs) from I.hok a _ ea);exact jB lH I.kIn ⟨_,h1,rfl⟩ e (fun z=>nomatch z) h
 | @frz a ob xs ea =>
  cases (show u=Value.ref a from rx);obtain ⟨_,_,_,n,_,h1⟩:=(show vq X.prog X.w H s.heap a (.frz ob (.lst xs)) from I.hok a _ ea);exact jB lH I.kIn ⟨_,h1,rfl⟩ e (fun z=>nomatch z) h
 | @tup a xs ea =>
  cases (show u=Value.ref a from rx);obtain ⟨_,_,_,p⟩:=(show vq X.prog X.w H s.heap a (.tup xs) from I.hok a _ ea);obtain ⟨o,h1,h2,_⟩:=p;exact jB PySem.W.kitx_tuple I.kIn ⟨o,h1,h2⟩ e (fun z=>nomatch z) h
 | @dK a ai ea =>
  cases (show u=Value.ref a from rx);obtain ⟨_,_,vs,_,p⟩:=(show vq X.prog X.w H s.heap a (.dK ai) from I.hok a _ ea);obtain ⟨o,es,ep,h1,h2,_⟩:=p;exact jB my I.kIn ⟨o,h1,h2.1⟩ e (fun z=>nomatch z) h
 | @dT a ai ea =>
  cases (show u=Value.ref a from rx);obtain ⟨_,_,xs,_,o,es,ep,h1,h2,_⟩:=(show vq X.prog X.w H s.heap a (.dT ai) from I.hok a _ ea);exact jB my I.kIn ⟨o,h1,h2.1⟩ e (fun z=>nomatch z) h
 | @ins a C dx fs ea cl ha hn fh hm =>
  cases (show u=Value.ref a from rx);obtain ⟨mA,O,_⟩:=Nq I.hok ea;obtain ⟨od,J,_⟩:=O.look;exact jB (PySem.W.kitx_own (cl.get _) cl.hd ha hn fh hm) I.kIn J e (fun z=>nomatch z) h
end
end L2
namespace L2
open PySem PySem.Spec PyProof.Rows
structure Cj (k:Nat) (A:Around):Prop where
 hd:A.handled=none
 dp:A.depth+3 * k+5<recursionLimit
 un:A.units+16 * k+200<cLine
theorem Cj.mono {j k:Nat} {A:Around} (r:Cj k A) (h:j<=k):Cj j A:=⟨r.hd,by have:=r.dp; omega,by have:=r.un; omega⟩
theorem Cj.deeper {k:Nat} {A:Around} (r:Cj (k+1) A) (env:Env):Cj k (A.deeper env) :=
 ⟨r.hd,by have:=r.dp; show A.depth+1+3 * k+5<_; omega,by have:=r.un; show A.units+3+16 * k+200<_; omega⟩
theorem Yi {A:Around} {C:Addr} {us:List Value} {kw:List (Str × Value)}:(A.under (.builtin "type.__call__" ⟨.ref C::us,kw⟩)).depth=A.depth+1:=by
 first | rfl | simp [Around.under,Code.weight,Code.isCreation,Code.isGuard,Code.isCaller,Code.frames,Code.isFrame,guardIds]
theorem Yd {A:Around} {C:Addr} {us:List Value} {kw:List (Str × Value)}:(A.under (.builtin "type.__call__" ⟨.ref C::us,kw⟩)).units=A.units+1:=by
 first | rfl | simp [Around.under,Code.cUnits,Code.frames,Code.isFrame]
theorem Cj.make {k:Nat} {A:Around} (r:Cj (k+1) A) (C:Addr) (us:List Value) (kw:List (Str × Value)):Cj k (A.under (.builtin "type.__call__" ⟨.ref C::us,kw⟩)) :=
 ⟨r.hd,by have:=r.dp; rw [Yi]; omega,by have:=r.un; rw [Yd]; omega⟩
theorem Cj.depth {k:Nat} {A:Around} (r:Cj k A):A.depth<recursionLimit:=by have:=r.dp; omega
theorem Cj.units {k:Nat} {A:Around} (r:Cj k A):A.units+64<cLine:=by have:=r.un; omega
def a3q:TA:=fun _ H Q=>Q [] H
def J3 (ta:TE) (tr:TA):TA:=fun σ H Q=>ta σ H fun x H1=>tr σ H1 fun xs H2=>Q (x::xs) H2
section
variable {X:Cx} {e:Expr} {es:List Expr} {te:TE} {t:TA} {pos:Pos}
theorem su:PA X [] a3q:=fun _ _ _ _ H Q I h=>Calls.spliced_nil ⟨[],H,I,.nil,h⟩
theorem lu (ha:PE X e te) (hr:PA X es t) (hs:starEach (e::es) X.env=(false,eval e X.env)::starEach es X.env:=by rfl):PA X (e::es) (J3 te t):=by
 intro pos pins s σ H Q I h;rw [hs];show wpAny _ _ (spliced ((false,eval e X.env)::backTo pos (starEach es X.env))) _ _ s;refine Calls.spliced_cons (thn (ha pins s σ H _ I h) fun u s1 z0=>?_);obtain ⟨x,H1,I1,r1,q1⟩:=z0;exact thn (hr pos pins s1 σ H1 _ I1 q1) fun us s2 ⟨xs,H2,I2,r2,q2⟩=>⟨x::xs,H2,I2,.cons r1 r2,q2⟩
noncomputable def agz (t:TA):TE:=fun σ H Q=>t σ H fun xs H1=>xs.length<=sizeLine/\∀ p,H1 p=none->Q (.ref p) (upd H1 p (.tup xs))
noncomputable def agn (t:TA):TE:=fun σ H Q=>t σ H fun xs H1=>xs.length<=sizeLine/\∀ p,H1 p=none->Q (.ref p) (upd H1 p (.lst xs))
theorem a7d {x1} (h:PA X es t):PE X (.Tuple es x1 pos) (agz t):=by
 intro pins s σ H Q I hq;refine wpAny_Tuple_spliced (thn (h pos pins s σ H _ I hq) fun us s1 ⟨xs,H1,I1,r,z,q⟩=>⟨by rw [<- r.length]; exact z,?_⟩);have hf:H1 s1.heap.objs.size=none:=I1.hok.fresh (ic _);refine ⟨.ref s1.heap.objs.size,upd H1 s1.heap.objs.size (.tup xs),I1.laid (t':=s1.toks) (fun b u e=>ix _ e) (ic _) ?_,rfl,q _ hf⟩;exact ⟨z,us,r,⟨_,iI _ rfl,rfl,rfl,_,rfl⟩⟩
theorem a2p (h:PA X es t):PE X (.List es pos) (agn t):=by
 intro pins s σ H Q I hq;refine wpAny_List_spliced (thn (h pos pins s σ H _ I hq) fun us s1 ⟨xs,H1,I1,r,z,q⟩=>⟨by rw [<- r.length]; exact z,?_⟩);have hf:H1 s1.heap.objs.size=none:=I1.hok.fresh (ic _);refine ⟨.ref s1.heap.objs.size,upd H1 s1.heap.objs.size (.lst xs),I1.laid (t':=s1.toks) (fun b u e=>ix _ e) (ic _) ?_,rfl,q _ hf⟩;exact ⟨z,us,0,r,iI _ rfl⟩
end
abbrev Sp:=List V->Hp->VK->XK->Prop
abbrev CXT:=List Env->Hp->Shared->XK->Value->Shared->Prop
structure a99 (P:Program) (w:World) (K:PySem.W.Frag) (mg:Str->Option Value) (base:Heap) (A:Around) (outer:List Env) (s:Shared) (H:Hp):Prop where
 frames:A.frames=some outer
 mod:Mod K mg base
 bs:∀ b o,base.get? b=some o->s.heap.get? b=some o/\H b=none
 bsz:base.objs.size<=s.heap.objs.size
 Yj:s.heap.FunFrames base outer
 frf:∀ b∈frs outer,H b=none
 hok:HOk P w H s.heap
 bare:AllBare s.gens
def CE (outer:List Env) (P:Program) (w:World) (H:Hp) (s:Shared) (Q:VK) (u:Value) (s':Shared):Prop :=
 ∃ v H',s'.os=s.os/\AllBare s'.gens/\Un (frs outer) [] H H' s.heap s'.heap/\HOk P w H' s'.heap/\RelV v u/\Q v H'
def CR (CX:CXT) (outer:List Env) (P:Program) (w:World) (H:Hp) (s:Shared) (Q:VK) (E:XK) (r:Result) (s':Shared):Prop :=
 match r with
 | .ok (.ret u)=>CE outer P w H s Q u s'
 | .ok _=>False
 | .error e=>CX outer H s E e s'
structure Du (P:Program) (w:World) (K:PySem.W.Frag) (mg:Str->Option Value) (base:Heap) (CX:CXT) (k:Nat) (f:Addr) (fd:FuncData) (ps:List Str) (sp:Sp):Prop where
 len:∀ vs H Q E,sp vs H Q E->vs.length=ps.length
 run:∀ (A:Around) (outer:List Env) (s:Shared) (H:Hp) (args:Args) (us:List Value) (vs:List V) (Q:VK) (E:XK),Cj k A->a99 P w K mg base A outer s H->BindsTo s fd args (ps.zip us)->Vals vs us->sp vs H Q E ->
  codeAny (model P w) A (.call (.ref f) args) (CR CX outer P w H s Q E) s
theorem Du.mono {P:Program} {w:World} {K:PySem.W.Frag} {mg:Str->Option Value} {base:Heap} {CX:CXT} {j k:Nat} {f:Addr} {fd:FuncData} {ps:List Str} {sp:Sp} (F:Du P w K mg base CX j f fd ps sp) (h:j<=k) :
  Du P w K mg base CX k f fd ps sp:=⟨F.len,fun A outer s H args us vs Q E hr=>F.run A outer s H args us vs Q E (hr.mono h)⟩
theorem Du.imp {P:Program} {w:World} {K:PySem.W.Frag} {mg:Str->Option Value} {base:Heap} {CX:CXT} {k:Nat} {f:Addr} {fd:FuncData} {ps:List Str} {sp eQ:Sp} (F:Du P w K mg base CX k f fd ps sp)
  (h:∀ vs H Q E,eQ vs H Q E->sp vs H Q E):Du P w K mg base CX k f fd ps eQ :=
 ⟨fun vs H Q E q=>F.len vs H Q E (h _ _ _ _ q),fun A outer s H args us vs Q E hr he hb hv hs=>F.run A outer s H args us vs Q E hr he hb hv (h _ _ _ _ hs)⟩
theorem a99.make {P:Program} {w:World} {K:PySem.W.Frag} {mg:Str->Option Value} {base:Heap} {A:Around} {outer:List Env} {s:Shared} {H:Hp} (e:a99 P w K mg base A outer s H) (C:Addr) (us:List Value) (kw:List (Str × Value)) :
  a99 P w K mg base (A.under (.builtin "type.__call__" ⟨.ref C::us,kw⟩)) outer s H:=⟨by first | exact e.frames | (simpa [Around.under,Code.envs,Code.isFrame,pushEnvs] using e.frames),e.mod,e.bs,e.bsz,e.Yj,e.frf,e.hok,e.bare⟩
section
variable {X:Cx} {pins:List (Addr × Obj)} {σ:St} {H:Hp} {s s':Shared}
theorem Inv.env0 (I:Inv X pins σ H s):a99 X.prog X.w X.K X.mg X.base X.A X.stack s H :=
 ⟨I.ok.frames,I.ok.mod,I.bs,ip I.ok.bsz I.sz,I.stack,I.Rv,I.hok,I.bare⟩
theorem Inv.after {Q:VK} {u:Value} (I:Inv X pins σ H s) (h:CE X.stack X.prog X.w H s Q u s'):EP X pins σ Q u s':=by
 obtain ⟨v,H',os,bare,un,hok,r,q⟩:=h;obtain ⟨hh,g,d,t,os'⟩:=s';obtain rfl:os'=s.os:=os;exact ⟨v,H',I.call (h':=hh) (g':=g) (d':=d) (t':=t) (ch:=[]) un hok bare (fun b z=>absurd z (by simp)),r,q⟩
end
def aep (sp:Sp) (aZ:List V) (E:XK) (t:TA):TE:=fun σ H Q=>t σ H fun vs H1=>sp (vs++aZ) H1 Q E
noncomputable def acg (C:Addr) (m:Str) (sp:Sp) (aZ:List V) (E:XK) (ta:TE) (t:TA):TE:=fun σ H Q=>ta σ H fun x H1=>∃ a dx fs,x=.ref a/\H1 a=some (.ins C dx fs)/\fs.lookup m=none /\
 t σ H1 fun vs H2=>sp (x::(vs++aZ)) H2 Q E
noncomputable def afn (C:Addr) (sp:Sp) (aZ:List V) (E:XK) (t:TA):TE:=fun σ H Q=>t σ H fun vs H1=>∀ x dx,H1 x=none->H1 dx=none->dx≠x ->
 sp (.ref x::(vs++aZ)) (upd (upd H1 dx (.own x)) x (.ins C dx [])) (fun v H2=>v=.non/\Q (.ref x) H2) E
def Binds (K:PySem.W.Frag) (fd:FuncData) (ps:List Str) (ds:List Value):Prop :=
 ∀ (s:Shared) (us:List Value),K.In s.heap->(us++ds).length=ps.length->BindsTo s fd ⟨us,[]⟩ (ps.zip (us++ds))
theorem Binds.all {K:PySem.W.Frag} {fd:FuncData} {ps:List Str} (h:∀ us:List Value,us.length=ps.length->bindArgs fd ⟨us,[]⟩=pure (ps.zip us)):Binds K fd ps []:=fun s us _ hl=>by
 rw [iU] at hl ⊢;exact .of_eq (h us hl)
def Passes (CX:CXT) (X:Cx) (E:XK):Prop:=∀ (pins:List (Addr × Obj)) (σ:St) (H:Hp) (s:Shared) (e:Value) (s':Shared),Inv X pins σ H s->CX X.stack H s E e s'->X.xe e s'
section
variable {X:Cx} {CX:CXT} {k:Nat} {f C:Addr} {fd:FuncData} {ps:List Str} {sp:Sp} {aZ:List V} {ds:List Value} {E:XK} {x m:Str} {p pos apos:Pos} {e o:Expr} {es:List Expr} {ta:TE} {t:TA}
theorem a3j {pins:List (Addr × Obj)} {σ:St} {H:Hp} {s:Shared} {Q:VK} {us:List Value} {vs:List V} (F:Du X.prog X.w X.K X.mg X.base CX k f fd ps sp) (hr:Cj k X.A) (hb:Binds X.K fd ps ds) (hd:Vals aZ ds) (hx:Passes CX X E)
  (I:Inv X pins σ H s) (r:Vals vs us) (h:sp (vs++aZ) H Q E):wpAny (model X.prog X.w) X.A (call (.ref f) us) (EP X pins σ Q) X.xe s:=by
 have r2:Vals (vs++aZ) (us++ds):=r.append hd;have hl:(us++ds).length=ps.length:=by rw [<- r2.length]; exact F.len _ _ _ _ h
 refine wpAny_call (kK (F.run X.A X.stack s H ⟨us,[]⟩ (us++ds) (vs++aZ) Q E hr I.env0 (hb s us I.kIn hl) r2 h) fun r s' hq=>?_);cases r with
 | error e=>exact hx pins σ H s e s' I hq
 | ok fl =>
  cases fl with
  | ret u=>exact I.after hq
  | next=>exact False.elim hq
  | brk=>exact False.elim hq
  | cont=>exact False.elim hq
theorem a00 (F:Du X.prog X.w X.K X.mg X.base CX k f fd ps sp) (hr:Cj k X.A) (hg:Gl X x) (hm:X.mg x=some (.ref f)) (hk:PySem.W.keepIn X.K (.ref f)=true) (hb:Binds X.K fd ps ds) (hd:Vals aZ ds) (hx:Passes CX X E)
  (ha:PA X (e::es) t) (aX:(x==("__debug__" : Str))=false:=by decide) (he:starEach (e::es) X.env=(false,eval e X.env)::starEach es X.env:=by rfl) (aN:(backTo pos (starEach es X.env)).any (·.1)=false:=by rfl) :
  PE X (.Call (.Name x p) (e::es) [] pos) (aep sp aZ E t):=by
 intro pins s σ H Q I h;refine kW (O9 I hg hm ?_ aX);refine lI (h₀:=X.base) I.ok.mod.kin hk (thn (ha pos pins s σ H _ I h) fun us s1 ⟨vs,H1,I1,r,q⟩=>⟨I1.kIn,?_⟩) he aN;exact a3j F hr hb hd hx I1 r q
theorem a94 {pl:Sem Bool} (he:PE X o ta) (c:Cls X.K C) (hm:Meth X.K C m f) (F:Du X.prog X.w X.K X.mg X.base CX k f fd ps sp) (hr:Cj k X.A) (hb:Binds X.K fd ps ds) (hd:Vals aZ ds) (hx:Passes CX X E) (ha:PA X (e::es) t)
  (hst:starEach (e::es) X.env=(false,eval e X.env)::starEach es X.env:=by rfl) (aN:(backTo pos (starEach es X.env)).any (·.1)=false:=by rfl)
  (ht:eval (.Call (.Attribute o m apos) (e::es) [] pos) X.env=(do
   let ov <- eval o X.env
   standAt apos.atName
   let (f,first) <- holding [ov] (getMethod ov m pl)
   callWith pos f first (backTo pos (starEach (e::es) X.env)) (backToKw pos (keywordEach [] X.env))):=by rfl) :
  PE X (.Call (.Attribute o m apos) (e::es) [] pos) (acg C m sp aZ E ta t):=by
 intro pins s σ H Q I h;refine PySem.W.methodCall_KW (pl:=pl) (thn (he pins s σ H _ I h) fun u s1 z0=>?_) ht;obtain ⟨x,H1,I1,rx,a,dx,fs,ex,ea,l,q⟩:=z0;subst ex;obtain rfl:u=Value.ref a:=rx;refine Lr I1 ea c hm l ?_;refine lI (first:=[.ref a]) (h₀:=X.base) I.ok.mod.kin hm.kp (thn (ha pos pins s1 σ H1 _ I1 q) fun us s2 ⟨vs,H2,I2,r,q2⟩=>⟨I2.kIn,?_⟩) hst aN;exact a3j (us:=.ref a::us) (vs:=.ref a::vs) F hr hb hd hx I2 (.cons rfl r) q2
theorem a4n {pl:Sem Bool} (he:PE X o ta) (c:Cls X.K C) (hm:Meth X.K C m f) (F:Du X.prog X.w X.K X.mg X.base CX k f fd ps sp) (hr:Cj k X.A) (hb:Binds X.K fd ps ds) (hd:Vals aZ ds) (hx:Passes CX X E)
  (ht:eval (.Call (.Attribute o m apos) [] [] pos) X.env=(do
   let ov <- eval o X.env
   standAt apos.atName
   let (f,first) <- holding [ov] (getMethod ov m pl)
   callWith pos f first (backTo pos (starEach [] X.env)) (backToKw pos (keywordEach [] X.env))):=by rfl) :
  PE X (.Call (.Attribute o m apos) [] [] pos) (acg C m sp aZ E ta a3q):=by
 intro pins s σ H Q I h;refine PySem.W.methodCall_KW (pl:=pl) (thn (he pins s σ H _ I h) fun u s1 z0=>?_) ht;obtain ⟨x,H1,I1,rx,a,dx,fs,ex,ea,l,q⟩:=z0;subst ex;obtain rfl:u=Value.ref a:=rx;refine Lr I1 ea c hm l ?_;exact PySem.W.callWith_K0 (first:=[.ref a]) I1.kIn hm.kp (a3j (us:=[.ref a]) (vs:=[.ref a]) F hr hb hd hx I1 (.cons rfl .nil) q)
structure Mk (K:PySem.W.Frag) (C f:Addr):Prop where
 makes:PySem.W.makesIn K C=true
 init:PySem.W.findIn K (.ref C) "__init__" = some (some (.ref f))
 fn:PySem.W.isFn K (.ref f)=true
 kp:PySem.W.keepIn K (.ref C)=true
theorem a4c {pins:List (Addr × Obj)} {σ:St} {H:Hp} {s:Shared} {Q:VK} {us:List Value} {vs:List V} (M:Mk X.K C f) (F:Du X.prog X.w X.K X.mg X.base CX k f fd ps sp) (hr:Cj (k+1) X.A) (hb:Binds X.K fd ps ds) (hd:Vals aZ ds)
  (hx:Passes CX X E) (I:Inv X pins σ H s) (r:Vals vs us)
  (h:∀ x dx,H x=none->H dx=none->dx≠x->sp (.ref x::(vs++aZ)) (upd (upd H dx (.own x)) x (.ins C dx [])) (fun v H2=>v=.non/\Q (.ref x) H2) E) :
  wpAny (model X.prog X.w) X.A (call (.ref C) us) (EP X pins σ Q) X.xe s:=by
 have hq:=h (s.heap.objs.size+1) s.heap.objs.size (I.hok.fresh (Nat.le_succ _)) (I.hok.fresh (ic _)) (iQ (jZ _));have I2:=Inv.made (C:=C) I;have r2:Vals (V.ref (s.heap.objs.size+1)::(vs++aZ)) (Value.ref (s.heap.objs.size+1)::(us++ds)):=.cons rfl (r.append hd)
 have hl:(Value.ref (s.heap.objs.size+1)::us++ds).length=ps.length:=by
  have e:=r2.length;rw [F.len _ _ _ _ hq] at e;exact e.symm
 refine wpAny_call (a6x (f:=f) I.kIn M.makes M.init (jI.mp M.fn) (kK (F.run _ X.stack _ _ ⟨Value.ref (s.heap.objs.size+1)::us,[]⟩ (Value.ref (s.heap.objs.size+1)::(us++ds)) _ _ E (hr.make C us [])
  (I2.env0.make C us []) (hb _ (Value.ref (s.heap.objs.size+1)::us) I2.kIn hl) r2 hq) fun r s' cV=>?_))
 cases r with
 | error e=>exact hx pins σ _ _ e s' I2 cV
 | ok fl =>
  cases fl with
  | ret u =>
   obtain ⟨v,H',I3,rv,ev,q3⟩:=I2.after cV;subst ev;exact ⟨rv,⟨V.ref (s.heap.objs.size+1),H',I3,rfl,q3⟩⟩
  | next=>exact False.elim cV
  | brk=>exact False.elim cV
  | cont=>exact False.elim cV
theorem a9p (M:Mk X.K C f) (F:Du X.prog X.w X.K X.mg X.base CX k f fd ps sp) (hr:Cj (k+1) X.A) (hg:Gl X x) (hm:X.mg x=some (.ref C)) (hb:Binds X.K fd ps ds) (hd:Vals aZ ds) (hx:Passes CX X E)
  (ha:PA X (e::es) t) (aX:(x==("__debug__" : Str))=false:=by decide) (he:starEach (e::es) X.env=(false,eval e X.env)::starEach es X.env:=by rfl) (aN:(backTo pos (starEach es X.env)).any (·.1)=false:=by rfl) :
  PE X (.Call (.Name x p) (e::es) [] pos) (afn C sp aZ E t):=by
 intro pins s σ H Q I h;refine kW (O9 I hg hm ?_ aX);refine lI (h₀:=X.base) I.ok.mod.kin M.kp (thn (ha pos pins s σ H _ I h) fun us s1 ⟨vs,H1,I1,r,q⟩=>⟨I1.kIn,?_⟩) he aN;exact a4c M F hr hb hd hx I1 r q
end
section
variable {X:Cx} {CX:CXT} {k:Nat} {f C:Addr} {fd:FuncData} {ps ks:List Str} {sp:Sp} {E:XK} {x m:Str} {p pos apos dS:Pos} {e o:Expr} {es:List Expr} {gY:List Keyword} {te ta:TE} {t tk:TA} {nm:Option Str}
structure agg (K:PySem.W.Frag) (fd:FuncData) (ps ks:List Str) (g:List Value->List Value->List Value) (gV:List V->List V->List V):Prop where
 to:∀ (s:Shared) (us ws:List Value),K.In s.heap->(g us ws).length=ps.length->BindsTo s fd ⟨us,ks.zip ws⟩ (ps.zip (g us ws))
 rel:∀ {vs:List V} {us:List Value} {zs:List V} {ws:List Value},Vals vs us->Vals zs ws->Vals (gV vs zs) (g us ws)
variable {g:List Value->List Value->List Value} {gV:List V->List V->List V}
end
structure Bx (N P:List Str) (sc:Scope):Prop where
 kind:sc.kind=.function
 co:sc.isCoroutine=false
 gen:sc.isGenerator=false
 nd:N.Nodup
 pre:N.take P.length=P
 par:∀ x∈P,sc.names.lookup x=some .local\/sc.names.lookup x=some .cell
 nofree:∀ y∈sc.names,y.2≠.free
theorem Qh {kindOf:Str->Option NameKind} {x:Str}:∀ {binds:List (Str × Value)} {m:Str->Option Value},(∀ v,(x,v)∉binds)->bindL kindOf binds m x=m x
 | [],_,_=>rfl
 | (n,v)::r,m,h=>by
  unfold bindL;rw [Qh fun w hw=>h w (ij _ hw)];split
  ·have:x≠n:=by rintro rfl; exact h v ie
   simp [this]
  ·rfl
theorem Rh {kindOf:Str->Option NameKind} {x:Str}:∀ {binds:List (Str × Value)} {m:Str->Option Value},(∀ v,(x,v)∉binds)->bindC kindOf binds m x=m x
 | [],_,_=>rfl
 | (n,v)::r,m,h=>by
  unfold bindC;rw [Rh fun w hw=>h w (ij _ hw)];split
  ·rfl
  ·have:x≠n:=by rintro rfl; exact h v ie
   simp [this]
theorem Pj {kindOf:Str->Option NameKind} {x:Str} {v:Value}:∀ {P:List Str} {vs:List Value} {i:Nat} {m:Str->Option Value},P.Nodup->P[i]? = some x->vs[i]? = some v->kindOf x=some .local ->
  bindL kindOf (P.zip vs) m x=some v
 | [],_,_,_,_,h,_,_=>by simp at h
 | _::_,[],_,_,_,_,h,_=>by simp at h
 | p::P,w::vs,0,m,nd,h1,h2,hk=>by
  simp at h1 h2; subst h1; subst h2;show bindL kindOf ((p,w)::P.zip vs) m p=_;unfold bindL;rw [Qh fun v hv=>(jN.mp nd).1 (List.of_mem_zip hv).1,hU hk];simp
 | p::P,w::vs,i+1,m,nd,h1,h2,hk=>by
  show bindL kindOf ((p,w)::P.zip vs) m x=_;unfold bindL;exact Pj (i:=i) (jN.mp nd).2 (by simpa using h1) (by simpa using h2) hk
theorem Rf {kindOf:Str->Option NameKind} {x:Str} {v:Value}:∀ {P:List Str} {vs:List Value} {i:Nat} {m:Str->Option Value},P.Nodup->P[i]? = some x->vs[i]? = some v->kindOf x≠some .local ->
  bindC kindOf (P.zip vs) m x=some v
 | [],_,_,_,_,h,_,_=>by simp at h
 | _::_,[],_,_,_,_,h,_=>by simp at h
 | p::P,w::vs,0,m,nd,h1,h2,hk=>by
  simp at h1 h2; subst h1; subst h2;show bindC kindOf ((p,w)::P.zip vs) m p=_;unfold bindC;rw [Rh fun v hv=>(jN.mp nd).1 (List.of_mem_zip hv).1,hV hk];simp
 | p::P,w::vs,i+1,m,nd,h1,h2,hk=>by
  show bindC kindOf ((p,w)::P.zip vs) m x=_;unfold bindC;exact Rf (i:=i) (jN.mp nd).2 (by simpa using h1) (by simpa using h2) hk
def start (N:List Str) (vs:List V):St:=vs.map some++List.replicate (N.length - vs.length) none
noncomputable def Qc (CX:CXT) (P:Program) (w:World) (K:PySem.W.Frag) (mg:Str->Option Value) (base:Heap) (N:List Str) (qual:Str) (scope:Scope) (f:Addr) (cd:Value) (A:Around) (outer:List Env) (s:Shared) (H:Hp) (E:XK):Cx where
 prog:=P
 w:=w
 K:=K
 mg:=mg
 base:=base
 A:=A.deeper (envOfC qual scope s.heap.objs.size f cd)
 N:=N
 s₀:=s
 H₀:=H
 env:=envOfC qual scope s.heap.objs.size f cd
 outer:=outer
 stack:=envOfC qual scope s.heap.objs.size f cd::outer
 ex:=[]
 calm:=true
 fn:=fun _=>true
 pn:=[]
 xe:=fun e s'=>wpAny (model P w) (A.deeper (envOfC qual scope s.heap.objs.size f cd)) (leaving (envOfC qual scope s.heap.objs.size f cd) e) (fun _ dF=>CX outer H s E e dF) (fun e' dF=>CX outer H s E e' dF) s'
theorem V9 {sc:Scope} {n:Nat} {x:Str} (h:sc.names.lookup x=some .cell):∃ c,(cellsFrom n sc.names []).lookup x=some c:=by
 have q:=PySem.W.cellsFrom_some sc.names n [] (.inl h);exact lJ.mp q
theorem a0w {CX:CXT} {P:Program} {w:World} {K:PySem.W.Frag} {mg:Str->Option Value} {base:Heap} {N ps:List Str} {qual:Str} {scope:Scope} {f:Addr} {cd:Value} {A:Around} {outer:List Env} {s s1:Shared} {H:Hp} {E:XK} {us:List Value} {vs:List V}
  (S:Bx N ps scope) (hd:A.handled=none) (e0:a99 P w K mg base A outer s H) (hl:vs.length=ps.length) (r:Vals vs us)
  (x:InCallC s s.heap.objs.size (bindL (envOfC qual scope s.heap.objs.size f cd).kindOf (ps.zip us) fun _=>none) (cellsFrom (s.heap.objs.size+1) scope.names []) (bindC (envOfC qual scope s.heap.objs.size f cd).kindOf (ps.zip us) fun _=>none) s1) :
  Inv (Qc CX P w K mg base N qual scope f cd A outer s H E) [] (start N vs) H s1:=by
 have aN:ps.length<=N.length:=by have:=iX List.length S.pre; rw [kX] at this; omega
 obtain ⟨h1,tk,rfl,hk⟩:=x.done;have da:∀ b:Addr,b∉(Qc CX P w K mg base N qual scope f cd A outer s H E).ex:=fun b z=>absurd (show b∈([]:List Addr) from z) (by simp)
 refine ⟨⟨e0.mod,S.kind,rfl,rfl,ic _,fun y z c h1 h2=>?_,fun y hy=>?_,fun y c _ h=>?_,fun _=>hd,Around.frames_deeper e0.frames,.inr ⟨rfl,rfl⟩,fun b z=>absurd z (da b),e0.bs,e0.bsz,fun b _ _=>da b,fun b z=>absurd z (da b),e0.Yj,e0.frf⟩,
  rfl,e0.bare,Un.kept hk,⟨_,x.toInCall.ns,fun i y v h1 h2 h3=>?_⟩,fun y c h=>⟨_,x.cell y c h⟩,e0.hok.fresh (ic _),fun y c h=>?_,fun p hp=>absurd (show p∈([]:List (Addr × Obj)) from hp) (by simp),e0.hok.kept hk,?_⟩
 ·exact name_of_addr x.apart (kY h1) (kY h2)
 ·have hy:scope.names.lookup y=some .cell\/scope.names.lookup y=some .free:=hy;rcases hy with hy | hy
  ·exact V9 hy
  ·exact absurd rfl (S.nofree _ (kY hy))
 ·exact iK (x.above y c (kY h))
 ·have hi:i<vs.length:=by
   unfold start at h2
   by_cases hi:i<vs.length
   ·exact hi
   ·rw [jO (by simpa using hi)] at h2;rw [List.getElem?_replicate] at h2;split at h2 <;> cases h2
  have ha:vs[i]? = some v:=by
   unfold start at h2;rw [jJ (by simpa using hi),jD] at h2;cases e:vs[i]? with
   | none=>rw [e] at h2; cases h2
   | some a=>rw [e] at h2; cases h2; rfl
  obtain ⟨u,hu,rv⟩:=r.get ha
  have hp:ps[i]? = some y:=by
   rw [<- S.pre,List.getElem?_take_of_lt (by omega)]; exact h1
  have eP:ps.Nodup:=by rw [<- S.pre]; exact S.nd.sublist (List.take_sublist _ _)
  refine ⟨u,rv,?_⟩;rcases S.par y (jE hp) with k | k
  ·exact .inl ⟨k,Pj eP hp hu k⟩
  ·obtain ⟨c,e⟩:=V9 (n:=s.heap.objs.size+1) k;refine .inr ⟨.inl k,c,e,?_⟩;have q:=x.cell y c e;rw [Rf eP hp hu (by show scope.names.lookup y≠_; rw [k]; decide)] at q;exact q
 ·exact e0.hok.fresh (iK (x.above y c (kY h)))
 ·unfold start;show _=N.length;rw [il,hZ,jF];omega
theorem abh {CX:CXT} {P:Program} {w:World} {K:PySem.W.Frag} {mg:Str->Option Value} {base:Heap} {k:Nat} {f:Addr} {name qual:Str} {params:Arguments} {body:List Stmt} {scope:Scope} {dV kV doc pm aC ct oc:Value} {an od:Option Addr}
  {bI:Array (Option Value)} {N ps:List Str} {sp:Sp} (lk:K.lookup f=some ⟨oc,od,.func (PySem.W.fnOf name qual params body scope dV kV doc pm an aC ct),bI⟩) (bz:PySem.W.codeIn K aC qual=true) (S:Bx N ps scope)
  (len:∀ vs H Q E,sp vs H Q E->vs.length=ps.length)
  (b5:∀ (A:Around) (outer:List Env) (s:Shared) (H:Hp) (vs:List V) (Q:VK) (E:XK),Cj k (A.deeper (envOfC qual scope s.heap.objs.size f aC))->sp vs H Q E ->
   ∃ t,PSs (Qc CX P w K mg base N qual scope f aC A outer s H E) body t/\t { nx:=fun _ H'=>Q .non H',rt:=Q } (start N vs) H) :
  Du P w K mg base CX (k+1) f (PySem.W.fnOf name qual params body scope dV kV doc pm an aC ct) ps sp:=by
 refine ⟨len,fun A outer s H args us vs Q E hr e0 hb r cz=>?_⟩;have hl:=len _ _ _ _ cz;have KX:K.In s.heap:=e0.mod.kin.keeps fun b o e=>(e0.bs b o e).1;have lim:s.heap.NoLimit:=e0.mod.nolimit.keeps fun b o e=>(e0.bs b o e).1
 have dD:∀ y∈ps.zip us,scope.names.lookup y.1=some .local\/(scope.names.lookup y.1=some .cell/\((cellsFrom (s.heap.objs.size+1) scope.names []).lookup y.1).isSome=true):=fun ⟨n,v⟩ hy=>by
  rcases S.par n (List.of_mem_zip hy).1 with q | q
  ·exact .inl q
  ·exact .inr ⟨q,PySem.W.cellsFrom_some _ _ _ (.inl q)⟩
 refine codeAny_call_function hr.depth (KX _ _ lk) rfl S.co S.gen rfl (PySem.W.codeRec_of KX bz) (hb _ _ _ _ ?_);refine wpAny_newFunctionEnv_cells S.kind dD fun env he s1 x=>?_;subst he;refine ⟨lim.keeps x.toInCall.keep,codeAny_func ?_⟩;obtain ⟨t,ht,hq⟩:=b5 A outer s H vs Q E (hr.deeper _) cz;have I:Inv (Qc CX P w K mg base N qual scope f aC A outer s H E) [] (start N vs) H s1:=a0w S hr.hd e0 hl r x;refine iT (ht [] s1 (start N vs) H _ I hq) (fun fl s' hs=>?_) fun e s' hs=>hs
 have fin:∀ {ag:St} {H':Hp} {v:V} {u:Value},Inv (Qc CX P w K mg base N qual scope f aC A outer s H E) [] ag H' s'->RelV v u->Q v H'->CE outer P w H s Q u s' :=
  fun {ag H' v u} J rv q=>⟨v,H',J.os,J.bare,J.base,J.hok,rv,q⟩
 cases fl with
 | ret u =>
  obtain ⟨v,ag,H',J,rv,q⟩:=hs;exact fin J rv q
 | next =>
  obtain ⟨ag,H',J,q⟩:=hs;exact fin (v:=V.non) (u:=Value.none) J rfl q
 | brk =>
  obtain ⟨_,_,_,q⟩:=hs;exact False.elim q
 | cont =>
  obtain ⟨_,_,_,q⟩:=hs;exact False.elim q
end L2
namespace L2
open PySem PySem.Spec PyProof.Rows
section
variable {X:Cx} {x:Str} {p pos:Pos} {e:Expr} {es:List Expr} {t:TA} {id T:String} {r:List V->Hp->VK->Prop}
def tCB (r:List V->Hp->VK->Prop) (t:TA):TE:=fun σ H Q=>t σ H fun vs H1=>r vs H1 Q
theorem jc (hc:Jj X (.builtin id) r) (hg:Gl X x) (hm:X.mg x=none) (hv:bootBuiltins x=some (.builtin id)) (ha:PA X (e::es) t) (hn:x ≠ "__name__" := by decide) (aX:(x==("__debug__" : Str))=false:=by decide)
  (he:starEach (e::es) X.env=(false,eval e X.env)::starEach es X.env:=by rfl) (aN:(backTo pos (starEach es X.env)).any (·.1)=false:=by rfl):PE X (.Call (.Name x p) (e::es) [] pos) (tCB r t):=by
 intro pins s σ H Q I h;refine kW (Mg I hg hm hv ?_ hn aX);exact PyProof.Rows.callWith_builtin1 (thn (ha pos pins s σ H _ I h) fun us s1 z7=>by obtain ⟨vs,H1,I1,r1,q1⟩:=z7; exact hc pins s1 σ H1 vs us Q I1 r1 q1) he aN
theorem jg (hc:Jj X (.type T) r) (hg:Gl X x) (hm:X.mg x=none) (hv:bootBuiltins x=some (.type T)) (ha:PA X (e::es) t) (hn:x ≠ "__name__" := by decide) (aX:(x==("__debug__" : Str))=false:=by decide)
  (he:starEach (e::es) X.env=(false,eval e X.env)::starEach es X.env:=by rfl) (aN:(backTo pos (starEach es X.env)).any (·.1)=false:=by rfl):PE X (.Call (.Name x p) (e::es) [] pos) (tCB r t):=by
 intro pins s σ H Q I h;refine kW (Mg I hg hm hv ?_ hn aX);exact lG (thn (ha pos pins s σ H _ I h) fun us s1 z7=>by obtain ⟨vs,H1,I1,r1,q1⟩:=z7; exact hc pins s1 σ H1 vs us Q I1 r1 q1) he aN
end
end L2
end
section
namespace HT
open PySem PyProof.Rows
section
open PySem.SeqAt
open PySem.AutoSeq1 (wpAny_loadPart')
open PySem.MeetsSeq PySem.MeetsSeq2 PySem.MeetsSeq3
end
section
variable {prog:Program} {w:World} {A:Around} {E:Value->Shared->Prop} {s:Shared}
theorem a9z {t b:Addr} {vs ws:List Value} {Q:Value->Shared->Prop} (ht:IsTup s.heap t vs.toArray) (hb:IsTup s.heap b ws.toArray) (hv:vs≠[])
  (h1:ws=[]->Q (.ref t) s) (h2:ws≠[]->Q (.ref s.heap.objs.size) { s with heap:=s.heap.push { cls:=.type "tuple",data:=.seq (vs++ws).toArray } })
  (bB:vs.length+ws.length<=sizeLine):wpAny (model prog w) A (binaryOp .Add (.ref t) (.ref b)) Q E s:=by
 obtain ⟨⟨cls,dd,data,sl⟩,ho,hc,n,hd⟩:=id ht;obtain ⟨⟨cls2,bK,data2,bH⟩,ho2,hc2,n2,hd2⟩:=id hb;simp only at hc hd hc2 hd2;subst hc hd hc2 hd2;have e:vs.toArray++ws.toArray=(vs++ws).toArray:=by simp
 by_cases hw:ws=[]
 ·exact concat_meets ⟨_,ho,rfl⟩ ⟨_,ho2,rfl⟩ noFill_tuple_add seq_tuple_add mB mC (mD _ _)
   (tuple_addW1 t b vs.toArray ws.toArray n n2 dd bK sl bH (by simpa using hv) (by simp [hw])) ⟨ho,ho2,h1 hw⟩
 ·refine concat_meets ⟨_,ho,rfl⟩ ⟨_,ho2,rfl⟩ noFill_tuple_add seq_tuple_add mB mC (mD _ _)
   (tuple_addW2 t b vs.toArray ws.toArray n n2 dd bK sl bH (by simpa using hv) (by simpa using hw) (by rw [iB,iB]; exact bB)) ⟨ho,ho2,?_⟩
  rw [e];exact h2 hw
noncomputable def sIx (n d:Nat):Option Int->Nat
 | none=>d
 | some v=>if v<0 then (v+(n:Int)).toNat else min v.toNat n
theorem aco (n d:Nat) (hd:d<=n) (o:Option Int):sIx n d o<=n:=by
 cases o with
 | none=>exact hd
 | some v =>
  show (if v<0 then (v+(n:Int)).toNat else min v.toNat n)<=n
  by_cases hv:v<0
  ·rw [hU hv]; omega
  ·rw [hV hv]; exact Nat.min_le_right _ _
theorem Z6 (v:Int) (n d:Nat):(if v<0 then max (v+(n:Int)) 0 else min v (n:Int))=((sIx n d (some v):Nat):Int):=by
 show (if v<0 then max (v+(n:Int)) 0 else min v (n:Int))=(((if v<0 then (v+(n:Int)).toNat else min v.toNat n):Nat):Int)
 by_cases hv:v<0
 ·simp only [if_pos hv]; omega
 ·simp only [if_neg hv]; omega
theorem X4 (lo hi:Option Int) (n:Nat):Builtin.Slice.sliceAdjust lo hi 1 (n:Int)=(((sIx n 0 lo:Nat):Int),((sIx n n hi:Nat):Int)):=by
 have h1:¬ ((1:Int)<0):=by omega
 unfold Builtin.Slice.sliceAdjust;simp only [h1,if_false];refine Prod.ext ?_ ?_
 ·cases lo with
  | none=>rfl
  | some v=>exact Z6 v n 0
 ·cases hi with
  | none=>rfl
  | some v=>exact Z6 v n n
theorem Xn (i j:Nat):Builtin.Slice.slicePlaces (i:Int) (j:Int) 1=j - i:=by
 unfold Builtin.Slice.slicePlaces;have h1:(1:Int) > 0:=by omega
 simp only [h1,if_true,Int.ediv_one];split <;> omega
theorem Cz {v:Value} {o:Option Int} {Q:Option Int->Shared->Prop} (p:IsPart v o) (h:Q o s):wpAny (model prog w) A (Builtin.Slice.slicePartIndex v) Q E s:=by
 cases p with
 | none=>exact slicePart_none h
 | int i t=>exact slicePart_int h
theorem Dt {sl:Addr} {vl vu:Value} {lo hi:Option Int} {n:Nat} {Q:Int × Int × Nat->Shared->Prop} (hs:s.heap.IsSliceOf sl vl vu .none) (pl:IsPart vl lo) (pu:IsPart vu hi)
  (h:Q (((sIx n 0 lo:Nat):Int),1,sIx n n hi - sIx n 0 lo) s):wpAny (model prog w) A (Builtin.Slice.sliceApplied (.ref sl) (pure (n:Int))) Q E s:=by
 obtain ⟨os,cb,hcs,hds⟩:=id hs;unfold Builtin.Slice.sliceApplied Builtin.Slice.sliceFields;refine hJ (hJ (iH cb hds (x:=vl) rfl (hJ (iH cb hds (x:=vu) rfl (hJ (iH cb hds (x:=.none) rfl (ia ?_)))))));refine hJ (slicePart_none ?_);show wpAny _ _ (if ((1:Int)==0)=true then _ else _) _ _ s;rw [hV (by decide)];refine hJ (Cz pl (hJ (Cz pu (hJ (ia ?_)))));show wpAny _ _ (match Builtin.Slice.sliceAdjust lo hi 1 (n:Int) with | (lo,hi)=>pure (lo,(1:Int),Builtin.Slice.slicePlaces lo hi 1)) _ _ s;rw [X4 lo hi n];show wpAny _ _ (pure (((sIx n 0 lo:Nat):Int),(1:Int),Builtin.Slice.slicePlaces ((sIx n 0 lo:Nat):Int) ((sIx n n hi:Nat):Int) 1)) _ _ s;rw [Xn];exact ia h
theorem a5y (xs:Array Value) (i k:Nat):((List.range k).filterMap fun (m:Nat)=>xs[((i:Int)+(m:Int) * 1).toNat]?).toArray=((xs.toList.drop i).take k).toArray:=by
 have e:(fun (m:Nat)=>xs[((i:Int)+(m:Int) * 1).toNat]?)=fun m=>xs[i+m]?:=by
  funext m;have:((i:Int)+(m:Int) * 1).toNat=i+m:=by omega
  rw [this]
 rw [e];have:=pick_run xs i k;rw [List.filterMap_map] at this;have e2:((fun x=>xs[x]?) ∘ fun x=>i+x)=fun m=>xs[i+m]?:=rfl;rw [e2] at this;rw [this]
theorem Hw {t sl:Addr} {items:Array Value} {vl vu:Value} {lo hi:Option Int} {Q:Value->Shared->Prop} (ht:IsTup s.heap t items) (hs:s.heap.IsSliceOf sl vl vu .none) (pl:IsPart vl lo) (pu:IsPart vu hi)
  (hw:¬ (sIx items.size 0 lo=0/\sIx items.size items.size hi=items.size))
  (h:Q (.ref s.heap.objs.size) { s with heap:=s.heap.push { cls:=.type "tuple",data:=.seq ((items.toList.drop (sIx items.size 0 lo)).take (sIx items.size items.size hi - sIx items.size 0 lo)).toArray } })
  (bB:items.size<=sizeLine):wpAny (model prog w) A (getItem (.ref t) (.ref sl)) Q E s:=by
 have bJ:sizeOk (.seq ((items.toList.drop (sIx items.size 0 lo)).take (sIx items.size items.size hi - sIx items.size 0 lo)).toArray):=by
  show ((items.toList.drop (sIx items.size 0 lo)).take (sIx items.size items.size hi - sIx items.size 0 lo)).toArray.size<=sizeLine;rw [iB,kX,jV,jQ];omega
 have hj:sIx items.size items.size hi<=items.size:=aco _ _ (ic _) hi;obtain ⟨os,cb,hcs,hds⟩:=id hs;have eM:s.TypeIs (.ref sl) "slice" := ⟨os,cb,hcs⟩;unfold getItem
 try with_reducible refine ku ?_
 first | refine hJ (ia ?_) | skip
 refine hJ (mE ht.typeIs (by decide) ?_)
 refine hJ (kA (name:=Str.ofString "__getitem__") ht.typeIs kL
  (kB kL ht.typeIs entry_tuple_getitem ?_ (args_tuple_getitem _ _)))
 show wpAny _ _ (Builtin.Tuple.tupleItemsOf (.ref t) >>= _) _ _ s;refine hJ (tupleItemsOf_ ht ?_);refine hJ (lK eM ?_);rw [hU (by decide)];refine hJ (Dt hs pl pu ?_)
 have cf:¬ ((((sIx items.size 0 lo:Nat):Int)==0&&(1:Int)==1&&(sIx items.size items.size hi - sIx items.size 0 lo)==items.size)=true):=by
  intro q;rw [ja,ja] at q;have q1:((sIx items.size 0 lo:Nat):Int)=0:=eq_of_beq q.1.1;have q2:sIx items.size items.size hi - sIx items.size 0 lo=items.size:=eq_of_beq q.2;exact hw ⟨by omega,by omega⟩
 show wpAny _ _ (if (((sIx items.size 0 lo:Nat):Int)==0&&(1:Int)==1&&(sIx items.size items.size hi - sIx items.size 0 lo)==items.size)=true then _ else _) _ _ s;rw [hV cf,a5y]
 first
  | exact hJ (m:=Builtin.Tuple.tupleExact _) (jP (ia ⟨_,rfl,ia h⟩) bJ)
  | exact hJ (m:=Builtin.Tuple.tupleExact _) (jP (hJ (ia (ia ⟨_,rfl,ia h⟩))) bJ)
  | exact hJ (hJ (m:=Builtin.Tuple.tupleExact _) (jP (ia (ia ⟨_,rfl,ia h⟩)) bJ))
  | exact hJ (hJ (m:=Builtin.Tuple.tupleExact _) (jP (ia ⟨_,rfl,ia h⟩) bJ))
end
end HT
namespace L2
open PySem PySem.Spec PyProof.Rows
abbrev TO:=St->Hp->(Option Int->Hp->Prop)->Prop
def PO (X:Cx) (e:Option Expr) (t:TO):Prop :=
 ∀ (pins:List (Addr × Obj)) (s:Shared) (σ:St) (H:Hp) (Q:Option Int->Hp->Prop),Inv X pins σ H s->t σ H Q ->
  wpAny (model X.prog X.w) X.A (evalPart e X.env) (fun u s'=>∃ o H',Inv X pins σ H' s'/\IsPart u o/\Q o H') X.xe s
def aal:TO:=fun _ H Q=>Q none H
def aes (t:TE):TO:=fun σ H Q=>t σ H fun x H1=>∃ i,x=.int i/\Q (some i) H1
section
variable {X:Cx} {e:Expr} {te:TE} {lo hi:Option Expr} {tl th:TO} {pos p2:Pos}
theorem a9e:PO X none aal:=by
 intro pins s σ H Q I h;rw [evalPart_none];exact ia ⟨none,H,I,.none,h⟩
theorem a9x (h:PE X e te):PO X (some e) (aes te):=by
 intro pins s σ H Q I hw;rw [evalPart_some];refine thn (h pins s σ H _ I hw) fun u s1 z0=>?_;obtain ⟨x,H1,I1,r1,q1⟩:=z0;obtain ⟨i,rfl,q⟩:=q1;obtain ⟨t,rfl⟩:=r1;exact ⟨some i,H1,I1,.int i t,q⟩
def SlR (X:Cx) (r:V->Option Int->Option Int->Hp->VK->Prop):Prop :=
 ∀ (pins:List (Addr × Obj)) (s:Shared) (σ:St) (H:Hp) (x:V) (v vl vu:Value) (lo hi:Option Int) (sl:Addr) (Q:VK),Inv X pins σ H s->RelV x v->s.heap.IsSliceOf sl vl vu .none->IsPart vl lo->IsPart vu hi->r x lo hi H Q ->
  ∃ T id,typeLookup (.type T) "__getitem__" = pure (some (.builtin id))/\s.TypeIs v T/\wpAny (model X.prog X.w) X.A (getItem v (.ref sl)) (EP X pins σ Q) X.xe s
theorem SlR.or {r r':V->Option Int->Option Int->Hp->VK->Prop} (h:SlR X r) (h':SlR X r'):SlR X (fun x lo hi H Q=>r x lo hi H Q\/r' x lo hi H Q):=by
 intro pins s σ H x v vl vu lo hi sl Q I rx hs pl pu q;rcases q with q | q
 ·exact h pins s σ H x v vl vu lo hi sl Q I rx hs pl pu q
 ·exact h' pins s σ H x v vl vu lo hi sl Q I rx hs pl pu q
def tSl (r:V->Option Int->Option Int->Hp->VK->Prop) (te:TE) (tl th:TO):TE:=fun σ H Q=>te σ H fun x H1=>tl σ H1 fun l H2=>th σ H2 fun u H3=>r x l u H3 Q
theorem Je {r:V->Option Int->Option Int->Hp->VK->Prop} (hr:SlR X r) (he:PE X e te) (hl:PO X lo tl) (hu:PO X hi th):PE X (.Subscript e (.Slice lo hi none p2) pos) (tSl r te tl th):=by
 intro pins s σ H Q I h;refine Subscript_ (thn (he pins s σ H _ I h) fun v s1 z0=>?_);obtain ⟨x,H1,I1,r1,q1⟩:=z0;refine wpAny_Slice (thn (hl pins s1 σ H1 _ I1 q1) fun vl s2 ⟨l,H2,I2,pl,q2⟩=>thn (hu pins s2 σ H2 _ I2 q2) fun vu s3 ⟨u,H3,I3,pu,q3⟩=>?_);rw [evalPart_none];refine ia ?_;have I4:Inv X pins σ H3 { s3 with heap:=s3.heap.push { cls:=.type "slice",data:=.fields #[vl,vu,.none] } }:=I3.kept (t':=s3.toks) fun b ob q=>ix _ q;obtain ⟨T,id,hT,ht,hg⟩:=hr pins { s3 with heap:=s3.heap.push { cls:=.type "slice",data:=.fields #[vl,vu,.none] } } σ H3 x v vl vu l u s3.heap.objs.size Q I4 r1 (mF ..) pl pu q3;show wpAny (model X.prog X.w) X.A (subscriptTail e (.Slice lo hi none p2) v (.ref s3.heap.objs.size)) (EP X pins σ Q) X.xe { s3 with heap:=s3.heap.push { cls:=.type "slice",data:=.fields #[vl,vu,.none] } };exact tail_any (ops:=[.ref s3.heap.objs.size,v]) ht hT hg (by with_unfolding_all rfl)
noncomputable def Zn (xs:List V) (lo hi:Option Int):List V:=(xs.drop (HT.sIx xs.length 0 lo)).take (HT.sIx xs.length xs.length hi - HT.sIx xs.length 0 lo)
theorem Ju (xs:List V) (lo hi:Option Int):(Zn xs lo hi).length<=xs.length:=by
 unfold Zn;rw [kX,jV];omega
def ah4 (K:PySem.W.Frag):V->Option Int->Option Int->Hp->VK->Prop:=fun x lo hi H Q=>∃ a xs,x=.ref a/\SqT K H a xs /\
 ¬ (HT.sIx xs.length 0 lo=0/\HT.sIx xs.length xs.length hi=xs.length)/\∀ p,H p=none->Q (.ref p) (upd H p (.tup (Zn xs lo hi)))
theorem a7q:SlR X (ah4 X.K):=by
 intro pins s σ H x v vl vu lo hi sl Q I rx hs pl pu h;obtain ⟨a,xs,rfl,hx,hw,q⟩:=h;cases rx;obtain ⟨its,r,ht,hz⟩:=I.tuple hx;have hlen:its.toArray.size=xs.length:=by rw [iB]; exact r.length.symm
 refine ⟨"tuple",_,PyProof.Rows.slot_tuple_getitem.lookup,ht.typeIs,?_⟩;refine HT.Hw ht hs pl pu (by rw [hlen]; exact hw) ?_ (by rw [hlen]; exact hz);rw [hlen];refine ⟨.ref s.heap.objs.size,_,I.laid (t':=s.toks) (o:=.tup (Zn xs lo hi)) (fun b ob q=>ix _ q) (ic _) ?_,rfl,q _ (I.hok.fresh (ic _))⟩;exact ⟨ip (Ju xs lo hi) hz,_,(r.drop (HT.sIx xs.length 0 lo)).take (HT.sIx xs.length xs.length hi - HT.sIx xs.length 0 lo),a3z.new _ _⟩
noncomputable def aev (K:PySem.W.Frag):R2:=fun x y H Q=>∃ a b xs ys,x=.ref a/\y=.ref b/\SqT K H a xs/\SqT K H b ys/\xs≠[]/\xs.length+ys.length<=sizeLine /\
 (ys=[]->Q (.ref a) H)/\(ys≠[]->∀ p,H p=none->Q (.ref p) (upd H p (.tup (xs++ys))))
theorem Vals.Ul {xs:List V} {us:List Value} (r:Vals xs us):us=[]↔xs=[]:=by
 cases r with
 | nil=>simp
 | cons _ _=>simp
theorem a98:OpR X (binaryOp .Add) (aev X.K):=by
 intro pins s σ H x y v u Q I rx ry h;obtain ⟨a,b,xs,ys,rfl,rfl,ha,hb,hx,hz,q1,q2⟩:=h;cases rx;cases ry;obtain ⟨its,r1,p1,_⟩:=I.tuple ha;obtain ⟨aD,r2,p2,_⟩:=I.tuple hb;refine HT.a9z p1 p2 (fun z=>hx (r1.Ul.mp z)) (fun z=>⟨.ref a,H,I,rfl,q1 (r2.Ul.mp z)⟩) (fun z=>?_) (by rw [<- r1.length,<- r2.length]; exact hz);refine ⟨.ref s.heap.objs.size,_,I.laid (t':=s.toks) (o:=.tup (xs++ys)) (fun b ob q=>ix _ q) (ic _) ?_,rfl,q2 (fun w=>z (r2.Ul.mpr w)) _ (I.hok.fresh (ic _))⟩;exact ⟨by rw [il]; exact hz,_,r1.append r2,a3z.new _ _⟩
end
end L2
namespace L2
open PySem PySem.Spec PyProof.Rows
noncomputable def ixN (n:Nat) (i:Int):Option Nat:=if 0<=i then (if i<n then some i.toNat else none) else if -(n:Int)<=i then some (i+n).toNat else none
def atI {α:Type} (xs:List α) (i:Int):Option α:=(ixN xs.length i).bind fun j=>xs[j]?
theorem a02 {n:Nat} {i:Int} {j:Nat} (h:ixN n i=some j):seqIndex? i n=some j/\j<n/\-(n:Int)<=i/\i<n:=by
 unfold ixN at h
 by_cases h0:0<=i
 ·rw [hU h0] at h
  by_cases h1:i<n
  ·rw [hU h1] at h;have e:i.toNat=j:=jY h;exact ⟨by rw [seqIndex_of h0 h1,e],by omega,by omega,h1⟩
  ·rw [hV h1] at h; cases h
 ·rw [hV h0] at h
  by_cases h1:-(n:Int)<=i
  ·rw [hU h1] at h;have e:(i+n).toNat=j:=jY h;exact ⟨by rw [seqIndex_neg (by omega) h1,e],by omega,h1,by omega⟩
  ·rw [hV h1] at h; cases h
theorem Sd {α:Type} {xs:List α} {i:Int} {v:α} (h:atI xs i=some v):∃ j,seqIndex? i xs.length=some j/\xs[j]? = some v/\j<xs.length/\-(xs.length:Int)<=i/\i<xs.length:=by
 unfold atI at h;cases e:ixN xs.length i with
 | none=>rw [e] at h; cases h
 | some j =>
  rw [e] at h;obtain ⟨h1,h2,h3,h4⟩:=a02 e;exact ⟨j,h1,h,h2,h3,h4⟩
def Nv (b:Expr):Prop:=∀ o i,subscripted b false o i=operate [o,i] (getItem o i)
def IxR (X:Cx) (r:R2):Prop :=
 ∀ (value slice:Expr) (pins:List (Addr × Obj)) (s:Shared) (σ:St) (H:Hp) (x y:V) (v u:Value) (Q:VK),Inv X pins σ H s->RelV x v->RelV y u->r x y H Q ->
  subscripted slice false v u=operate [v,u] (getItem v u)->wpAny (model X.prog X.w) X.A (subscriptTail value slice v u) (EP X pins σ Q) X.xe s
def MtR (X:Cx) (id:String) (r:V->List V->Hp->VK->Prop):Prop :=
 ∀ (pins:List (Addr × Obj)) (s:Shared) (σ:St) (H:Hp) (x:V) (xs:List V) (v:Value) (us:List Value) (Q:VK),Inv X pins σ H s->RelV x v->Vals xs us->r x xs H Q ->
  wpAny (model X.prog X.w) X.A (call (.builtin id) (v::us)) (EP X pins σ Q) X.xe s
section
variable {X:Cx} {a b:Expr} {ta tb:TE} {pos:Pos}
theorem a9h {r:R2} (hr:IxR X r) (ha:PE X a ta) (hb:PE X b tb) (hs:Nv b):PE X (.Subscript a b pos) (tOp r ta tb):=by
 intro pins s σ H Q I h;exact Subscript_ (afs ha hb I h fun v u s2 x y H2 I2 rx ry q=>hr a b pins s2 σ H2 x y v u Q I2 rx ry q (hs _ _))
noncomputable def ah2 (K:PySem.W.Frag):R2:=fun x y H Q=>∃ p xs i v,x=.ref p/\y=.int i/\SqL K H p xs/\atI xs i=some v/\Q v H
noncomputable def agj (K:PySem.W.Frag):R2:=fun x y H Q=>∃ p xs i v,x=.ref p/\y=.int i/\SqT K H p xs/\atI xs i=some v/\Q v H
noncomputable def agm:R2:=fun x y H Q=>∃ z i c,x=.str z/\y=.int i/\z.length<=sizeLine/\atI z.cps.toList i=some c/\Q (.str ⟨#[c]⟩) H
theorem Td:IxR X (ah2 X.K):=by
 intro value slice pins s σ H x y v u Q I rx ry h hs;obtain ⟨p,xs,i,z,rfl,rfl,hq,he,q⟩:=h;cases rx;obtain ⟨t,rfl⟩:=ry;obtain ⟨its,r,pl,hz⟩:=I.list hq;obtain ⟨j,h1,h2,h3,h4,h5⟩:=Sd he;obtain ⟨w,ew,rw'⟩:=r.get h2;have hl:=r.length;have hn:=Lz;have fin:EP X pins σ Q w s:=⟨z,H,I,rw',q⟩
 by_cases h0:0<=i
 ·have hj:i.toNat=j:=by
   rw [seqIndex_of h0 h5] at h1;exact jY h1
  exact item_listR pl.isList h0 (by omega) (by rw [hj]; simpa using ew) fin hs
 ·have hj:(i+(its.toArray.size:Int)).toNat=j:=by
   rw [seqIndex_neg (by omega) h4] at h1;rw [iB,<- hl];exact jY h1
  exact subscriptTail_builtinR (x:=w) pl.isList.typeIs slot_list_getitem.lookup
   (wpAny_getItem_list_neg (Q:=fun r s'=>r=w/\EP X pins σ Q r s') pl.isList (by omega) (by rw [iB] <;> omega) (by omega) (by rw [hj]; simpa using ew) ⟨rfl,fin⟩) hs
theorem ad2:IxR X (agj X.K):=by
 intro value slice pins s σ H x y v u Q I rx ry h hs;obtain ⟨p,xs,i,z,rfl,rfl,hq,he,q⟩:=h;cases rx;obtain ⟨t,rfl⟩:=ry;obtain ⟨its,r,pl,hz⟩:=I.tuple hq;obtain ⟨j,h1,h2,h3,h4,h5⟩:=Sd he;obtain ⟨w,ew,rw'⟩:=r.get h2;have hl:=r.length;have hn:=Lz;have fin:EP X pins σ Q w s:=⟨z,H,I,rw',q⟩
 exact subscriptTail_builtinR (x:=w) pl.typeIs slot_tuple_getitem.lookup
  (getItem_tuple (j:=j) (Q:=fun r s'=>r=w/\EP X pins σ Q r s') pl (by omega) (by omega) (by rw [iB,<- hl]; exact h1) (by simpa using ew) ⟨rfl,fin⟩) hs
theorem acu:IxR X agm:=by
 intro value slice pins s σ H x y v u Q I rx ry h hs;obtain ⟨z,i,c,rfl,rfl,hz,he,q⟩:=h;obtain ⟨t,rfl⟩:=rx;obtain ⟨t',rfl⟩:=ry;obtain ⟨j,h1,h2,h3,h4,h5⟩:=Sd he;have hl:z.cps.toList.length=z.length:=by simp [Str.length]
 rw [hl] at h1 h4 h5;have hn:=Lz
 exact tail_any (typeIs_str s z t) slot_str_getitem.lookup (getItem_str (c:=c) (by
  have e1:decide (i < -(2 ^ 63:Int))=false:=iC (by omega);have e2:decide (i >= 2 ^ 63)=false:=iC (by omega);rw [e1,e2,Bool.or_false]) (by rw [h1]; simpa using h2) ⟨.str ⟨#[c]⟩,H,I.tok _,⟨_,rfl⟩,q⟩) hs
theorem Wy (its:List Value) (n j:Nat) (u:Value):Obj.mapSeq (·.setIfInBounds j u) { cls:=.type "list",data:=.seq its.toArray n } = { cls:=.type "list",data:=.seq (its.set j u).toArray n }:=by
 simp [Obj.mapSeq]
theorem Inv.lst {pins:List (Addr × Obj)} {σ:St} {H:Hp} {s:Shared} {p:Addr} {xs:List V} (I:Inv X pins σ H s) (h:H p=some (.lst xs)) :
  ∃ (its:List Value) (n:Nat),Vals xs its/\s.heap.get? p=some { cls:=.type "list",data:=.seq its.toArray n }/\xs.length<=sizeLine:=by
 obtain ⟨z,its,n,r,e⟩:=I.hok p _ h;exact ⟨its,n,r,e,z⟩
theorem Inv.adz {pins:List (Addr × Obj)} {σ:St} {H:Hp} {s:Shared} {p:Addr} {xs ys:List V} {its its':List Value} {n n':Nat} {f:Obj->Obj} (I:Inv X pins σ H s) (h:H p=some (.lst xs))
  (ho:s.heap.get? p=some { cls:=.type "list",data:=.seq its.toArray n }) (hf:f { cls:=.type "list",data:=.seq its.toArray n } = { cls:=.type "list",data:=.seq its'.toArray n' }) (r:Vals ys its') (hz:ys.length<=sizeLine) (t:Nat) :
  Inv X pins σ (upd H p (.lst ys)) { s with heap:=s.heap.update p f,toks:=t }:=by
 have e:(s.heap.update p f).get? p=some { cls:=.type "list",data:=.seq its'.toArray n' }:=by
  rw [km f ho (by rw [hf] <;> rfl),hf]
 refine I.write (x:=p) (e:=p) (by rw [h]; trivial) (.inl rfl) (fun b u hb q=>(jv _ _ (Ne.symm hb)).trans q) ⟨_,e⟩ ?_;exact ⟨hz,its',n',r,e⟩
def abv:V->V->V->Hp->(Hp->Prop)->Prop:=fun o i v H Q=>∃ p xs k j,o=.ref p/\i=.int k/\H p=some (.lst xs)/\ixN xs.length k=some j/\Q (upd H p (.lst (xs.set j v)))
theorem set_list:aga X abv:=by
 intro pins s σ H o i v ov iv u Q I ro ri rv h;obtain ⟨p,xs,k,j,rfl,rfl,hp,hj,q⟩:=h;cases ro;obtain ⟨t,rfl⟩:=ri;obtain ⟨its,n,r,ho,hz⟩:=I.lst hp;obtain ⟨h1,h2,h3,h4⟩:=a02 hj;have hl:=r.length;have hn:=Lz
 have I':Inv X pins σ (upd H p (.lst (xs.set j v))) { s with heap:=s.heap.update p (Obj.mapSeq (·.setIfInBounds j u)) } :=
  I.adz hp ho (Wy its n j u) (r.set rv j) (by rw [jG]; exact hz) s.toks
 by_cases h0:0<=k
 ·have hk:k.toNat=j:=by
   rw [seqIndex_of h0 h4] at h1;exact jY h1
  exact PySem.W.ki_setAt ho h0 (by omega) (by rw [iB,<- hl]; exact h4) (by rw [hk]; exact ⟨_,I',q⟩)
 ·have hk:(k+(its.toArray.size:Int)).toNat=j:=by
   rw [seqIndex_neg (by omega) h3] at h1;rw [iB,<- hl];exact jY h1
  exact PySem.W.ki_setBack ho (by omega) (by rw [iB,<- hl]; exact h3) (by omega) (by rw [hk]; exact ⟨_,I',q⟩)
theorem Qi (lo hi:Option Int) (n:Nat):(sliceBounds lo hi none n).1=((HT.sIx n 0 lo:Nat):Int)/\(sliceBounds lo hi none n).2.1=((HT.sIx n n hi:Nat):Int)/\(sliceBounds lo hi none n).2.2=1:=by
 refine ⟨?_,?_,rfl⟩
 ·cases lo with
  | none=>simp [sliceBounds,HT.sIx]
  | some i =>
   simp only [sliceBounds,HT.sIx,Option.getD_none,show (1:Int) > 0 by decide,if_true]
   by_cases h:i<0
   ·simp only [h,if_true] <;> omega
   ·simp only [h,if_false] <;> omega
 ·cases hi with
  | none=>simp [sliceBounds,HT.sIx]
  | some i =>
   simp only [sliceBounds,HT.sIx,Option.getD_none,show (1:Int) > 0 by decide,if_true]
   by_cases h:i<0
   ·simp only [h,if_true] <;> omega
   ·simp only [h,if_false] <;> omega
theorem Mz (its:List Value) (lo hi:Option Int):slicePick its.toArray lo hi none=((its.drop (HT.sIx its.length 0 lo)).take (HT.sIx its.length its.length hi - HT.sIx its.length 0 lo)).toArray:=by
 obtain ⟨h1,h2,h3⟩:=Qi lo hi its.toArray.size;unfold slicePick;rw [h1,h2,h3];simp only [sliceRange_one,pick_run,List.size_toArray] <;> rfl
def agv (K:PySem.W.Frag):V->Option Int->Option Int->Hp->VK->Prop:=fun x lo hi H Q=>∃ a xs,x=.ref a/\SqL K H a xs/\∀ p,H p=none->Q (.ref p) (upd H p (.lst (Zn xs lo hi)))
theorem Z5:SlR X (agv X.K):=by
 intro pins s σ H x v vl vu lo hi sl Q I rx hs pl pu h;obtain ⟨a,xs,rfl,hx,q⟩:=h;cases rx;obtain ⟨its,r,ht,hz⟩:=I.list hx;have hlen:=r.length;refine ⟨"list",_,slot_list_getitem.lookup,ht.isList.typeIs,?_⟩;refine wpAny_getItem_list_slice ht.isList hs pl pu .none (by simp) ?_ (by rw [iB] <;> omega);rw [Mz,<- hlen];refine ⟨.ref s.heap.objs.size,_,I.laid (t':=s.toks) (o:=.lst (Zn xs lo hi)) (fun b ob q=>ix _ q) (ic _) ?_,rfl,q _ (I.hok.fresh (ic _))⟩;exact ⟨ip (Ju xs lo hi) hz,_,0,(r.drop (HT.sIx xs.length 0 lo)).take (HT.sIx xs.length xs.length hi - HT.sIx xs.length 0 lo),iI _ rfl⟩
theorem Br:Jj X (.builtin "len") (fun xs H Q=>∃ p ys,xs=[.ref p]/\(SqL X.K H p ys\/SqT X.K H p ys)/\Q (.int ys.length) H):=by
 intro pins s σ H xs us Q I r h;obtain ⟨p,ys,rfl,hq,q⟩:=h;obtain ⟨u,rfl,rx⟩:=vals1 r;cases rx;have hn:=Lz;rcases hq with hq | hq
 ·obtain ⟨its,r',pl,hz⟩:=I.list hq;have hlen:=r'.length;exact Calls.call_len_list pl.isList (by simp only [List.size_toArray] <;> omega) ⟨.int ys.length,H,I.tok _,⟨s.toks+1,by rw [iB,hlen]⟩,q⟩
 ·obtain ⟨its,r',pl,hz⟩:=I.tuple hq;have hlen:=r'.length;exact len_tuple pl (by simp only [List.size_toArray] <;> omega) ⟨.int ys.length,H,I.tok _,⟨s.toks+1,by rw [iB,hlen]⟩,q⟩
theorem Q6:Jj X (.builtin "len") (fun xs H Q=>∃ z,xs=[.str z]/\z.length<=sizeLine/\Q (.int z.length) H):=by
 intro pins s σ H xs us Q I r h;obtain ⟨z,rfl,hz,q⟩:=h;obtain ⟨u,rfl,t,rfl⟩:=vals1 r;have hn:=Lz;exact len_str (by omega) ⟨.int z.length,H,I.tok _,⟨_,rfl⟩,q⟩
theorem J2:Jj X (.type "list") (fun xs H Q=>∃ p ys,xs=[.ref p]/\(SqL X.K H p ys\/SqT X.K H p ys)/\∀ l,H l=none->Q (.ref l) (upd H l (.lst ys))):=by
 intro pins s σ H xs us Q I r h;obtain ⟨p,ys,rfl,hq,q⟩:=h;obtain ⟨u,rfl,rx⟩:=vals1 r;cases rx
 have fin:∀ (its:List Value),Vals ys its->ys.length<=sizeLine->∀ (h':Heap) (c':Nat),(∀ b o',s.heap.get? b=some o'->h'.get? b=some o') ->
   h'.get? s.heap.objs.size=some { cls:=.type "list",dict:=none,data:=.seq its.toArray c',slots:=#[] }->EP X pins σ Q (.ref s.heap.objs.size) { s with heap:=h' }:=fun its r' hz h' c' kp e =>
  ⟨.ref s.heap.objs.size,_,I.laid (t':=s.toks) kp (ic _) (show vq X.prog X.w _ h' _ (.lst ys) from ⟨hz,its,c',r',e⟩),rfl,q _ (I.hok.fresh (ic _))⟩
 rcases hq with hq | hq
 ·obtain ⟨its,r',pl,hz⟩:=I.list hq;have hlen:=r'.length;obtain ⟨o,ho,hc,n,hd⟩:=pl.isList;exact call_list_seq p (.inl rfl) ho hc hd (fun h' c' kp e=>fin its r' hz h' c' kp e) (by simp only [List.size_toArray] <;> omega)
 ·obtain ⟨its,r',pl,hz⟩:=I.tuple hq;have hlen:=r'.length;obtain ⟨o,ho,hc,n,hd⟩:=pl;exact call_list_seq p (.inr rfl) ho hc hd (fun h' c' kp e=>fin its r' hz h' c' kp e) (by simp only [List.size_toArray] <;> omega)
theorem Dp:Jj X (.type "tuple") (fun xs H Q=>∃ p ys,xs=[.ref p]/\((SqL X.K H p ys/\∀ l,H l=none->Q (.ref l) (upd H l (.tup ys)))\/(SqT X.K H p ys/\Q (.ref p) H))):=by
 intro pins s σ H xs us Q I r h;obtain ⟨p,ys,rfl,h⟩:=h;obtain ⟨u,rfl,rx⟩:=vals1 r;cases rx;rcases h with ⟨hq,q⟩ | ⟨hq,q⟩
 ·obtain ⟨its,r',pl,hz⟩:=I.list hq;have hlen:=r'.length;refine call_tuple_list pl.isList (fun h' kp=>?_) (by simp only [List.size_toArray] <;> omega);have I1:Inv X pins σ H { s with heap:=h' }:=I.kept (t':=s.toks) kp
  have I2:Inv X pins σ (upd H h'.objs.size (.tup ys)) { s with heap:=h'.push { cls:=.type "tuple",data:=.seq its.toArray } } :=
   I1.laid (t':=s.toks) (fun b o e=>ix _ e) (ic _) (show vq X.prog X.w _ _ _ (.tup ys) from ⟨hz,its,r',a3z.new _ _⟩)
  exact ⟨.ref h'.objs.size,_,I2,rfl,q _ (I1.hok.fresh (ic _))⟩
 ·obtain ⟨its,r',pl,hz⟩:=I.tuple hq;exact call_tuple_same pl ⟨.ref p,H,I,rfl,q⟩
def tyV (K:PySem.W.Frag) (T:String) (x:V) (H:Hp):Prop:=match x with
 | .str _=>T = "str"
 | .int _=>T = "int"
 | .ref p=>(T = "list" /\ ∃ xs,SqL K H p xs)\/(T = "tuple" /\ ∃ o,K.lookup p=some o/\o.cls=.type "tuple" /\ o.dict=none) \/
   (T = "dict" /\ ((∃ ai,H p=some (.dK ai))\/∃ ai,H p=some (.dT ai)))\/(T = "set" /\ ∃ S n,H p=some (.set S n))
 | _=>False
theorem a7n {pins:List (Addr × Obj)} {σ:St} {H:Hp} {s:Shared} {T:String} {x:V} {v:Value} (I:Inv X pins σ H s) (r:RelV x v) (ty:tyV X.K T x H) :
  s.TypeIs v T/\∀ a,v=.ref a->∃ ob,s.heap.get? a=some ob/\ob.dict=none:=by
 cases x with
 | str z =>
  obtain ⟨t,rfl⟩:=r;cases (show T = "str" from ty);exact ⟨typeIs_str s z t,fun _ e=>nomatch e⟩
 | int i =>
  obtain ⟨t,rfl⟩:=r;cases (show T = "int" from ty);exact ⟨typeIs_int s i t,fun _ e=>nomatch e⟩
 | ref p =>
  cases r;rcases ty with ⟨rfl,xs,hq⟩ | ⟨rfl,o,hk,hc,hd⟩ | ⟨rfl,hk⟩ | ⟨rfl,S,n,hk⟩
  ·obtain ⟨its,_,pl,_⟩:=I.list hq;refine ⟨pl.isList.typeIs,fun a e=>?_⟩;cases e;obtain ⟨o,n,e,c,hd,_⟩:=pl;exact ⟨o,e,hd⟩
  ·refine ⟨⟨o,I.kIn p o hk,hc⟩,fun a e=>?_⟩;cases e;exact ⟨o,I.kIn _ o hk,hd⟩
  ·have z:∃ o,s.heap.get? p=some o/\o.ExactDict:=by
    rcases hk with ⟨ai,hk⟩ | ⟨ai,hk⟩
    ·obtain ⟨_,_,_,_,o,_,_,e,ex,_⟩:=I.hok p _ hk;exact ⟨o,e,ex⟩
    ·obtain ⟨_,_,_,_,o,_,_,e,ex,_⟩:=I.hok p _ hk;exact ⟨o,e,ex⟩
   obtain ⟨o,e,ex⟩:=z;refine ⟨⟨o,e,ex.1⟩,fun a e2=>?_⟩;cases e2;exact ⟨o,e,ex.2.1⟩
  ·obtain ⟨o,_,_,_,e,ex,_⟩:=I.hok p _ hk;refine ⟨⟨o,e,ex.1⟩,fun a e2=>?_⟩;cases e2;exact ⟨o,e,ex.2.1⟩
 | _=>exact False.elim ty
def afo (K:PySem.W.Frag) (T:String) (r:V->List V->Hp->VK->Prop) (to:TE):TE:=fun σ H Q=>to σ H fun x H1=>tyV K T x H1/\r x [] H1 Q
def tBM (K:PySem.W.Frag) (T:String) (r:V->List V->Hp->VK->Prop) (to:TE) (t:TA):TE:=fun σ H Q=>to σ H fun x H1=>tyV K T x H1/\t σ H1 fun xs H2=>r x xs H2 Q
variable {o e:Expr} {es:List Expr} {to:TE} {t:TA} {name:Str} {apos ay:Pos} {T id:String} {r:V->List V->Hp->VK->Prop}
theorem a7k (pa:PlainAttrs T) (slot:Slot T name id) (br:typeOf (.builtin id)=pure (.type "method_descriptor")) (hm:MtR X id r) (ho:PE X o to)
  (aP:attributeBase o name X.env (eval o X.env)=eval o X.env:=by rfl) (aT:(apos.endLine==ay.line)=true:=by rfl):PE X (.Call (.Attribute o name apos) [] [] ay) (afo X.K T r to):=by
 intro pins s σ H Q I h;refine wpAny_Call_method0_late aP aT (thn (ho pins s σ H _ I h) fun v s1 z0=>?_);obtain ⟨x,H1,I1,r1,ty,q1⟩:=z0;obtain ⟨h1,h2⟩:=a7n I1 r1 ty;exact ⟨T,id,pa,slot,br,h1,h2,Calls.callWith_builtin rfl (PySem.evalArgs_none (hm pins s1 σ H1 x [] v [] Q I1 r1 .nil q1))⟩
theorem Ie (pa:PlainAttrs T) (slot:Slot T name id) (br:typeOf (.builtin id)=pure (.type "method_descriptor")) (hm:MtR X id r) (ho:PE X o to) (ha:PA X (e::es) t)
  (aP:attributeBase o name X.env (eval o X.env)=eval o X.env:=by rfl)
  (b6:((backTo ay (starEach (e::es) X.env)).all (fun x=>!x.1)&&(backToKw ay (keywordEach [] X.env)).all (fun x=>x.1.isSome)
   && decide ((e::es).length+([]:List Keyword).length+(if ([]:List Keyword).isEmpty then 0 else 1)<30))=true:=by rfl)
  (aT:(apos.endLine==ay.line)=true:=by rfl) (hs:starEach (e::es) X.env=(false,eval e X.env)::starEach es X.env:=by rfl) (aU:(backTo ay (starEach es X.env)).any (·.1)=false:=by rfl) :
  PE X (.Call (.Attribute o name apos) (e::es) [] ay) (tBM X.K T r to t):=by
 intro pins s σ H Q I h;refine wpAny_Call_method_late aP b6 aT rfl (thn (ho pins s σ H _ I h) fun v s1 z0=>?_);obtain ⟨x,H1,I1,r1,ty,q1⟩:=z0;obtain ⟨h1,h2⟩:=a7n I1 r1 ty;refine ⟨T,id,pa,slot,br,h1,h2,?_⟩;have hA:=ha ay pins s1 σ H1 _ I1 q1;rw [hs] at hA ⊢;refine Calls.callWith_builtin (by show (false||(backTo ay (starEach es X.env)).any (·.1))=false; rw [aU] <;> rfl) (Calls.evalArgs_plain ?_);exact thn hA fun us s2 ⟨vs,H2,I2,r2,q2⟩=>hm pins s2 σ H2 x vs v us Q I2 r1 r2 q2
end
end L2
namespace L2
open PySem PySem.Spec PyProof.Rows
def MtM (X:Cx) (id:String) (r:V->List V->Hp->VK->Prop):Prop :=
 ∀ (pins:List (Addr × Obj)) (s:Shared) (σ:St) (H:Hp) (x:V) (xs:List V) (v:Value) (us:List Value) (Q:VK),Inv X pins σ H s->RelV x v->Vals xs us->r x xs H Q ->
  wpAny (model X.prog X.w) X.A (call (.builtin id) (v::us)) (EP X pins σ Q) X.xe s
theorem Vals.one {x:V} {us:List Value} (h:Vals [x] us):∃ u,us=[u]/\RelV x u:=by
 cases h with
 | cons r t=>cases t; exact ⟨_,rfl,r⟩
theorem Vals.two {x y:V} {us:List Value} (h:Vals [x,y] us):∃ u v,us=[u,v]/\RelV x u/\RelV y v:=by
 cases h with
 | cons r t=>obtain ⟨v,e,q⟩:=Vals.one t; exact ⟨_,v,iX _ e,r,q⟩
theorem Vals.zero:∀ {us:List Value},Vals [] us->us=[]
 | _,.nil=>rfl
theorem Vals.dropLast {xs:List V} {us:List Value} (h:Vals xs us):Vals xs.dropLast us.dropLast:=by
 induction h with
 | nil=>exact .nil
 | cons r t ih =>
  cases t with
  | nil=>exact .nil
  | cons q t'=>exact .cons r ih
theorem Vals.reverse {xs:List V} {us:List Value} (h:Vals xs us):Vals xs.reverse us.reverse:=by
 induction h with
 | nil=>exact .nil
 | cons r t ih=>rw [kM,kM]; exact Vals.append ih (.cons r .nil)
theorem Vals.rep {xs:List V} {us:List Value} (h:Vals xs us):∀ k:Nat,Vals (List.replicate k xs).flatten (List.replicate k us).flatten
 | 0=>.nil
 | k+1=>by
  rw [lL,lL,mG,mG];exact Vals.append h (Vals.rep h k)
theorem Wx {α:Type} (l:List α):l.eraseIdx (l.length - 1)=l.dropLast:=by
 induction l with
 | nil=>rfl
 | cons a r ih =>
  cases r with
  | nil=>rfl
  | cons b r =>
   have e:(a::b::r).length - 1=((b::r).length - 1)+1:=by
    have h1:(a::b::r).length=r.length+2:=rfl;have h2:(b::r).length=r.length+1:=rfl;omega
   rw [e,List.eraseIdx_cons_succ,ih]
   all_goals rfl
section
variable {X:Cx} {pins:List (Addr × Obj)} {σ:St} {H:Hp} {s:Shared} {l b:Addr} {xs ys zs:List V}
theorem Inv.af2 {its its':List Value} {n:Nat} {f:Array Value->Array Value} {t':Nat} (I:Inv X pins σ H s) (hH:H l=some (.lst xs))
  (e:s.heap.get? l=some { cls:=.type "list",data:=.seq its.toArray n }) (hf:f its.toArray=its'.toArray) (hv:Vals ys its') (hz:ys.length<=sizeLine) :
  Inv X pins σ (upd H l (.lst ys)) { s with heap:=s.heap.update l (Obj.mapSeq f),toks:=t' }:=by
 have q:=PySem.IsL.update e f;rw [hf] at q;refine I.write (x:=l) (e:=l) (by rw [hH]; exact trivial) (.inl rfl) (fun b' u hb hu=>(jv s.heap (Obj.mapSeq f) (Ne.symm hb)).trans hu) ⟨_,q⟩ ?_;exact ⟨hz,its',_,hv,q⟩
theorem Inv.agw {its:List Value} {t':Nat} (I:Inv X pins σ H s) (hv:Vals ys its) (hz:ys.length<=sizeLine) :
  Inv X pins σ (upd H s.heap.objs.size (.lst ys)) { s with heap:=s.heap.push { cls:=.type "list",data:=.seq its.toArray },toks:=t' } :=
 I.laid (fun _ _ q=>ix _ q) (ic _) ⟨hz,its,0,hv,iI _ rfl⟩
theorem Inv.fresh (I:Inv X pins σ H s):H s.heap.objs.size=none:=I.hok.fresh (ic _)
theorem Inv.aeg (I:Inv X pins σ H s) (hH:H l=some (.lst xs)):xs.length<=sizeLine/\∃ (its:List Value) (n:Nat),Vals xs its/\xs.length=its.length/\s.heap.get? l=some { cls:=.type "list",data:=.seq its.toArray n }:=by
 obtain ⟨z,its,n,r,e⟩:=I.hok l _ hH;exact ⟨z,its,n,r,r.length,e⟩
theorem a6l {n:Nat} (h:n<=sizeLine):Builtin.List.listTooLong n=false:=by
 unfold Builtin.List.listTooLong;exact iC (by omega)
end
section
variable {X:Cx}
def K9:V->List V->Hp->VK->Prop:=fun x vs H Q=>∃ l xs y,x=.ref l/\vs=[y]/\H l=some (.lst xs)/\xs.length<sizeLine/\Q .non (upd H l (.lst (xs++[y])))
theorem v9:MtM X "list.append" K9:=by
 intro pins s σ H x vs v us Q I rx rv h;obtain ⟨l,xs,y,rfl,rfl,hH,hz,q⟩:=h;cases rx;obtain ⟨u,rfl,ru⟩:=rv.one;obtain ⟨z,its,n,r,hl,e⟩:=I.aeg hH;refine call_meets F.slot_list_append ⟨_,e,rfl⟩ F.entry_list_append (F.args_list_append_2 _ _) (PySem.list_append l its.toArray n u (by rw [iB]; omega)) ⟨e,?_⟩;refine ⟨.non,_,I.af2 (its':=its++[u]) hH e (by simp) (r.append (.cons ru .nil)) ?_,rfl,q⟩;rw [il,iP];omega
def afe:V->List V->Hp->VK->Prop:=fun x vs H Q=>∃ l xs y,x=.ref l/\vs=[]/\H l=some (.lst xs)/\xs[xs.length - 1]? = some y/\Q y (upd H l (.lst xs.dropLast))
theorem a7t:MtM X "list.pop" afe:=by
 intro pins s σ H x vs v us Q I rx rv h;obtain ⟨l,xs,y,rfl,rfl,hH,hy,q⟩:=h;cases rx;have gv:=rv.zero;subst gv;obtain ⟨z,its,n,r,hl,e⟩:=I.aeg hH;obtain ⟨u,hu,ru⟩:=r.get hy
 have c9:its.toArray[its.toArray.size - 1]? = some u:=by
  show its.toArray[its.length - 1]? = some u;rw [<- mH,<- hl];exact hu
 refine call_meets F.slot_list_pop ⟨_,e,rfl⟩ F.entry_list_pop (F.args_list_pop_1 _) (MeetsSeq.list_pop_last l its.toArray n u c9 (by rw [iB]; omega)) ⟨e,?_⟩;refine ⟨y,_,I.af2 (its':=its.dropLast) hH e ?_ r.dropLast ?_,ru,q⟩
 ·show its.toArray.eraseIdxIfInBounds (its.toArray.size - 1)=its.dropLast.toArray;rw [iB,List.eraseIdxIfInBounds_toArray,Wx]
 ·rw [List.length_dropLast];omega
end
section
variable {prog:Program} {w:World} {A:Around} {E:Value->Shared->Prop} {s:Shared}
end
section
variable {X:Cx}
end
section
variable {κ:Type} [DecidableEq κ]
def Vw (ai:List (κ × V)) (k:κ):Option V:=(ai.find? fun kv=>decide (kv.1=k)).map (·.2)
noncomputable def putK (ai:List (κ × V)) (k:κ) (v:V):List (κ × V) :=
 if (ai.any fun kv=>decide (kv.1=k))=true then ai.map (fun kv=>if kv.1=k then (kv.1,v) else kv) else ai++[(k,v)]
theorem Jf {p:κ × V} {r:List (κ × V)} {k:κ} (e:p.1=k):Vw (p::r) k=some p.2:=by simp [Vw,List.find?_cons,e]
theorem Jd {p:κ × V} {r:List (κ × V)} {k:κ} (e:¬ p.1=k):Vw (p::r) k=Vw r k:=by simp [Vw,List.find?_cons,e]
theorem Oe.Gf {o:Option V} {u:Option Value} (r:Oe o u):o.isSome=u.isSome:=by
 cases o with
 | none=>cases u with
  | none=>rfl
  | some _=>exact (show False from r).elim
 | some _=>cases u with
  | none=>exact (show False from r).elim
  | some _=>rfl
theorem KV.val {ai:List (κ × V)} {vs:List (κ × Value)} (r:KV ai vs) (k:κ):Oe (Vw ai k) (valueAt vs k):=by
 unfold KV at r
 induction r with
 | nil=>exact True.intro
 | @cons p q ps qs h t ih =>
  obtain ⟨h1,h2⟩:=h
  by_cases e:p.1=k
  ·have e':q.1=k:=h1.symm.trans e;have b:valueAt (q::qs) k=some q.2:=by simp [valueAt,List.find?_cons,e']
   rw [Jf e,b]; exact h2
  ·have e':¬ q.1=k:=fun z=>e (h1.trans z);have b:valueAt (q::qs) k=valueAt qs k:=by simp [valueAt,List.find?_cons,e']
   rw [Jd e,b]; exact ih
theorem KV.any {ai:List (κ × V)} {vs:List (κ × Value)} (r:KV ai vs) (k:κ):(ai.any fun kv=>decide (kv.1=k))=vs.any fun kv=>decide (kv.1=k):=by
 unfold KV at r
 induction r with
 | nil=>rfl
 | cons h t ih=>rw [List.any_cons,List.any_cons,ih,h.1]
theorem KV.keys {ai:List (κ × V)} {vs:List (κ × Value)} (r:KV ai vs):ai.map (·.1)=vs.map (·.1):=by
 unfold KV at r
 induction r with
 | nil=>rfl
 | cons h t ih=>rw [iL,iL,ih,h.1]
theorem KV.length {ai:List (κ × V)} {vs:List (κ × Value)} (r:KV ai vs):ai.length=vs.length:=Paired.length r
end
theorem a72 {P:Program} {w:World} {k:Key} {u:Value} (r:RelV (kV k) u):(Bk P w).is k u=true:=by
 cases k with
 | inl i=>obtain ⟨t,e⟩:=(show ∃ t,u=Value.int i t from r); subst e; exact Rw P w i t
 | inr x=>obtain ⟨t,e⟩:=(show ∃ t,u=Value.str x t from r); subst e; exact Sy P w x t
theorem Pb {P:Program} {w:World}:∀ {ks:List Key} {us:List Value},Vals (ks.map kV) us->ItemsAre (Bk P w) ks us
 | [],_,r=>by rw [jK] at r; cases r; exact .nil
 | k::ks,_,r=>by
  rw [iL] at r;cases r with
  | cons h t=>exact .cons (a72 h) (Pb t)
abbrev KT (H:Hp):List (List Key × V)->List (List Key × Addr × Value)->Prop:=Paired fun p q=>p.1=q.1/\H q.2.1=some (.tup (p.1.map kV))/\RelV p.2 q.2.2
theorem KT.val {H:Hp} {ai:List (List Key × V)} {xs:List (List Key × Addr × Value)} (r:KT H ai xs) (k:List Key):Oe (Vw ai k) ((atKey xs k).map (·.2)):=by
 induction r with
 | nil=>exact True.intro
 | @cons p q ps qs h t ih =>
  obtain ⟨h1,_,h2⟩:=h
  by_cases e:p.1=k
  ·have e':q.1=k:=h1.symm.trans e;have b:atKey (q::qs) k=some q.2:=by simp [atKey,List.find?_cons,e']
   rw [Jf e,b]; exact h2
  ·have e':¬ q.1=k:=fun z=>e (h1.trans z);have b:atKey (q::qs) k=atKey qs k:=by simp [atKey,List.find?_cons,e']
   rw [Jd e,b]; exact ih
section
variable {P:Program} {w:World} {H:Hp} {h:Heap} {a:Addr}
theorem adf {u:HO} (ok:HOk P w H h) (e:Rd H a u):vq P w H h a u:=e.ok ok
theorem Rm {ai:List (Key × V)} (ok:HOk P w H h) (e:Rd H a (.dK ai)):ai.length<=sizeLine/\(a==sysModules)=false/\∃ vs,KV ai vs/\h.DictOf (Bk P w) a vs :=
 show vq P w H h a (.dK ai) from adf ok e
theorem W5 {ks:List Key} (ok:HOk P w H h) (e:H a=some (.tup (ks.map kV))):(tupleKind (Bk P w)).is h ks a:=by
 obtain ⟨_,its,r,o,h1,h2,_,n,h3⟩:=(show vq P w H h a (.tup (ks.map kV)) from ok a _ e);exact ⟨o,its.toArray,n,h1,h2,h3,by simpa using Pb r⟩
theorem a6t {ai:List (List Key × V)} (ok:HOk P w H h) (e:Rd H a (.dT ai)):ai.length<=sizeLine/\(a==sysModules)=false /\
  ∃ xs,KT H ai xs/\h.DictOfH (tupleKind (Bk P w)) a xs:=by
 obtain ⟨z,y,xs,r,o,es,ep,h1,h2,h3,h4,h5⟩:=(show vq P w H h a (.dT ai) from adf ok e);refine ⟨z,y,xs,r,o,es,ep,h1,h2,h3,h4,fun x hx=>?_,h5⟩
 have all:∀ {l:List (List Key × V)} {m:List (List Key × Addr × Value)},KT H l m->∀ x∈m,(tupleKind (Bk P w)).is h x.1 x.2.1:=by
  intro l m q
  induction q with
  | nil=>intro x hx; exact nomatch hx
  | @cons p q ps qs hq t ih =>
   intro x hx;rcases ir.mp hx with e | hx
   ·subst e;exact W5 ok (by rw [<- hq.1]; exact hq.2.1)
   ·exact ih x hx
 exact all r x hx
end
def ab8 (H:Hp) (a:Addr) (y:V) (r:Option V):Prop :=
 (∃ ai k,Rd H a (.dK ai)/\y=kV k/\r=Vw ai k)\/∃ ai k b,Rd H a (.dT ai)/\y=.ref b/\H b=some (.tup (k.map kV))/\r=Vw ai k
def aeb (H:Hp) (a:Addr) (y v:V) (H':Hp):Prop :=
 (∃ ai k,H a=some (.dK ai)/\y=kV k/\ai.length<sizeLine/\H'=upd H a (.dK (putK ai k v))) \/
 ∃ ai k b,H a=some (.dT ai)/\y=.ref b/\H b=some (.tup (k.map kV))/\ai.length<sizeLine/\H'=upd H a (.dT (putK ai k v))
theorem aeb.k {H:Hp} {a:Addr} {ai:List (Key × V)} {k:Key} {v:V} (e:H a=some (.dK ai)) (hl:ai.length<sizeLine):aeb H a (kV k) v (upd H a (.dK (putK ai k v))):=.inl ⟨ai,k,e,rfl,hl,rfl⟩
theorem aeb.t {H:Hp} {a b:Addr} {ai:List (List Key × V)} {k:List Key} {v:V} (e:H a=some (.dT ai)) (eb:H b=some (.tup (k.map kV))) (hl:ai.length<sizeLine) :
  aeb H a (.ref b) v (upd H a (.dT (putK ai k v))):=.inr ⟨ai,k,b,e,rfl,eb,hl,rfl⟩
section
variable {X:Cx} {pins:List (Addr × Obj)} {σ:St} {H:Hp} {s:Shared} {a:Addr} {y v:V} {u r:Value} {o:Option V} {A:Around} {E:Value->Shared->Prop}
theorem Inv.big (I:Inv X pins σ H s):sysModules<s.heap.objs.size:=by
 have h:mainGlobals<s.heap.objs.size:=(I.mod.glob.keeps I.bk).lt;exact lM (by decide) h
theorem a0x {Q:Value->Shared->Prop} (hu:A.units+1<cLine) (I:Inv X pins σ H s) (g:ab8 H a y (some v)) (ry:RelV y u) (h:∀ w' s',Inv X pins σ H s'->RelV v w'->Q w' s') :
  wpAny (model X.prog X.w) A (getItem (.ref a) u) Q E s:=by
 rcases g with ⟨ai,k,e,ey,l⟩ | ⟨ai,k,b,e,ey,eb,l⟩
 ·subst ey;obtain ⟨z,hd,vs,rel,dd⟩:=Rm I.hok e;obtain ⟨w',hw,rw'⟩:=Oe.some_of (v:=v) (o:=valueAt vs k) (by rw [l]; exact rel.val k);exact wpAny_getItem_of (a72 ry) dd.mapOf hw (h w' _ (I.tok _) rw')
 ·subst ey;cases (show u=Value.ref b from ry);obtain ⟨z,hd,xs,rel,dd⟩:=a6t I.hok e;obtain ⟨w',hw,rw'⟩:=Oe.some_of (v:=v) (o:=(atKey xs k).map (·.2)) (by rw [l]; exact rel.val k);obtain ⟨p,hp,hp2⟩:=iO.mp hw;refine wpAny_getItem_heap (tupleKind_room_in1 hu) (W5 I.hok eb) dd hp ?_;rw [hp2];exact h w' _ (I.tok _) rw'
theorem ahg {Q:Value->Shared->Prop} (hu:A.units+1<cLine) (I:Inv X pins σ H s) (g:ab8 H a y o) (ry:RelV y u) (h:∀ s',Inv X pins σ H s'->Q (.bool o.isSome) s') :
  wpAny (model X.prog X.w) A (compareOp .In u (.ref a)) Q E s:=by
 rcases g with ⟨ai,k,e,ey,l⟩ | ⟨ai,k,b,e,ey,eb,l⟩
 ·subst ey;obtain ⟨z,hd,vs,rel,dd⟩:=Rm I.hok e;refine wpAny_in_of (a72 ry) hd dd.mapOf ?_;rw [<- (rel.val k).Gf,<- l];exact h _ (I.tok _)
 ·subst ey;cases (show u=Value.ref b from ry);obtain ⟨z,hd,xs,rel,dd⟩:=a6t I.hok e;refine wpAny_in_heap (tupleKind_room_in1 hu) (W5 I.hok eb) hd dd ?_;have q:=(rel.val k).Gf;rw [Option.isSome_map] at q;rw [<- q,<- l];exact h _ (I.tok _)
theorem aaf {Q:Value->Shared->Prop} (hu:A.units+1<cLine) (I:Inv X pins σ H s) (g:ab8 H a y o) (ry:RelV y u) (h:∀ s',Inv X pins σ H s'->Q (.bool (!o.isSome)) s') :
  wpAny (model X.prog X.w) A (compareOp .NotIn u (.ref a)) Q E s:=by
 rcases g with ⟨ai,k,e,ey,l⟩ | ⟨ai,k,b,e,ey,eb,l⟩
 ·subst ey;obtain ⟨z,hd,vs,rel,dd⟩:=Rm I.hok e;refine wpAny_notIn_of (a72 ry) hd dd.mapOf ?_;rw [<- (rel.val k).Gf,<- l];exact h _ (I.tok _)
 ·subst ey;cases (show u=Value.ref b from ry);obtain ⟨z,hd,xs,rel,dd⟩:=a6t I.hok e;refine wpAny_notIn_heap (tupleKind_room_in1 hu) (W5 I.hok eb) hd dd ?_;have q:=(rel.val k).Gf;rw [Option.isSome_map] at q;rw [<- q,<- l];exact h _ (I.tok _)
end
section
variable {X:Cx} {pins:List (Addr × Obj)} {σ:St} {H:Hp} {s:Shared} {a:Addr} {ai:List (Key × V)} {k:Key} {u:Value} {A:Around} {E:Value->Shared->Prop}
theorem adq {Q:Value->Shared->Prop} (I:Inv X pins σ H s) (e:Rd H a (.dK ai)) (h:∀ t s',Inv X pins σ H s'->Q (.int ai.length t) s'):wpAny (model X.prog X.w) A (call (.builtin "len") [.ref a]) Q E s:=by
 obtain ⟨z,hd,vs,rel,dd⟩:=Rm I.hok e;refine call_len_dict hd dd (by rw [<- rel.length]; rw [sizeLine_eq] at z; omega) ?_;rw [<- rel.length];exact h _ _ (I.tok _)
end
theorem Ti {X:Cx} {pins:List (Addr × Obj)} {σ:St} {H:Hp} {s:Shared} {a:Addr} {y:V} {o:Option V} (I:Inv X pins σ H s) (g:ab8 H a y o):s.TypeIs (.ref a) "dict" := by
 rcases g with ⟨ai,k,e,_,_⟩ | ⟨ai,k,b,e,_,_,_⟩
 ·obtain ⟨_,_,vs,_,dd⟩:=Rm I.hok e;exact dd.typeIs
 ·obtain ⟨_,_,xs,_,dd⟩:=a6t I.hok e;exact dd.typeIs
section
variable {X:Cx} {o i e value:Expr} {pos pos' aM:Pos} {td ty tv:TE}
end
section
variable {X:Cx} {pos:Pos}
end
structure M1 (X:Cx) (o:Expr) (m:Str) (apos:Pos) (e:Expr) (ay:Pos):Prop where
 base:attributeBase o m X.env (eval o X.env)=eval o X.env
 few:((backTo ay (starEach [e] X.env)).all (fun x=>!x.1)&&(backToKw ay (keywordEach [] X.env)).all (fun x=>x.1.isSome)
  && decide (([e]:List Expr).length+([]:List Keyword).length+(if ([]:List Keyword).isEmpty then 0 else 1)<30))=true
 line:(apos.endLine==ay.line)=true
 trees:backTo ay (starEach [e] X.env)=[(false,eval e X.env)]
structure M2 (X:Cx) (o:Expr) (m:Str) (apos:Pos) (e f:Expr) (ay:Pos):Prop where
 base:attributeBase o m X.env (eval o X.env)=eval o X.env
 few:((backTo ay (starEach [e,f] X.env)).all (fun x=>!x.1)&&(backToKw ay (keywordEach [] X.env)).all (fun x=>x.1.isSome)
  && decide (([e,f]:List Expr).length+([]:List Keyword).length+(if ([]:List Keyword).isEmpty then 0 else 1)<30))=true
 line:(apos.endLine==ay.line)=true
 trees:backTo ay (starEach [e,f] X.env)=[(false,eval e X.env),(false,eval f X.env)]
section
variable {X:Cx} {pins:List (Addr × Obj)} {σ:St} {H:Hp} {s:Shared} {a:Addr} {y d:V} {u r:Value} {o:Option V} {A:Around} {E:Value->Shared->Prop}
end
section
variable {X:Cx} {o e f:Expr} {apos ay:Pos} {td ty tx:TE}
end
section
variable {X:Cx} {pins:List (Addr × Obj)} {σ:St} {H:Hp} {s:Shared} {a:Addr} {ai:List (Key × V)} {A:Around} {E:Value->Shared->Prop}
end
section
variable {X:Cx} {pins:List (Addr × Obj)} {σ:St} {H:Hp} {s:Shared} {a:Addr} {y:V} {u:Value} {A:Around} {E:Value->Shared->Prop}
end
end L2
end
section
namespace Att
open PySem PySem.W PySem.Calls PyProof.Rows
theorem Kg {P:Params} {h:Heap}:∀ (ns:List Int) (vs:List Value),WellAll P h vs (ns.map WData.int)->IntsAre vs ns:=by
 intro ns
 induction ns with
 | nil =>
  intro vs w;rw [jK] at w;cases w;exact .nil
 | cons n ns ih =>
  intro vs w;rw [iL] at w;cases w with
  | cons a b =>
   cases a;exact .cons _ _ (ih _ b)
theorem a3a {l:OpenLaw} {n:Nat} (hn:l.most=some n) {P:Params} {h:Heap} {args:List WData} {vals:List Value}
  (aF:l.row.toRowW.claim.pre args=true) (eL:WellAll P h vals args) :
  ∃ a vs ns,vals=[Value.ref a]/\args=[WData.list (ns.map WData.int)]/\h.get? a=some { cls:=.type "list",data:=.seq vs.toArray }/\IntsAre vs ns/\ns.length<=n:=by
 have gg:WShape.hasAll [] args [.list .int]=true:=(pre_splitW aF).1;have hc:l.pre.holds [] { args:=args } = true:=(pre_splitW aF).2;obtain ⟨d,r,rfl,h1,h2⟩:=hasAllW_cons gg;obtain rfl:=hasAllW_nil h2;obtain ⟨xs,rfl,h3⟩:=hasW_list h1;obtain ⟨ns,rfl⟩:=items_int h3
 have hlen:ns.length<=n:=by
  unfold OpenLaw.pre at hc
  have h4:(WTm.not (.lt (.lit (.int (n:Int))) (.len (.arg 0)))).holds [] { args:=[.list (ns.map .int)] } = true:=by
   have h4:=(holds_andW hc).1;rw [hn] at h4;exact h4
  have h5:=condW_of h4 (w_not (w_lt w_lit (w_len_list (w_arg rfl))));rw [hZ] at h5;refine jW fun q=>?_;have q':(n:Int)<((ns.length:Nat):Int):=by omega
  first
   | (rw [iF q'] at h5; exact absurd h5 (by decide))
   | (simp at h5; omega)
 cases eL with
 | cons w1 w2 =>
  cases w2;cases w1 with
  | list ho hall=>exact ⟨_,_,ns,rfl,rfl,ho,Kg ns _ hall,hlen⟩
theorem a1i (l:OpenLaw) (args:List WData):l.row.toRowW.claim.post args (.bool true) args=true :=
 postW_of (r:=l.row.toRowW) (X:=(true==true))
  (show WShape.has [] (.bool true) .bool=true by first | rfl | decide | simp [WShape.has,WShape.arms,WShape.armsAll])
  (show (WTm.eq .res (.lit (.bool true))).value [] { args:=args,res:=some (.bool true),after:=args } = some (.bool (true==true)) from w_eq_bool (w_res rfl) w_lit) rfl
theorem T8 {l:OpenLaw} {n:Nat} {q:Program} {loose:List Str} {XP:(Str->Option Value)->Heap->Prop} {YP:World->Heap->Prop} {d:DefRec}
  (hn:l.most=some n) (dm:d.params.defaults=[])
  (call:∀ (w:World) (s₀ ax:Shared) (mg mb:Str->Option Value) (fa:Addr) (o:Obj) (pm cd doc:Value) (a:Addr) (vs:List Value) (ns:List Int),
   Ground q loose [] XP w s₀ mg mb ax.heap->YP w ax.heap ->
   ax.heap.get? fa=some o->o.data=.func (docDef d.name d.params d.body d.scope pm cd doc)->ax.heap.CodeRec cd d.name->mg d.name=some (.ref fa) ->
   ax.heap.get? a=some { cls:=.type "list",data:=.seq vs.toArray }->IntsAre vs ns->ns.length<=n->ax.gens = #[] ->
   codeAny (model l.prog w) callerA (.call (.ref fa) ⟨[.ref a],[]⟩) (fun r s'=>r=.ok (.ret (.bool true))/\OldK ax.heap s'.heap/\s'.os=ax.os/\AllBare s'.gens) ax) :
  WalkO q loose XP YP l.row.toRowW d [] (fun f vs=>PySem.call f vs):=by
 intro w s₀ ax mg mb G Y fa o pm cd doc dV kV ho hd bz hD cD hg args vals as aF fZ gS eL eU;obtain rfl:dV=.none:=Dflts.none hD dm;obtain rfl:kV=.none:=Dflts.noKw hD;obtain ⟨a,vs,ns,rfl,rfl,cM,hints,hlen⟩:=a3a hn aF eL;refine enter_call (kK (call w s₀ ax mg mb fa o pm cd doc a vs ns G Y ho (fd_plain hd) bz cD cM hints hlen hg) fun r s' hq=>?_);obtain ⟨rfl,h2,h3,h4⟩:=hq;exact ⟨.inl ⟨.bool true,.bool true,[],rfl,fun _=>rfl,.bool true,a1i l _,fun _=>⟨List.Pairwise.nil,fun _ hm=>(nomatch hm)⟩⟩,h2,h3,h4⟩
section
variable {prog:Program} {w:World} {A:Around} {E:Value->Shared->Prop} {s:Shared} {K:Frag}
end
end Att
namespace L2
open PySem PySem.Spec PyProof.Rows
theorem Ol:∀ {vs:List Value} {ns:List Int},IntsAre vs ns->Vals (ns.map V.int) vs
 | _,_,.nil=>.nil
 | _,_,.cons n t h=>.cons ⟨t,rfl⟩ (Ol h)
def Only (H:Hp):Prop:=∀ b,H b=none\/∃ o xs,H b=some (.frz o (.lst xs))
theorem a5w {P:Program} {w:World} {K:PySem.W.Frag} {mg mb:Str->Option Value} {CX:CXT} {k:Nat} {fa a:Addr} {fd:FuncData} {x:Str} {sp:Sp} {ax:Shared} {vs:List Value} {ns:List Int}
  (KX:K.In ax.heap) (fv:ax.heap.Ns mainGlobals mg) (hb:ax.heap.Ns builtinsNs mb) (fR:∀ x:Str,x ≠ "__name__" -> mb x=bootBuiltins x) (eC:ax.heap.NoLimit) (hg:ax.gens = #[])
  (ha:ax.heap.get? a=some { cls:=.type "list",data:=.seq vs.toArray }) (hi:IntsAre vs ns) (hl:ns.length<=sizeLine) (hr:Cj k callerA)
  (F:∀ base:Heap,K.In base->base.Ns mainGlobals mg->Du P w K mg base CX k fa fd [x] sp) (dB:∀ (s:Shared) (u:Value),BindsTo s fd ⟨[u],[]⟩ [(x,u)])
  (cz:∀ H:Hp,Only H->SqL K H a (ns.map V.int)->sp [.ref a] H (fun v _=>v=.bl true) fun _ _ _=>False)
  (eA:∀ H e s',CX [] H ax (fun _ _ _=>False) e s'->False) :
  codeAny (model P w) callerA (.call (.ref fa) ⟨[.ref a],[]⟩) (fun r s'=>r=.ok (.ret (.bool true))/\OldK ax.heap s'.heap/\s'.os=ax.os/\AllBare s'.gens) ax:=by
 have rv:=Ol hi;have eI:=hi.length
 have core:∀ H:Hp,Only H->SqL K H a (ns.map V.int)->HOk P w H ax.heap->(∀ b,H b≠none->b=a)->(H a≠none->K.lookup a=none) ->
   codeAny (model P w) callerA (.call (.ref fa) ⟨[.ref a],[]⟩) (fun r s'=>r=.ok (.ret (.bool true))/\OldK ax.heap s'.heap/\s'.os=ax.os/\AllBare s'.gens) ax:=by
  intro H hO hS hok hA hK;have bL:∀ {b:Addr} {o:Obj},ax.heap.get? b=some o->H b=none->(a5o ax.heap H).get? b=some o:=fun e n=>a5n e n
  have da:∀ {b:Addr} {o:Obj} {es:Array DictEntry} {ep:Nat},ax.heap.get? b=some o->o.data=.dict es ep->H b=none:=fun {b o es ep} e d=>by
   cases q:H b with
   | none=>rfl
   | some u =>
    have e':b=a:=hA b (by rw [q]; simp);subst e';rw [ha] at e; cases e;have d':Data.seq vs.toArray _=Data.dict es ep:=d;cases d'
  have dP:∀ {b:Addr} {m:Str->Option Value},ax.heap.Ns b m->(a5o ax.heap H).Ns b m:=fun {b m} ⟨o,es,ep,e,d,r⟩=>⟨o,es,ep,bL e (da e d),d,r⟩
  have e9:K.In (a5o ax.heap H):=fun b o e=>bL (KX b o e) (by
   cases q:H b with
   | none=>rfl
   | some u =>
    have e':b=a:=hA b (by rw [q]; simp);subst e';rw [hK (by rw [q]; simp)] at e; cases e)
  have hM:Mod K mg (a5o ax.heap H):=⟨e9,dP fv,⟨mb,dP hb,fR⟩,let ⟨mc,h1,h2⟩:=eC; ⟨mc,dP h1,h2⟩⟩;have e0:a99 P w K mg (a5o ax.heap H) callerA [] ax H:=⟨rfl,hM,fun b o e=>ab3 e,kU (Yq _ _),trivial,fun b hb=>absurd (show b∈([]:List Addr) from hb) (by simp),hok,.of_eq hg⟩;refine kK ((F _ e9 (dP fv)).run callerA [] ax H ⟨[.ref a],[]⟩ [.ref a] [.ref a] _ _ hr e0 (dB ax (.ref a)) (.cons rfl .nil) (cz H hO hS)) fun r s' h=>?_;cases r with
  | error e=>exact (eA H e s' h).elim
  | ok fl =>
   cases fl with
   | next=>exact False.elim h
   | brk=>exact False.elim h
   | cont=>exact False.elim h
   | ret u =>
    obtain ⟨v,H',os,bare,un,hok',r',q⟩:=h;have q':v=.bl true:=q;subst q';obtain rfl:u=Value.bool true:=r';refine ⟨rfl,OldK.of_keep fun b o e=>?_,os,bare⟩;cases q:H b with
    | none=>exact un.keep b o e q (by intro z; exact absurd (show b∈([]:List Addr) from z) (by simp)) (by simp)
    | some u =>
     rcases hO b with z | ⟨ob,xs,z⟩
     ·rw [q] at z; cases z
     ·have z2:=un.frzs b ob _ z;obtain ⟨e1,_⟩:=hok b _ z;obtain ⟨e2,_⟩:=hok' b _ z2;rw [e] at e1; cases e1;exact e2
 cases hk:K.lookup a with
 | some o =>
  have e:=KX a o hk;rw [ha] at e;cases e;refine core (fun _=>none) (fun _=>.inl rfl) (.inr ⟨_,vs.toArray,_,hk,rfl,rfl,rfl,by rw [iB,eI]; exact hl,by simpa using rv⟩) (fun b u z=>by have z':(none:Option HO)=some u:=z; cases z') (fun b z=>absurd rfl z) fun z=>absurd rfl z
 | none =>
  refine core (fun b=>if b=a then some (.frz { cls:=.type "list",data:=.seq vs.toArray } (.lst (ns.map V.int))) else none) (fun b=>?_) (.inl (.inr ⟨{ cls:=.type "list",data:=.seq vs.toArray },hU rfl⟩)) (fun b u z=>?_) (fun b z=>?_) fun _=>hk
  ·by_cases hb:b=a
   ·exact .inr ⟨_,_,hU hb⟩
   ·exact .inl (hV hb)
  ·by_cases hb:b=a
   ·have z':=(hU hb).symm.trans z;cases z';subst hb;exact ⟨ha,by rw [hZ]; exact hl,vs,_,rv,ha⟩
   ·have z':=(hV hb).symm.trans z;cases z'
  ·by_cases hb:b=a
   ·exact hb
   ·exact absurd (hV hb) z
end L2
namespace L2
open PySem PySem.Spec PyProof.Rows
theorem aat {l:PySem.W.OpenLaw} {n k:Nat} {q:Program} {loose:List Str} {XP:(Str->Option Value)->Heap->Prop} {YP:World->Heap->Prop} {d:DefRec} {K:Params->PySem.W.Frag} {CX:World->CXT} {sp:World->Sp} {x:Str}
  (hn:l.most=some n) (dJ:n<=sizeLine) (dm:d.params.defaults=[]) (hr:Cj k callerA)
  (hY:∀ (w:World) (h:Heap),YP w h->(K w.params).In h)
  (F:∀ (w:World) (mg:Str->Option Value) (fa:Addr) (h:Heap),(K w.params).In h->h.Ns mainGlobals mg->mg d.name=some (.ref fa) ->
   ∃ fd:FuncData,(∀ (s:Shared) (u:Value),BindsTo s fd ⟨[u],[]⟩ [(x,u)]) /\
    ∀ base:Heap,(K w.params).In base->base.Ns mainGlobals mg->Du l.prog w (K w.params) mg base (CX w) k fa fd [x] (sp w))
  (cz:∀ (w:World) (H:Hp) (a:Addr) (ns:List Int),ns.length<=n->Only H->SqL (K w.params) H a (ns.map V.int)->sp w [.ref a] H (fun v _=>v=.bl true) fun _ _ _=>False)
  (eA:∀ (w:World) (H:Hp) (s:Shared) (e:Value) (s':Shared),CX w [] H s (fun _ _ _=>False) e s'->False) :
  PySem.W.WalkO q loose XP YP l.row.toRowW d [] (fun f vs=>PySem.call f vs):=by
 refine Att.T8 hn dm fun w s₀ ax mg mb fa o pm cd doc a vs ns G Y ho hd bz cD cM hints hlen hg=>?_;have KX:=hY w _ Y;obtain ⟨fd,hb,hF⟩:=F w mg fa _ KX G.T.g cD;exact a5w KX G.T.g G.T.b G.T.builtins G.T.nolimit hg cM hints (ip hlen dJ) hr hF hb (fun H hO hS=>cz w H a ns hlen hO hS) fun H e s'=>eA w H ax e s'
end L2
namespace L2
open PySem PySem.Spec PyProof.Rows
noncomputable def Fz (s:Stmt):Arguments:=match s with
 | .FunctionDef _ a _ _ _ _ _ _ _ _=>a
 | _=>{ posonlyargs:=[],args:=[],vararg:=none,kwonlyargs:=[],kw_defaults:=[],kwarg:=none,defaults:=[] }
def xu (s:Stmt):List Stmt:=match s with
 | .FunctionDef _ _ b _ _ _ _ _ _ _=>b
 | _=>[]
noncomputable def j5 (s:Stmt):Scope:=match s with
 | .FunctionDef _ _ _ _ _ _ sc _ _ _=>sc
 | _=>{ kind:=.function,names:=[],isGenerator:=false,isCoroutine:=false }
abbrev CX0:CXT:=fun _ _ _ _ _ _=>False
abbrev E0:XK:=fun _ _ _=>False
theorem ad0 {X:Cx}:Passes CX0 X E0:=fun _ _ _ _ _ _ _ h=>h.elim
structure Fun (K:PySem.W.Frag) (x qual:Str) (st:Stmt) (f:Addr) (fd:FuncData):Prop where
 ex:∃ (oc:Value) (od:Option Addr) (kV doc pm:Value) (an:Option Addr) (aC ct:Value) (bI:Array (Option Value)),
  fd=PySem.W.fnOf x qual (Fz st) (xu st) (j5 st) .none kV doc pm an aC ct/\K.lookup f=some ⟨oc,od,.func fd,bI⟩/\PySem.W.codeIn K aC qual=true
 kp:PySem.W.keepIn K (.ref f)=true
section
variable {P:Program} {w:World} {K:PySem.W.Frag} {mg:Str->Option Value} {base:Heap}
theorem Fun.ok {x qual:Str} {st:Stmt} {f:Addr} {fd:FuncData} {N ps:List Str} {k:Nat} {sp:Sp} (F:Fun K x qual st f fd) (S:Bx N ps (j5 st)) (len:∀ vs H Q E,sp vs H Q E->vs.length=ps.length)
  (b5:∀ (aC:Value) (A:Around) (outer:List Env) (s:Shared) (H:Hp) (vs:List V) (Q:VK) (E:XK),Cj k (A.deeper (envOfC qual (j5 st) s.heap.objs.size f aC))->sp vs H Q E ->
   ∃ t,PSs (Qc CX0 P w K mg base N qual (j5 st) f aC A outer s H E).nox (xu st) t/\t { nx:=fun _ H'=>Q .non H',rt:=Q } (start N vs) H):Du P w K mg base CX0 (k+1) f fd ps sp:=by
 obtain ⟨oc,od,kV,doc,pm,an,aC,ct,bI,rfl,lk,bz⟩:=F.ex;refine abh lk bz S len fun A outer s H vs Q E hr cz=>?_;obtain ⟨t,h,q⟩:=b5 aC A outer s H vs Q E hr cz;exact ⟨t,h.nox,q⟩
theorem Fun.binds {x qual:Str} {st:Stmt} {f:Addr} {fd:FuncData} {ps:List Str} (F:Fun K x qual st f fd)
  (h:∀ (kV doc pm:Value) (an:Option Addr) (aC ct:Value) (us:List Value),us.length=ps.length->bindArgs (PySem.W.fnOf x qual (Fz st) (xu st) (j5 st) .none kV doc pm an aC ct) ⟨us,[]⟩=pure (ps.zip us)):Binds K fd ps []:=by
 obtain ⟨oc,od,kV,doc,pm,an,aC,ct,bI,rfl,lk,bz⟩:=F.ex;exact .all (h kV doc pm an aC ct)
theorem bd1 {fd:FuncData} {ps:List Str} (h:∀ a,bindArgs fd ⟨[a],[]⟩=pure (ps.zip [a])) (us:List Value) (hl:us.length=1):bindArgs fd ⟨us,[]⟩=pure (ps.zip us):=by
 cases us with
 | nil=>exact nomatch hl
 | cons a us =>
 cases us with
 | cons _ _=>simp at hl
 | nil=>exact h a
theorem bd2 {fd:FuncData} {ps:List Str} (h:∀ a b,bindArgs fd ⟨[a,b],[]⟩=pure (ps.zip [a,b])) (us:List Value) (hl:us.length=2):bindArgs fd ⟨us,[]⟩=pure (ps.zip us):=by
 cases us with
 | nil=>exact nomatch hl
 | cons a us =>
 cases us with
 | nil=>exact nomatch hl
 | cons b us =>
 cases us with
 | cons _ _=>simp at hl
 | nil=>exact h a b
theorem bd3 {fd:FuncData} {ps:List Str} (h:∀ a b c,bindArgs fd ⟨[a,b,c],[]⟩=pure (ps.zip [a,b,c])) (us:List Value) (hl:us.length=3):bindArgs fd ⟨us,[]⟩=pure (ps.zip us):=by
 cases us with
 | nil=>exact nomatch hl
 | cons a us =>
 cases us with
 | nil=>exact nomatch hl
 | cons b us =>
 cases us with
 | nil=>exact nomatch hl
 | cons c us =>
 cases us with
 | cons _ _=>simp at hl
 | nil=>exact h a b c
theorem bd4 {fd:FuncData} {ps:List Str} (h:∀ a b c d,bindArgs fd ⟨[a,b,c,d],[]⟩=pure (ps.zip [a,b,c,d])) (us:List Value) (hl:us.length=4):bindArgs fd ⟨us,[]⟩=pure (ps.zip us):=by
 cases us with
 | nil=>exact nomatch hl
 | cons a us =>
 cases us with
 | nil=>exact nomatch hl
 | cons b us =>
 cases us with
 | nil=>exact nomatch hl
 | cons c us =>
 cases us with
 | nil=>exact nomatch hl
 | cons d us =>
 cases us with
 | cons _ _=>simp at hl
 | nil=>exact h a b c d
theorem bd5 {fd:FuncData} {ps:List Str} (h:∀ a b c d e,bindArgs fd ⟨[a,b,c,d,e],[]⟩=pure (ps.zip [a,b,c,d,e])) (us:List Value) (hl:us.length=5):bindArgs fd ⟨us,[]⟩=pure (ps.zip us):=by
 cases us with
 | nil=>exact nomatch hl
 | cons a us =>
 cases us with
 | nil=>exact nomatch hl
 | cons b us =>
 cases us with
 | nil=>exact nomatch hl
 | cons c us =>
 cases us with
 | nil=>exact nomatch hl
 | cons d us =>
 cases us with
 | nil=>exact nomatch hl
 | cons e us =>
 cases us with
 | cons _ _=>simp at hl
 | nil=>exact h a b c d e
theorem W7 {x qual:Str} {st:Stmt} {f:Addr} {oc:Value} {od an:Option Addr} {bI:Array (Option Value)} {kV doc pm aC ct:Value} (l:K.lookup f=some ⟨oc,od,.func (PySem.W.fnOf x qual (Fz st) (xu st) (j5 st) .none kV doc pm an aC ct),bI⟩)
  (c:PySem.W.codeIn K aC qual=true) (k:PySem.W.keepIn K (.ref f)=true):Fun K x qual st f (PySem.W.fnOf x qual (Fz st) (xu st) (j5 st) .none kV doc pm an aC ct):=⟨⟨oc,od,kV,doc,pm,an,aC,ct,bI,rfl,l,c⟩,k⟩
end
theorem a9s {A:Around} {k:Nat} (hr:Cj k A):A.units+1<cLine:=kd (Nat.add_le_add_left (by decide:1<=64) _) hr.units
theorem Em {n:Nat} (h:n<=1000):n<sizeLine:=kd h (by decide)
section
variable {X:Cx}
theorem pv (i:Nat) {x:Str} {pos:Pos} (hN:X.N[i]? = some x:=by rfl) (hv:Vis X.env.scope x:=by first | exact Or.inl rfl | exact Or.inr (Or.inl rfl) | exact Or.inr (Or.inr rfl)) (hd:(x==("__debug__" : Str))=false:=by decide)
  (bz:(x==("__classdict__" : Str))=false:=by decide):PE X (.Name x pos) (Y8 i):=a0n hN hv hd bz
end
theorem Zw {A B:Prop} (h:B):if false=true then A else B:=by
 rw [hV kJ];exact h
theorem a1l {A B:Prop} (h:A):if true=true then A else B:=by
 rw [hU rfl];exact h
def Same (H H':Hp):Prop:=∀ b o,H b=some o->H' b=some o
theorem Same.refl (H:Hp):Same H H:=fun _ _ h=>h
theorem Same.trans {H H1 H2:Hp} (a:Same H H1) (b:Same H1 H2):Same H H2:=fun c o h=>b c o (a c o h)
theorem Same.free {H H':Hp} (e:Same H H') {l:Addr} (h:H' l=Option.none):H l=Option.none:=by
 cases q:H l with
 | none=>rfl
 | some o =>
  rw [e l o q] at h;cases h
section
variable {X:Cx}
end
section
variable {κ:Type} [DecidableEq κ]
end
section
variable {pr:Program} {wd:World} {Ar:Around} {Rs:Result->Shared->Prop} {s:Shared}
theorem Rn {el dG fe:Expr} {cs:List Expr} {eV:Scope} {ps:Pos} {b9 aH:Value} {en:Env} (J:Nat->Shared->Prop)
  (turn:∀ n z,J n z->wpAny (model pr wd) Ar (pyNext b9) (fun nx z1=>match nx with
   | none=>Rs (.ok .next) z1
   | some v=>wpAny (model pr wd) Ar (letOwnedTupleGo dG b9 v) (fun _ z2=>wpAny (model pr wd) Ar (assign dG en v) (fun _ z3 =>
     wpAny (model pr wd) Ar (forIn cs true fun c go=>if go=true then do let ok <- isTrue c en (eval c en); pure (ForInStep.yield ok) else pure (ForInStep.yield go)) (fun ok z4 =>
      if ok=true then wpAny (model pr wd) Ar (eval el en) (fun x z5 =>
       wpAny (model pr wd) Ar (call (.builtin "list.append") [aH,x]) (fun _ z6=>∃ m,m<n/\J m z6) (fun _ _=>False) z5) (notedBy (model pr wd) Ar en fun x z=>Rs (.error x) z) z4
      else ∃ m,m<n/\J m z4) (fun _ _=>False) z3) (fun _ _=>False) z2) (fun _ _=>False) z1) (fun _ _=>False) z)
  (n:Nat) (h:J n s) :
  codeAny (model pr wd) Ar (.compLoop (.ListComp el [⟨dG,fe,cs,0⟩] eV ps) 0 b9 aH en) Rs s:=by
 refine codeAny_loop rfl J (fun k z hz=>?_) n h;show wpAny _ Ar ((compTurn (.ListComp el [⟨dG,fe,cs,0⟩] eV ps) 0 b9 aH en).onRaise (fun ex=>do noteFrame ex en; theTreesLotGoes ex)) _ _ z;refine wpAny_noted ?_;rw [compTurn_list];refine hJ (kT (hJ (iT (turn k z hz) (fun nx z1 g1=>?_) fun _ _ no=>no.elim)));cases nx with
 | none=>exact ia g1
 | some v =>
  refine hJ (iT g1 (fun _ z2 g2=>?_) fun _ _ no=>no.elim);refine hJ (iT g2 (fun _ z3 g3=>hJ (iT g3 (fun ok z4 g4=>?_) fun _ _ no=>no.elim)) fun _ _ no=>no.elim);cases ok with
  | false=>exact ia (And.intro rfl g4)
  | true =>
   exact hJ (hJ (iT g4 (fun x z5 g5=>hJ (iT g5 (fun _ z6 g6=>ia (ia (And.intro rfl g6))) fun _ _ no=>no.elim)) fun _ _ e=>e))
end
noncomputable def Te (env:Env):List (Str × NameKind)->List (Str × Addr)->List (Str × Addr)
 | [],cs=>cs
 | (n,k)::r,cs=>Te env r (if (k==NameKind.free)=true then (match env.cells.lookup n with | some c=>(n,c)::cs | none=>cs) else cs)
noncomputable def Ew (env:Env) (names:List (Str × NameKind)):Bool:=names.all fun y=>!(y.2==NameKind.free)||(env.cells.lookup y.1).isSome
theorem Di {scope:Scope} {env:Env} (h:Ew env scope.names=true):closureFor scope env=pure (Te env scope.names []):=by
 have key:∀ (l:List (Str × NameKind)) (cs:List (Str × Addr)),Ew env l=true ->
   (forIn (m:=Sem) l cs fun x r=>(do
    if (x.2==NameKind.free)=true then
     let c <- cellOf env x.1
     pure (ForInStep.yield ((x.1,c)::r))
    else pure (ForInStep.yield r)))=pure (Te env l cs):=by
  intro l
  induction l with
  | nil=>intro cs _; rfl
  | cons x r ih =>
   intro cs h;obtain ⟨n,k⟩:=x;unfold Ew at h;rw [lN,ja] at h;obtain ⟨h1,h2⟩:=h;rw [List.forIn_cons]
   by_cases hk:(k==NameKind.free)=true
   ·have cQ:(env.cells.lookup n).isSome=true:=by simpa [hk] using h1
    obtain ⟨c,hc⟩:=lJ.mp cQ;have e:cellOf env n=pure c:=by unfold cellOf; rw [hc]
    simp only [hk,if_true,e,pure_bind];rw [ih _ h2];simp only [Te,hk,if_true,hc]
   ·simp only [hk,if_false,pure_bind,Bool.false_eq_true];rw [ih _ h2];simp only [Te,hk,if_false,Bool.false_eq_true]
 have:=key scope.names [] h;unfold closureFor;simpa using this
noncomputable def kj (X:Cx) (scope:Scope) (N:List Str) (C:Addr) (s₀:Shared) (H₀:Hp) (ex:List Addr) (pn:List (Addr × Obj)):Cx :=
 { X with N:=N,s₀:=s₀,H₀:=H₀,env:=compEnvC scope (Te X.env scope.names []) C X.env,outer:=X.stack,ex:=ex,fn:=fun _=>false,pn:=pn,xe:=fun _ _=>False }
structure Fp (X:Cx) (scope:Scope) (N:List Str):Prop where
 has:Ew X.env scope.names=true
 kind:scope.kind=.function
 nocell:∀ y∈scope.names,y.2≠.cell
 names:∀ y∈scope.names,y.2=.local->scope.names.lookup y.1=some .local
def a78 (X:Cx) (scope:Scope) (x:Str):Prop :=
 (X.env.kindOf x=some .cell\/X.env.kindOf x=some .free)/\Vis X.env.scope x/\((relabel scope X.env).names.lookup x=some .cell\/(relabel scope X.env).names.lookup x=some .free)
theorem Kh {env:Env}:∀ (l:List (Str × NameKind)) (cs:List (Str × Addr)),(∀ x c,cs.lookup x=some c->env.cells.lookup x=some c) ->
  ∀ x c,(Te env l cs).lookup x=some c->env.cells.lookup x=some c
 | [],cs,h,x,c,e=>h x c e
 | (n,k)::r,cs,h,x,c,e=>by
  rw [Te] at e;refine Kh r _ (fun y d q=>?_) x c e;split at q
  ·split at q
   ·rename_i c' b8;rw [kZ] at q;split at q
    ·rename_i hb;cases q;have eG:=eq_of_beq hb;rw [eG]; exact b8
    ·exact h y d q
   ·exact h y d q
  ·exact h y d q
theorem Yv {env:Env}:∀ (l:List (Str × NameKind)) (cs:List (Str × Addr)) (x:Str),(∃ c,cs.lookup x=some c)->∃ c,(Te env l cs).lookup x=some c
 | [],cs,x,h=>h
 | (n,k)::r,cs,x,h=>by
  rw [Te];refine Yv r _ x ?_;split
  ·split
   ·rename_i c' b8;rw [kZ];split
    ·exact ⟨_,rfl⟩
    ·exact h
   ·exact h
  ·exact h
theorem a1k {env:Env}:∀ (l:List (Str × NameKind)) (cs:List (Str × Addr)) (x:Str),Ew env l=true->(x,NameKind.free)∈l->∃ c,(Te env l cs).lookup x=some c
 | [],cs,x,_,h=>by simp at h
 | (n,k)::r,cs,x,hh,h=>by
  unfold Ew at hh;rw [lN,ja] at hh;rw [Te];rcases ir.mp h with e | h'
  ·injection e with e1 e2;subst e1; subst e2;have h1:(env.cells.lookup x).isSome=true:=by simpa using hh.1
   obtain ⟨c,hc⟩:=lJ.mp h1;refine Yv r _ x ?_;simp [hc]
  ·exact a1k r _ x hh.2 h'
theorem mem_of_lookup {α:Type}:∀ {l:List (Str × α)} {x:Str} {k:α},l.lookup x=some k->(x,k)∈l
 | [],_,_,h=>by simp at h
 | (n,k')::r,x,k,h=>by
  rw [kZ] at h;split at h
  ·rename_i hb;cases h;have eG:=eq_of_beq hb;rw [eG]; exact ie
  ·exact ij _ (mem_of_lookup h)
theorem Wf {scope:Scope} {env:Env} (nc:∀ y∈scope.names,y.2≠.cell) {x:Str} (h:(relabel scope env).names.lookup x=some .cell\/(relabel scope env).names.lookup x=some .free):(x,NameKind.free)∈scope.names:=by
 have:∃ k,(x,k)∈(relabel scope env).names/\(k=.cell\/k=.free):=by
  rcases h with h | h
  ·exact ⟨_,mem_of_lookup h,.inl rfl⟩
  ·exact ⟨_,mem_of_lookup h,.inr rfl⟩
 obtain ⟨k,hm,hk⟩:=this;obtain ⟨⟨n,k'⟩,hm',e⟩:=iN.mp hm;dsimp only at e;split at e
 ·rename_i hc;cases e;simp only [Bool.and_eq_true,beq_iff_eq] at hc;obtain ⟨⟨h1,_⟩,_⟩:=hc;subst h1; exact hm'
 ·cases e;rcases hk with rfl | rfl
  ·exact absurd rfl (nc _ hm')
  ·exact hm'
def PTs (X:Cx) (ifs:List Expr) (t:TT):Prop:=∀ (pins:List (Addr × Obj)) (s:Shared) (σ:St) (H:Hp) (Q:Bool->Hp->Prop),Inv X pins σ H s->t σ H Q ->
 wpAny (model X.prog X.w) X.A (forIn ifs true fun c r=>if r=true then do let ok <- isTrue c X.env (eval c X.env); pure (ForInStep.yield ok) else pure (ForInStep.yield r)) (TP X pins σ Q) X.xe s
theorem a0h {X:Cx}:PTs X [] (fun _ H Q=>Q true H):=fun pins s σ H Q I h=>wpAny_tests_nil ⟨H,I,h⟩
def Mr (X:Cx) (scope:Scope) (N:List Str) (g:TG) (tc:TT) (te:TE) (σ:St) (J:It) (H1:Hp) (Q:VK):Prop:=∀ D,H1 D=none->∃ aW:St,aW.length=N.length /\
 (∀ (i:Nat) (v:V) (x:Str),aW[i]? = some (some v)->N[i]? = some x->Vis (relabel scope X.env) x->∃ k:Nat,X.N[k]? = some x/\σ[k]? = some (some v)/\a78 X scope x) /\
 ∃ W:Nat->Nat->St->Hp->Prop,(∃ m,W 0 m aW (upd H1 D (.lst [])))/\∀ i m ag H',W i m ag H' ->
  (J.stop i H'/\Q (.ref D) H')\/(J.go i H'/\∀ x H2,J.yld i H' x H2->g x ag H2 fun bG H3=>tc bG H3 fun b H4=>if b=true then te bG H4 fun y H5=>∃ l,H5 D=some (.lst l)/\l.length<sizeLine/\∃ m',m'<m/\W (i+1) m' bG (upd H5 D (.lst (l++[y]))) else ∃ m',m'<m/\W (i+1) m' bG H4)
noncomputable def aaz (X:Cx) (scope:Scope) (N:List Str) (wi:TI) (g:TG) (tc:TT) (te:TE):TE:=fun σ H Q=>wi σ H fun J H1=>Mr X scope N g tc te σ J H1 Q
section
variable {X:Cx} {scope:Scope} {N:List Str}
theorem a1p (sc:Fp X scope N) {pins:List (Addr × Obj)} {σ:St} {H:Hp} {s:Shared} {fp:List Addr} (I:Inv X pins σ H s) (hf:∀ b∈fp,Kr X pins H b) (dq:∀ b∈fp,b<s.heap.objs.size) :
  (kj X scope N s.heap.objs.size s H fp (X.pn++pins)).Ok where
 mod:=I.ok.mod
 kind:=sc.kind
 glob:=I.ok.glob
 blt:=I.ok.blt
 above:=ic _
 inj:=fun x y c h1 h2=>I.ok.inj x y c (Kh _ [] (fun _ _ z=>by simp at z) x c h1) (Kh _ [] (fun _ _ z=>by simp at z) y c h2)
 has:=fun x h=>a1k _ [] x sc.has (Wf sc.nocell h)
 cab:=fun x c h=>by cases h
 hd:=I.ok.hd
 frames:=I.ok.frames
 stk:=.inl rfl
 exf:=fun b hb=>⟨iQ (dq b hb),fun x c h=>(hf b hb).2.2.2.2.1 x c (Kh _ [] (fun _ _ z=>by simp at z) x c h)⟩
 bs:=I.bs
 bsz:=ip I.ok.bsz I.sz
 noex:=fun b o e hb=>by
  rcases (hf b hb).2.2.2.1 with z | z
  ·exact I.ok.noex b o e z
  ·exact absurd (iD (iq e) (ip I.ok.bsz z)) (jM _)
 exfs:=fun b hb z=>by
  rcases ir.mp (I.Ra b z) with e | e
  ·exact (hf b hb).2.1 e
  ·exact (hf b hb).2.2.1 e
 Yj:=I.stack
 frf:=I.Rv
theorem Yb (sc:Fp X scope N) {pins:List (Addr × Obj)} {σ aW:St} {H:Hp} {s:Shared} {fp:List Addr} {h':Heap} {m:Str->Option Value} {tk:Nat} (I:Inv X pins σ H s) (hf:∀ b∈fp,Kr X pins H b) (dq:∀ b∈fp,b<s.heap.objs.size)
  (hl:aW.length=N.length) (h0:∀ (i:Nat) (v:V) (x:Str),aW[i]? = some (some v)->N[i]? = some x->Vis (relabel scope X.env) x->∃ k:Nat,X.N[k]? = some x/\σ[k]? = some (some v)/\a78 X scope x)
  (hn:h'.Ns s.heap.objs.size m) (hk:∀ b o,s.heap.get? b=some o->h'.get? b=some o) :
  Inv (kj X scope N s.heap.objs.size s H fp (X.pn++pins)) [] aW H { s with heap:=h',toks:=tk } where
 ok:=a1p sc I hf dq
 os:=rfl
 bare:=I.bare
 base:=Un.kept hk
 loc:=⟨m,hn,fun i x v e1 e2 e3=>by
  obtain ⟨k,n2,n3,ck,cv,cr⟩:=h0 i v x e2 e1 e3;obtain ⟨m0,_,hl0⟩:=I.loc;obtain ⟨u,r,l⟩:=hl0 k x v n2 n3 cv;refine ⟨u,r,.inr ⟨cr,?_⟩⟩;rcases l with ⟨l1,_⟩ | ⟨_,c,hc,z⟩
  ·rcases ck with q | q <;> (rw [l1] at q; cases q)
  ·obtain ⟨c',b8⟩:=a1k (env:=X.env) scope.names [] x sc.has (Wf sc.nocell cr);have q:=Kh scope.names [] (fun _ _ z=>by simp at z) x c' b8;rw [hc] at q; cases q;obtain ⟨o,ho,hd⟩:=z;exact ⟨c,b8,o,hk _ _ ho,hd⟩⟩
 cell:=fun x c e=>by
  obtain ⟨v,o,ho,hd⟩:=I.cell x c (Kh scope.names [] (fun _ _ z=>by simp at z) x c e);exact ⟨v,o,hk _ _ ho,hd⟩
 free:=I.hok.fresh (ic _)
 freeC:=fun x c e=>I.freeC x c (Kh scope.names [] (fun _ _ z=>by simp at z) x c e)
 pin:=fun p hp=>by
  have eD:p∈X.pn++pins:=by simpa [kj] using hp
  obtain ⟨a,b,c,d,e⟩:=I.pin p eD;refine ⟨hk _ _ a,b,iQ (iq a),fun z=>?_,e⟩;rcases ir.mp (I.Ra p.1 z) with q | q
  ·exact c q
  ·exact d q
 hok:=I.hok.kept hk
 len:=hl
theorem J6 {pins:List (Addr × Obj)} {σ ag:St} {H H':Hp} {s s':Shared} {fp:List Addr} {h':Heap} (I:Inv X pins σ H s) (hf:∀ b∈fp,Kr X pins H b)
  (J:Inv (kj X scope N s.heap.objs.size s H fp (X.pn++pins)) [] ag H' s') (hs:Heap.SameBut s.heap.objs.size s'.heap h'):Inv X pins σ H' { s' with heap:=h' }:=by
 have kb:∀ b o,b≠s.heap.objs.size->s'.heap.get? b=some o->h'.get? b=some o:=fun b o n e=>hs.extBut b o n e;have ne:∀ b o,s.heap.get? b=some o->b≠s.heap.objs.size:=fun b o e=>iQ (iq e);have fr:H' s.heap.objs.size=none:=J.free;have u0:Un (frs X.stack) fp H H' s.heap s'.heap:=J.base
 have u:Un (frs X.stack) fp H H' s.heap h':=⟨fun b o e n h1 h2=>kb b o (ne b o e) (u0.keep b o e n h1 h2),fun b o e n h1 h2=>by
   obtain ⟨sl,q⟩:=u0.slot b o e n h1 h2;exact ⟨sl,kb b _ (ne b o e) q⟩,u0.free,fun b o e h=>by
   obtain ⟨o',q⟩:=u0.there b o e h;exact ⟨o',kb b _ (ne b o e) q⟩,u0.tups,u0.frzs,u0.tbls⟩
 have hok:HOk X.prog X.w H' h':=fun b o e=>by
  refine (J.hok b o e).stay (fun c v hc q=>kb c v ?_ q) (fun _ q=>q) fun _ _ q=>q;rcases hc with z | z
  ·rw [z]; intro y; rw [y] at e; rw [fr] at e; cases e
  ·intro y; rw [y] at z; rw [fr] at z; cases z
 have cb:s'.os=s.os:=J.os;obtain ⟨hh,g,d,t,os'⟩:=s';obtain rfl:os'=s.os:=cb;exact Inv.call (X:=X) (s:=s) (H:=H) (h':=h') (g':=g) (d':=d) (t':=t) (ch:=fp) I u hok J.bare fun b hb=>⟨(hf b hb).2.2.2.1,(hf b hb).2.1,(hf b hb).2.2.2.2.1,(hf b hb).2.2.2.2.2⟩
variable {tg iter elt:Expr} {ifs:List Expr} {pos:Pos} {g:TG} {tc:TT} {te:TE}
theorem Ku {Ex:Cx->Value->Shared->Prop} (sc:Fp X scope N) (calm:X.calm=true)
  (hg:∀ C s₀ H₀ ex pn,PG (kj X scope N C s₀ H₀ ex pn) tg g) (hc:∀ C s₀ H₀ ex pn,PTs (kj X scope N C s₀ H₀ ex pn) ifs tc) (he:∀ C s₀ H₀ ex pn,PE ((kj X scope N C s₀ H₀ ex pn).wish (Ex (kj X scope N C s₀ H₀ ex pn))) elt te)
  {pins:List (Addr × Obj)} {σ:St} {H1:Hp} {az:Shared} {it:Addr} {fp:List Addr} {tn:Nat->Heap->Prop} {J:It} {Q:VK} {E:Value->Shared->Prop} {RR:Value->Addr->Result->Shared->Prop}
  (I:Inv X pins σ H1 az) (T:Turn X.prog X.w X.K tg J fp it tn) (aQ:tn 0 az.heap) (f2:∀ b∈fp,Kr X pins H1 b) (q:Mr X scope N g tc te σ J H1 Q)
  (de:∀ D ah H3 ag H' s',Inv X pins σ H3 ah->(∀ b∈fp,Kr X pins H3 b)->Inv (kj X scope N ah.heap.objs.size ah H3 fp (X.pn++pins)) [] ag H' s'->Q (.ref D) H'->RR (.ref D) ah.heap.objs.size (.ok .next) s')
  (dW:∀ D ah H3 e s',Inv X pins σ H3 ah->(∀ b∈fp,Kr X pins H3 b)->Ex (kj X scope N ah.heap.objs.size ah H3 fp (X.pn++pins)) e s'->notedBy (model X.prog X.w) X.A (kj X scope N ah.heap.objs.size ah H3 fp (X.pn++pins)).env (fun x z=>RR (.ref D) ah.heap.objs.size (.error x) z) e s') :
  wpAny (model X.prog X.w) X.A (newList []) (fun acc ah=>wpAny (model X.prog X.w) X.A (newFunctionEnv scope X.env.globals (Te X.env scope.names []) [] X.env.qual none .none (some X.env)) (fun a9 a7 =>
   codeAny (model X.prog X.w) X.A (.compStart (.ListComp elt [⟨tg,iter,ifs,0⟩] scope pos) 0 (.ref it) acc { a9 with scope:=relabel scope X.env }) (RR acc a9.locals) a7) E ah) E az:=by
 refine jP (wpAny_newFunctionEnv sc.nocell (by intro y hy; simp at hy) (fun a8 bA bE=>?_) sc.kind);dsimp only at bA bE ⊢
 have I3:Inv X pins σ (upd H1 az.heap.objs.size (.lst [])) { az with heap:=az.heap.push { cls:=.type "list",dict:=none,data:=.seq ([]:List Value).toArray } } :=
  I.laid (t':=az.toks) (fun b ob q=>ix _ q) (ic _) ⟨iZ _,[],_,.nil,iI _ rfl⟩
 generalize dM:({ az with heap:=az.heap.push { cls:=.type "list",dict:=none,data:=.seq ([]:List Value).toArray } }:Shared)=ah at I3;have bY:az.heap.push { cls:=.type "list",dict:=none,data:=.seq ([]:List Value).toArray } = ah.heap:=by rw [<- dM]
 have cI:∀ (h:Heap) (t:Nat),({ az with heap:=h,toks:=t }:Shared) = { ah with heap:=h,toks:=t }:=fun h t=>by rw [<- dM]
 rw [bY] at bA bE ⊢
 have ff:∀ b∈fp,b<az.heap.objs.size:=fun b hb=>by
  obtain ⟨o,ho,_⟩:=T.obj _ _ aQ b hb;exact iq ho
 have gP:ah.heap.objs.size=az.heap.objs.size+1:=by rw [<- bY,jU]
 have fG:∀ b o,az.heap.get? b=some o->ah.heap.get? b=some o:=fun b o e=>by rw [<- bY]; exact ix _ e
 have f3:∀ b∈fp,Kr X pins (upd H1 az.heap.objs.size (.lst [])) b:=fun b hb=>⟨by rw [gw (iQ (ff b hb))]; exact (f2 b hb).1,(f2 b hb).2⟩;have fm:∀ b∈fp,b<ah.heap.objs.size:=fun b hb=>by rw [gP]; exact mI (ff b hb)
 obtain ⟨aW,hl,h0,W,⟨m0,w0⟩,turn⟩:=q az.heap.objs.size (I.hok.fresh (ic _));have eW:∀ b o,ah.heap.get? b=some o->a8.get? b=some o:=fun b o e=>bE.extBut b o (iQ (iq e)) (ix _ e);rw [cI];have J0:=Yb (tk:=az.toks+([]:List (Str × Value)).length) sc I3 f3 fm hl h0 bA eW;have eZ:tn 0 a8:=T.keep _ _ _ aQ fun b _ o e=>eW b o (fG b o e)
 have key:∀ a7:Shared,a7 = { ah with heap:=a8,toks:=az.toks+([]:List (Str × Value)).length }->codeAny (model X.prog X.w) X.A (.compLoop (.ListComp elt [⟨tg,iter,ifs,0⟩] scope pos) 0 (.ref it) (.ref az.heap.objs.size)
   (kj X scope N ah.heap.objs.size ah (upd H1 az.heap.objs.size (.lst [])) fp (X.pn++pins)).env) (RR (.ref az.heap.objs.size) ah.heap.objs.size) a7:=by
  rintro a7 rfl;generalize hX:kj X scope N ah.heap.objs.size ah (upd H1 az.heap.objs.size (.lst [])) fp (X.pn++pins)=X' at J0;have hP:X'.prog=X.prog:=by rw [<- hX]; rfl
  have hW:X'.w=X.w:=by rw [<- hX]; rfl
  have hA:X'.A=X.A:=by rw [<- hX]; rfl
  have dZ:X'.xe=fun _ _=>False:=by rw [<- hX]; rfl
  have hK:X'.K=X.K:=by rw [<- hX]; rfl
  have cW:X'.calm=true:=by rw [<- hX]; exact calm
  have bF:∀ {H':Hp},(∀ b∈fp,H' b=none)->∀ b∈fp,Kr X' [] H' b:=fun hn b hb=>by
   have z:=a1p sc I3 f3 fm;rw [hX] at z;refine ⟨hn b hb,(z.exf b (by rw [<- hX]; exact hb)).1,z.exfs b (by rw [<- hX]; exact hb),.inl (by rw [<- hX]; exact hb),(z.exf b (by rw [<- hX]; exact hb)).2,fun p hp=>?_⟩;have eD:p∈X.pn++pins:=by rw [<- hX] at hp; simpa [kj] using hp
   exact (f3 b hb).2.2.2.2.2 p eD
  have cw:PG X' tg g:=by rw [<- hX]; exact hg _ _ _ _ _
  have b8:PTs X' ifs tc:=by rw [<- hX]; exact hc _ _ _ _ _
  have cy:PE (X'.wish (Ex X')) elt te:=by rw [<- hX]; exact he _ _ _ _ _
  have ef:∀ e s',Ex X' e s'->notedBy (model X.prog X.w) X.A X'.env (fun x z=>RR (.ref az.heap.objs.size) ah.heap.objs.size (.error x) z) e s':=fun e s' z=>by rw [<- hX] at z ⊢; exact dW _ ah _ e s' I3 f3 z
  have fin:∀ ag H' s',Inv X' [] ag H' s'->Q (.ref az.heap.objs.size) H'->RR (.ref az.heap.objs.size) ah.heap.objs.size (.ok .next) s':=fun ag H' s' I' q'=>de _ ah _ ag H' s' I3 f3 (by rw [hX]; exact I') q';have T':Turn X'.prog X'.w X'.K tg J fp it tn:=by rw [hP,hW,hK]; exact T
  rw [<- hP,<- hW,<- hA];refine Rn (J:=fun n s'=>∃ i ag H',Inv X' [] ag H' s'/\tn i s'.heap/\(∀ b∈fp,H' b=none)/\W i n ag H') ?_ m0 ⟨0,aW,_,J0,eZ,fun b hb=>(f3 b hb).1,w0⟩;rintro n s5 ⟨i,σ5,H5,I5,st5,fr5,w5⟩;rcases turn i n σ5 H5 w5 with ⟨stop,qn⟩ | ⟨go,step⟩
  ·refine thn (T'.done X' rfl rfl rfl cW i [] s5 σ5 H5 _ I5 (bF fr5) st5 stop) fun r s6 z0=>?_;obtain ⟨hr,I6⟩:=z0;subst hr;exact fin _ _ _ I6 qn
  ·refine thn (T'.item X' rfl rfl rfl cW i [] s5 σ5 H5 _ I5 (bF fr5) st5 go) fun r s6 z0=>?_;obtain ⟨u,hr,h6⟩:=z0;subst hr;refine thn h6 fun _ s7 z0=>?_;obtain ⟨x,H7,I7,r7,y7,st7,fr7⟩:=z0;have gF:=I7.pinned (bF fr7) (T'.obj _ _ st7);have a1:=cw _ s7 σ5 H7 x u _ gF r7 (step x H7 y7);rw [dZ] at a1;refine thn a1 fun _ s8 z0=>?_;obtain ⟨σ8,H8,I8,q8⟩:=z0;have a2:=b8 _ s8 σ8 H8 _ I8 q8;rw [dZ] at a2;refine thn a2 fun ok s9 z0=>?_;obtain ⟨H9,I9,q9⟩:=z0
   have again:∀ {bu:St} {H7:Hp} {s':Shared} {m':Nat},Inv X' ([]++Qu fp s7.heap) bu H7 s'->m'<n->W (i+1) m' bu H7->∃ m,m<n/\∃ i ag H',Inv X' [] ag H' s'/\tn i s'.heap/\(∀ b∈fp,H' b=none)/\W i m ag H':=fun {bu H7 s' m'} I7 hm w7=>by
    refine ⟨m',hm,i+1,bu,H7,I7.Gy,T'.keep _ _ _ st7 fun b hb o e=>(I7.pin (b,o) (js _ (js _ (Cw hb e)))).1,fun b hb=>?_,w7⟩;obtain ⟨o,e,d⟩:=T'.obj _ _ st7 b hb;exact (I7.pin (b,o) (js _ (js _ (Cw hb e)))).2.1
   cases ok with
   | false =>
    rw [hV kJ] at q9 ⊢;obtain ⟨m',hm,w9⟩:=q9;exact again I9 hm w9
   | true =>
    rw [hU rfl] at q9 ⊢;refine iT (cy _ s9 σ8 H9 _ (I9.wish _) q9) (fun xv fc z0=>?_) fun e z h=>by rw [hP,hW,hA]; exact ef e z h
    obtain ⟨y,H10,I10',r10,l,hl10,hz10,m',hm,w10⟩:=z0;have gO:=I10'.Fo;have a4:=v9 (X:=X') _ fc σ8 H10 (.ref az.heap.objs.size) [y] (.ref az.heap.objs.size) [xv] (fun _ H'=>H'=upd H10 az.heap.objs.size (.lst (l++[y]))) gO rfl (.cons r10 .nil) ⟨_,l,y,rfl,rfl,hl10,hz10,rfl⟩;rw [dZ] at a4;refine thn a4 fun _ gQ z0=>?_;obtain ⟨v,H11,I11,_,e11⟩:=z0;subst e11;exact again I11 hm w10
 exact codeAny_compStart_list (key _ rfl) (T.self _ 0 _ _ _ eZ (key _ rfl))
theorem M4 (sc:Fp X scope N) (calm:X.calm=true)
  (hg:∀ C s₀ H₀ ex pn,PG (kj X scope N C s₀ H₀ ex pn) tg g) (hc:∀ C s₀ H₀ ex pn,PTs (kj X scope N C s₀ H₀ ex pn) ifs tc) (he:∀ C s₀ H₀ ex pn,PE (kj X scope N C s₀ H₀ ex pn) elt te)
  {pins:List (Addr × Obj)} {σ:St} {H1:Hp} {az:Shared} {it:Addr} {fp:List Addr} {tn:Nat->Heap->Prop} {J:It} {Q:VK} {E:Value->Shared->Prop} {RR:Value->Addr->Result->Shared->Prop}
  (I:Inv X pins σ H1 az) (T:Turn X.prog X.w X.K tg J fp it tn) (aQ:tn 0 az.heap) (f2:∀ b∈fp,Kr X pins H1 b) (q:Mr X scope N g tc te σ J H1 Q)
  (de:∀ D ah H3 ag H' s',Inv X pins σ H3 ah->(∀ b∈fp,Kr X pins H3 b)->Inv (kj X scope N ah.heap.objs.size ah H3 fp (X.pn++pins)) [] ag H' s'->Q (.ref D) H'->RR (.ref D) ah.heap.objs.size (.ok .next) s') :
  wpAny (model X.prog X.w) X.A (newList []) (fun acc ah=>wpAny (model X.prog X.w) X.A (newFunctionEnv scope X.env.globals (Te X.env scope.names []) [] X.env.qual none .none (some X.env)) (fun a9 a7 =>
   codeAny (model X.prog X.w) X.A (.compStart (.ListComp elt [⟨tg,iter,ifs,0⟩] scope pos) 0 (.ref it) acc { a9 with scope:=relabel scope X.env }) (RR acc a9.locals) a7) E ah) E az :=
 Ku (Ex:=fun _ _ _=>False) sc calm hg hc he I T aQ f2 q de fun _ _ _ _ _ _ _ z=>z.elim
theorem a9n {wi:TI} (sc:Fp X scope N) (calm:X.calm=true) (hi:PI X tg iter wi)
  (hg:∀ C s₀ H₀ ex pn,PG (kj X scope N C s₀ H₀ ex pn) tg g) (hc:∀ C s₀ H₀ ex pn,PTs (kj X scope N C s₀ H₀ ex pn) ifs tc) (he:∀ C s₀ H₀ ex pn,PE (kj X scope N C s₀ H₀ ex pn) elt te)
  (hs:∀ x,foldedSetIterable iter X.env x=pure x:=by intro _; rfl):PE X (.ListComp elt [⟨tg,iter,ifs,0⟩] scope pos) (aaz X scope N wi g tc te):=by
 intro pins s σ H Q I h;rw [eval_ListComp];refine mJ (use:=none) rfl hs (Di sc.has) sc.kind sc.names ?_;refine iT (hi pins s σ H _ I h) (fun x ax a8=>iT a8 (fun b9 az bR=>?_) fun _ _ e=>e) fun _ _ e=>e;obtain ⟨it,fp,tn,J,H1,rfl,I2,T,aQ,f2,q⟩:=bR;refine M4 (RR:=fun acc C=>compPost (model X.prog X.w) X.A X.xe none (EP X pins σ Q) acc C) sc calm hg hc he I2 T aQ f2 q ?_;intro D ah H3 ag H' s' I3 f3 I' qn;obtain ⟨m,hn,_⟩:=I'.loc;exact ⟨m,hn,fun h' bC=>⟨.ref D,H',J6 I3 f3 I' bC,rfl,qn⟩⟩
theorem Ss {wi:TI} {y:Str} {py cS:Pos} {i:Nat} (sc:Fp X scope N) (calm:X.calm=true) (hi:PI X tg iter wi)
  (hg:∀ C s₀ H₀ ex pn,PG (kj X scope N C s₀ H₀ ex pn) tg g) (hc:∀ C s₀ H₀ ex pn,PTs (kj X scope N C s₀ H₀ ex pn) ifs tc) (he:∀ C s₀ H₀ ex pn,PE (kj X scope N C s₀ H₀ ex pn) elt te)
  (gH:PG X (.Name y py) (Mv i)) (dk:swapsWith (.ListComp elt [⟨tg,iter,ifs,0⟩] scope pos) (some (.Name y py)) cS.line X.env=pure true)
  (hs:∀ x,foldedSetIterable iter X.env x=pure x:=by intro _; rfl):PS X (.Assign [.Name y py] (.ListComp elt [⟨tg,iter,ifs,0⟩] scope pos) cS) (a90 (aaz X scope N wi g tc te) (Mv i)):=by
 intro pins s σ H D I h;rw [exec_Assign_Name_used _ _ _ _ dk];refine hJ (kT (hJ ?_));show wpAny _ X.A (do let _ <- comprehension (.ListComp elt [⟨tg,iter,ifs,0⟩] scope pos) scope X.env _ (newList []) false (eval iter X.env) (some (assign (.Name y py) X.env))) _ _ s;refine hJ (iT (mJ (use:=some (assign (.Name y py) X.env)) (Q:=fun _ s'=>SP X pins D .next s') rfl hs (Di sc.has) sc.kind sc.names ?_) (fun _ s' hq=>ia (ia hq)) fun _ _ e=>e);refine iT (hi pins s σ H _ I h) (fun x ax a8=>iT a8 (fun b9 az bR=>?_) fun _ _ e=>e) fun _ _ e=>e;obtain ⟨it,fp,tn,J,H1,rfl,I2,T,aQ,f2,q⟩:=bR;refine M4 (RR:=fun acc C=>compPost (model X.prog X.w) X.A X.xe (some (assign (.Name y py) X.env)) (fun _ s'=>SP X pins D .next s') acc C) sc calm hg hc he I2 T aQ f2 q ?_;intro D' ah H3 ag H' s' I3 f3 I' qn;obtain ⟨m,hn,_⟩:=I'.loc;obtain ⟨oC,es,ep,hoC,hdC,bU⟩:=id hn;have IX:Inv X pins σ H' s':=J6 I3 f3 I' (.refl ..);have fC:Kr X pins H' ah.heap.objs.size:=I3.a9c (ic _) I'.free
 have fK:=IX.pinned (fp:=[ah.heap.objs.size]) (fun b hb=>by rw [ik.mp hb]; exact fC) (fun b hb=>by
  rw [ik.mp hb];exact ⟨oC,hoC,fun v z=>by rw [hdC] at z; cases z⟩)
 show wpAny _ X.A (assign (.Name y py) X.env (.ref D')) _ _ _;refine thn (gH _ s' σ H' (.ref D') (.ref D') _ fK rfl qn) fun _ dF z0=>?_;obtain ⟨σ'',H'',I'',q''⟩:=z0;have pC:=I''.pin (ah.heap.objs.size,oC) (js _ (js _ (Cw (by simp) hoC)));refine ⟨m,⟨oC,es,ep,pC.1,hdC,bU⟩,fun h' bC=>⟨σ'',H'',?_,q''⟩⟩;exact I''.Gy.turned (h':=h') (t':=dF.toks) (it:=ah.heap.objs.size) (fun b o ne e=>bC.extBut b o ne e) pC.2.1 fC.2.1 fC.2.2.2.1 fC.2.2.2.2.1 fC.2.2.2.2.2
end
end L2
end
section
namespace C
open PySem PySem.Spec PyProof.Rows L2
mutual
inductive Rep (K:PySem.W.Frag) (S:Hp) (as:List Addr):V->T->Prop where
 | non:Rep K S as .non .non
 | bl (b:Bool):Rep K S as (.bl b) (.bl b)
 | int (i:Int):Rep K S as (.int i) (.int i)
 | str (x:Str):Rep K S as (.str x) (.str x)
 | tup {a:Addr} {vs:List V} {ts:List T}:SqT K S a vs->qb K S as vs ts->Rep K S as (.ref a) (.tup ts)
 | lst {a:Addr} {vs:List V} {ts:List T}:SqL K S a vs->qb K S as vs ts->Rep K S as (.ref a) (.lst ts)
 | dic {a:Addr} {ai:List (L2.Key × V)} {ts:List (L2.Key × T)}:Rd S a (.dK ai)->Iw K S as ai ts->Rep K S as (.ref a) (.dic ts)
 | obj {n:Nat} {a:Addr}:as[n]? = some a->Rep K S as (.ref a) (.obj n)
 | adr (a:Addr):Rep K S as (.ref a) (.adr a)
inductive qb (K:PySem.W.Frag) (S:Hp) (as:List Addr):List V->List T->Prop where
 | nil:qb K S as [] []
 | cons {v:V} {t:T} {vs:List V} {ts:List T}:Rep K S as v t->qb K S as vs ts->qb K S as (v::vs) (t::ts)
inductive Iw (K:PySem.W.Frag) (S:Hp) (as:List Addr):List (L2.Key × V)->List (L2.Key × T)->Prop where
 | nil:Iw K S as [] []
 | cons {k:L2.Key} {v:V} {t:T} {vs:List (L2.Key × V)} {ts:List (L2.Key × T)}:Rep K S as v t->Iw K S as vs ts->Iw K S as ((k,v)::vs) ((k,t)::ts)
end
theorem Ag {S S':Hp} {a:Addr} {u:HO} (e:Same S S') (h:Rd S a u):Rd S' a u:=by
 rcases h with h | ⟨o,h⟩
 ·exact .inl (e _ _ h)
 ·exact .inr ⟨o,e _ _ h⟩
theorem m6 {K:PySem.W.Frag} {S S':Hp} {a:Addr} {xs:List V} (e:Same S S') (h:SqT K S a xs):SqT K S' a xs:=by
 rcases h with h | h
 ·exact .inl (Ag e h)
 ·exact .inr h
theorem jw {K:PySem.W.Frag} {S S':Hp} {a:Addr} {xs:List V} (e:Same S S') (h:SqL K S a xs):SqL K S' a xs:=by
 rcases h with h | h
 ·exact .inl (Ag e h)
 ·exact .inr h
section
variable {K:PySem.W.Frag} {S S':Hp} {as av:List Addr}
theorem a1g {α:Type} {l r:List α} {n:Nat} {a:α} (h:l[n]? = some a):(l++r)[n]? = some a:=by
 have:=(iE.mp h).1;rw [jJ this]; exact h
theorem Tt {n:Nat} {a:Addr} (x:∃ l,av=as++l) (h:as[n]? = some a):av[n]? = some a:=by obtain ⟨l,rfl⟩:=x; exact a1g h
theorem Rep.mono (e:Same S S') (x:∃ l,av=as++l) {v:V} {t:T} (h:Rep K S as v t):Rep K S' av v t :=
 Rep.rec (motive_1:=fun v t _=>Rep K S' av v t) (motive_2:=fun v t _=>qb K S' av v t) (motive_3:=fun v t _=>Iw K S' av v t) .non .bl .int .str (fun h _ i=>.tup (m6 e h) i) (fun h _ i=>.lst (jw e h) i) (fun h _ i=>.dic (Ag e h) i) (fun h=>.obj (Tt x h)) .adr .nil (fun _ _ a b=>.cons a b) .nil (fun _ _ a b=>.cons a b) h
theorem qb.mono (e:Same S S') (x:∃ l,av=as++l) {v:List V} {t:List T} (h:qb K S as v t):qb K S' av v t :=
 qb.rec (motive_1:=fun v t _=>Rep K S' av v t) (motive_2:=fun v t _=>qb K S' av v t) (motive_3:=fun v t _=>Iw K S' av v t) .non .bl .int .str (fun h _ i=>.tup (m6 e h) i) (fun h _ i=>.lst (jw e h) i) (fun h _ i=>.dic (Ag e h) i) (fun h=>.obj (Tt x h)) .adr .nil (fun _ _ a b=>.cons a b) .nil (fun _ _ a b=>.cons a b) h
theorem Iw.mono (e:Same S S') (x:∃ l,av=as++l) {v:List (L2.Key × V)} {t:List (L2.Key × T)} (h:Iw K S as v t):Iw K S' av v t :=
 Iw.rec (motive_1:=fun v t _=>Rep K S' av v t) (motive_2:=fun v t _=>qb K S' av v t) (motive_3:=fun v t _=>Iw K S' av v t) .non .bl .int .str (fun h _ i=>.tup (m6 e h) i) (fun h _ i=>.lst (jw e h) i) (fun h _ i=>.dic (Ag e h) i) (fun h=>.obj (Tt x h)) .adr .nil (fun _ _ a b=>.cons a b) .nil (fun _ _ a b=>.cons a b) h
inductive Vn (K:PySem.W.Frag) (S:Hp) (as:List Addr):List (Str × V)->List (Str × T)->Prop where
 | nil:Vn K S as [] []
 | cons {k:Str} {v:V} {t:T} {vs:List (Str × V)} {ts:List (Str × T)}:Rep K S as v t->Vn K S as vs ts->Vn K S as ((k,v)::vs) ((k,t)::ts)
theorem Vn.mono (e:Same S S') (x:∃ l,av=as++l) {v:List (Str × V)} {t:List (Str × T)} (h:Vn K S as v t):Vn K S' av v t:=by
 induction h with
 | nil=>exact .nil
 | cons h _ ih=>exact .cons (h.mono e x) ih
inductive Yn (K:PySem.W.Frag) (S:Hp) (as:List Addr):List (List L2.Key × V)->List (List L2.Key × T)->Prop where
 | nil:Yn K S as [] []
 | cons {k:List L2.Key} {v:V} {t:T} {vs:List (List L2.Key × V)} {ts:List (List L2.Key × T)}:Rep K S as v t->Yn K S as vs ts->Yn K S as ((k,v)::vs) ((k,t)::ts)
theorem Yn.mono (e:Same S S') (x:∃ l,av=as++l) {v:List (List L2.Key × V)} {t:List (List L2.Key × T)} (h:Yn K S as v t):Yn K S' av v t:=by
 induction h with
 | nil=>exact .nil
 | cons h _ ih=>exact .cons (h.mono e x) ih
theorem Yn.length {vs:List (List L2.Key × V)} {ts:List (List L2.Key × T)} (h:Yn K S as vs ts):vs.length=ts.length:=by
 induction h with
 | nil=>rfl
 | cons _ _ ih=>exact iX (· + 1) ih
theorem qb.length {vs:List V} {ts:List T} (h:qb K S as vs ts):vs.length=ts.length :=
 qb.rec (motive_1:=fun _ _ _=>True) (motive_2:=fun v t _=>v.length=t.length) (motive_3:=fun _ _ _=>True) trivial (fun _=>trivial) (fun _=>trivial) (fun _=>trivial) (fun _ _ _=>trivial) (fun _ _ _=>trivial) (fun _ _ _=>trivial) (fun _=>trivial) (fun _=>trivial) rfl (fun _ _ _ i=>iX (· + 1) i) trivial (fun _ _ _ _=>trivial) h
theorem Iw.length {vs:List (L2.Key × V)} {ts:List (L2.Key × T)} (h:Iw K S as vs ts):vs.length=ts.length :=
 Iw.rec (motive_1:=fun _ _ _=>True) (motive_2:=fun _ _ _=>True) (motive_3:=fun v t _=>v.length=t.length) trivial (fun _=>trivial) (fun _=>trivial) (fun _=>trivial) (fun _ _ _=>trivial) (fun _ _ _=>trivial) (fun _ _ _=>trivial) (fun _=>trivial) (fun _=>trivial) trivial (fun _ _ _ _=>trivial) rfl (fun _ _ _ i=>iX (· + 1) i) h
theorem qb.get:∀ {vs:List V} {ts:List T} {i:Nat} {t:T},qb K S as vs ts->ts[i]? = some t->∃ v,vs[i]? = some v/\Rep K S as v t
 | _,_,_,_,.nil,e=>by simp at e
 | _,_,0,_,.cons r _,e=>by simp at e; subst e; exact ⟨_,rfl,r⟩
 | _,_,i+1,t,.cons _ r,e=>by
  obtain ⟨v,h1,h2⟩:=qb.get (i:=i) (t:=t) r (by simpa using e);exact ⟨v,by simpa using h1,h2⟩
theorem qb.append {vs:List V} {ts:List T} {ws:List V} {us:List T} (h:qb K S as vs ts) (q:qb K S as ws us):qb K S as (vs++ws) (ts++us) :=
 qb.rec (motive_1:=fun _ _ _=>True) (motive_2:=fun v t _=>qb K S as (v++ws) (t++us)) (motive_3:=fun _ _ _=>True) trivial (fun _=>trivial) (fun _=>trivial) (fun _=>trivial) (fun _ _ _=>trivial) (fun _ _ _=>trivial) (fun _ _ _=>trivial) (fun _=>trivial) (fun _=>trivial) q (fun h _ _ i=>.cons h i) trivial (fun _ _ _ _=>trivial) h
theorem qb.reverse:∀ {vs:List V} {ts:List T},qb K S as vs ts->qb K S as vs.reverse ts.reverse
 | _,_,.nil=>.nil
 | _,_,.cons h r=>by rw [kM,kM]; exact qb.append (qb.reverse r) (.cons h .nil)
theorem qb.drop:∀ (n:Nat) {vs:List V} {ts:List T},qb K S as vs ts->qb K S as (vs.drop n) (ts.drop n)
 | 0,_,_,r=>r
 | _+1,_,_,.nil=>.nil
 | n+1,_,_,.cons _ r=>qb.drop n r
theorem Iw.get (k:L2.Key):∀ {vs:List (L2.Key × V)} {ts:List (L2.Key × T)},Iw K S as vs ts->(∃ v t,Vw vs k=some v/\a3o k ts=some t/\Rep K S as v t)\/(Vw vs k=none/\a3o k ts=none)
 | _,_,.nil=>.inr ⟨rfl,rfl⟩
 | _,_,.cons (k:=q) (v:=v) (t:=t) (vs:=vs) (ts:=ts) h r=>by
  by_cases e:q=k
  ·exact .inl ⟨v,t,Jf (p:=(q,v)) e,by rw [a3o,hU e],h⟩
  ·rw [Jd (p:=(q,v)) e,a3o,hV e];exact Iw.get k r
end
structure Bas where
 S:Hp
 as:List Addr
 H:Hp
structure ad3 (B:Bas) (S:Hp) (as:List Addr) (H:Hp):Prop where
 same:Same B.S S
 more:∃ l,as=B.as++l
 keep:∀ p o,B.H p=some o->B.S p=none->p∉B.as->H p=some o/\S p=none/\p∉as
structure Ext (S H S' H':Hp):Prop where
 s:Same S S'
 h:Same H H'
 sub:Same S' H'
 new:∀ p,S' p≠none->S p≠none\/H p=none
theorem Ext.refl {S H:Hp} (h:Same S H):Ext S H S H:=⟨Same.refl _,Same.refl _,h,fun _ q=>.inl q⟩
theorem Same.upd {H:Hp} {p:Addr} (h:H p=none) (o:HO):Same H (upd H p o):=fun b u q=>by rw [gw (o8 q h)]; exact q
theorem Ext.laid {S H:Hp} (h:Same S H) {p:Addr} (n:H p=none) (o:HO):Ext S H (upd S p o) (upd H p o) where
 s:=Same.upd (h.free n) o
 h:=Same.upd n o
 sub:=fun b u q=>by
  by_cases e:b=p
  ·subst e; rw [dj] at q ⊢; exact q
  ·rw [gw e] at q ⊢; exact h _ _ q
 new:=fun b q=>by
  by_cases e:b=p
  ·subst e; exact .inr n
  ·rw [gw e] at q; exact .inl q
def Own (K:PySem.W.Frag) (S:Hp) (as:List Addr) (H:Hp) (p:Addr):T->Prop
 | .lst ts=>∃ vs,H p=some (.lst vs)/\qb K S as vs ts
 | .dic ts=>∃ ai,H p=some (.dK ai)/\Iw K S as ai ts
 | _=>False
structure Xb (K:PySem.W.Frag) (B:Bas) (S:Hp) (as:List Addr) (H:Hp) (p:Addr) (t:T):Prop where
 own:Own K S as H p t
 out:S p=none
 nas:p∉as
 new:B.H p=none
def a7w (K:PySem.W.Frag) (S:Hp) (as:List Addr) (H:Hp) (a:Addr):SO->Prop
 | .dic ts=>∃ ai,H a=some (.dK ai)/\Iw K S as ai ts
 | .lst ts=>∃ vs,H a=some (.lst vs)/\qb K S as vs ts
 | .dit ts=>∃ ai,H a=some (.dT ai)/\Yn K S as ai ts
 | .ins C fs=>∃ dx vs,H a=some (.ins C dx vs)/\Vn K S as vs fs
 | .fdc ts=>∃ ai,(∃ o,H a=some (.frz o (.dK ai)))/\Iw K S as ai ts
 | .exc C f t=>∃ dx v,H a=some (.ext fun h=>∃ vs,h.get? a=some { cls:=.ref C,dict:=some dx,data:=.fields vs })/\S dx=some (.ext fun h=>∃ hs tk u,RelV v u/\h.get? dx=some (PySem.W.dictOf [⟨hs,.str f tk,u⟩] 1))/\Rep K S as v t
structure Hq (K:PySem.W.Frag) (S:Hp) (as:List Addr) (H:Hp) (sto:List SO):Prop where
 len:as.length=sto.length
 nd:as.Nodup
 at':∀ (n:Nat) so,sto[n]? = some so->∃ a,as[n]? = some a/\S a=none/\a7w K S as H a so
structure Rel (K:PySem.W.Frag) (B:Bas) (st:Sta) (σ:L2.St) (H:Hp) (ps:List (V × T)) (S:Hp) (as:List Addr):Prop where
 sub:Same S H
 grow:ad3 B S as H
 slots:∀ (i:Nat) t f,st.env[i]? = some (some (t,f))->∃ v,σ[i]? = some (some v)/\(f=false->Rep K S as v t)/\(f=true->∃ p,v=.ref p/\Xb K B S as H p t)
 apart:∀ (i j:Nat) t u p,st.env[i]? = some (some (t,true))->st.env[j]? = some (some (u,true))->σ[i]? = some (some (.ref p))->σ[j]? = some (some (.ref p))->i=j
 sto:Hq K S as H st.sto
 pend:∀ p∈ps,Rep K S as p.1 p.2
 len:σ.length=st.env.length
section
variable {K:PySem.W.Frag} {B:Bas} {st:Sta} {σ:L2.St} {H H' S S':Hp} {ps:List (V × T)} {as:List Addr}
theorem nol {as:List Addr}:∃ l:List Addr,as=as++l:=⟨[],(iU _).symm⟩
theorem Own.mono {p:Addr} {t:T} (hs:Same S S') (hh:H p=H' p) (o:Own K S as H p t):Own K S' as H' p t:=by
 cases t with
 | lst ts=>obtain ⟨vs,h,r⟩:=o; exact ⟨vs,hh ▸ h,r.mono hs nol⟩
 | dic ts=>obtain ⟨vs,h,r⟩:=o; exact ⟨vs,hh ▸ h,r.mono hs nol⟩
 | _=>exact o.elim
theorem Own.there {p:Addr} {t:T} (o:Own K S as H p t):∃ ob,H p=some ob:=by
 cases t with
 | lst ts=>obtain ⟨vs,h,r⟩:=o; exact ⟨_,h⟩
 | dic ts=>obtain ⟨vs,h,r⟩:=o; exact ⟨_,h⟩
 | _=>exact o.elim
theorem a7w.mono {a:Addr} {so:SO} (hs:Same S S') (hh:H a=H' a) (o:a7w K S as H a so):a7w K S' as H' a so:=by
 cases so with
 | dic ts=>obtain ⟨vs,h,r⟩:=o; exact ⟨vs,hh ▸ h,r.mono hs nol⟩
 | lst ts=>obtain ⟨vs,h,r⟩:=o; exact ⟨vs,hh ▸ h,r.mono hs nol⟩
 | dit ts=>obtain ⟨vs,h,r⟩:=o; exact ⟨vs,hh ▸ h,r.mono hs nol⟩
 | exc C f t=>obtain ⟨dx,v,h,g,r⟩:=o; exact ⟨dx,v,hh ▸ h,hs _ _ g,r.mono hs nol⟩
 | ins C fs=>obtain ⟨dx,vs,h,r⟩:=o; exact ⟨dx,vs,hh ▸ h,r.mono hs nol⟩
 | fdc ts=>obtain ⟨vs,h,r⟩:=o; exact ⟨vs,hh ▸ h,r.mono hs nol⟩
theorem a7w.there {a:Addr} {so:SO} (o:a7w K S as H a so):∃ ob,H a=some ob:=by
 cases so with
 | dic ts=>obtain ⟨vs,h,r⟩:=o; exact ⟨_,h⟩
 | lst ts=>obtain ⟨vs,h,r⟩:=o; exact ⟨_,h⟩
 | dit ts=>obtain ⟨vs,h,r⟩:=o; exact ⟨_,h⟩
 | exc C f t=>obtain ⟨dx,v,h,g,r⟩:=o; exact ⟨_,h⟩
 | ins C fs=>obtain ⟨dx,vs,h,r⟩:=o; exact ⟨_,h⟩
 | fdc ts=>obtain ⟨vs,⟨o,h⟩,r⟩:=o; exact ⟨_,h⟩
theorem Ext.outs (x:Ext S H S' H') {p:Addr} {o:HO} (h:H p=some o) (n:S p=none):S' p=none:=by
 cases q:S' p with
 | none=>rfl
 | some u =>
  rcases x.new p (by rw [q]; exact Option.some_ne_none _) with z | z
  ·exact absurd n z
  ·rw [h] at z; cases z
theorem Hq.ext {sto:List SO} (r:Hq K S as H sto) (x:Ext S H S' H'):Hq K S' as H' sto where
 len:=r.len
 nd:=r.nd
 at':=fun n so e=>by
  obtain ⟨a,h1,h2,h3⟩:=r.at' n so e;obtain ⟨ob,ho⟩:=h3.there;exact ⟨a,h1,x.outs ho h2,h3.mono x.s (by rw [ho,x.h _ _ ho])⟩
theorem Rel.ext (r:Rel K B st σ H ps S as) (x:Ext S H S' H'):Rel K B st σ H' ps S' as where
 sub:=x.sub
 grow:=⟨r.grow.same.trans x.s,r.grow.more,fun p o h1 h2 h3=>by
  obtain ⟨a,b,c⟩:=r.grow.keep p o h1 h2 h3;exact ⟨x.h _ _ a,x.outs a b,c⟩⟩
 slots:=fun i t f e=>by
  obtain ⟨v,h1,h2,h3⟩:=r.slots i t f e;refine ⟨v,h1,fun q=>(h2 q).mono x.s nol,fun q=>?_⟩;obtain ⟨p,e,o⟩:=h3 q;obtain ⟨ob,ho⟩:=o.own.there;exact ⟨p,e,o.own.mono x.s (by rw [ho,x.h _ _ ho]),x.outs ho o.out,o.nas,o.new⟩
 apart:=r.apart
 sto:=r.sto.ext x
 pend:=fun p hp=>(r.pend p hp).mono x.s nol
 len:=r.len
theorem Rel.push (r:Rel K B st σ H ps S as) {v:V} {t:T} (h:Rep K S as v t):Rel K B st σ H ((v,t)::ps) S as :=
 ⟨r.sub,r.grow,r.slots,r.apart,r.sto,fun p hp=>by
  rcases ir.mp hp with rfl | z
  ·exact h
  ·exact r.pend p z,r.len⟩
theorem Rel.drop {p:V × T} (r:Rel K B st σ H (p::ps) S as):Rel K B st σ H ps S as :=
 ⟨r.sub,r.grow,r.slots,r.apart,r.sto,fun q hq=>r.pend q (ij _ hq),r.len⟩
theorem Rel.top {v:V} {t:T} (r:Rel K B st σ H ((v,t)::ps) S as):Rep K S as v t:=r.pend (v,t) ie
theorem Rel.top2 {v:V} {t:T} {q:V × T} (r:Rel K B st σ H (q::(v,t)::ps) S as):Rep K S as v t:=r.pend (v,t) (ij _ ie)
end
inductive tOf (K:PySem.W.Frag) (B:Bas) (m:M T) (σ:L2.St) (H:Hp) (Q:VK):Prop
 | mk (st:Sta) (ps:List (V × T)) (S:Hp) (as:List Addr) (R:Rel K B st σ H ps S as) (t:T) (aa:Sta) (e:m st=some (t,aa)) (q:∀ v H' S' av,Rel K B aa σ H' ((v,t)::ps) S' av->Q v H')
inductive cOf (K:PySem.W.Frag) (B:Bas) (m:M Bool) (σ:L2.St) (H:Hp) (Q:Bool->Hp->Prop):Prop
 | mk (st:Sta) (ps:List (V × T)) (S:Hp) (as:List Addr) (R:Rel K B st σ H ps S as) (b:Bool) (aa:Sta) (e:m st=some (b,aa)) (q:∀ H' S' av,Rel K B aa σ H' ps S' av->Q b H')
inductive aOf (K:PySem.W.Frag) (B:Bas) (m:M (List T)) (σ:L2.St) (H:Hp) (Q:List V->Hp->Prop):Prop
 | mk (st:Sta) (ps:List (V × T)) (S:Hp) (as:List Addr) (R:Rel K B st σ H ps S as) (ts:List T) (aa:Sta) (e:m st=some (ts,aa)) (q:∀ vs H' S' av,Rel K B aa σ H' ps S' av->qb K S' av vs ts->Q vs H')
theorem _root_.L2.PE.imp {X:Cx} {e:Expr} {t t':TE} (h:PE X e t) (i:∀ σ H Q,t' σ H Q->t σ H Q):PE X e t':=fun pins s σ H Q I q=>h pins s σ H Q I (i σ H Q q)
theorem _root_.L2.PT.imp {X:Cx} {e:Expr} {t t':TT} (h:PT X e t) (i:∀ σ H Q,t' σ H Q->t σ H Q):PT X e t':=fun pins s σ H Q I q=>h pins s σ H Q I (i σ H Q q)
theorem _root_.L2.PA.imp {X:Cx} {e:List Expr} {t t':TA} (h:PA X e t) (i:∀ σ H Q,t' σ H Q->t σ H Q):PA X e t':=fun pos pins s σ H Q I q=>h pos pins s σ H Q I (i σ H Q q)
theorem _root_.L2.PS.imp {X:Cx} {e:Stmt} {t t':TS} (h:PS X e t) (i:∀ D σ H,t' D σ H->t D σ H):PS X e t':=fun pins s σ H D I q=>h pins s σ H D I (i D σ H q)
theorem _root_.L2.PSs.imp {X:Cx} {e:List Stmt} {t t':TS} (h:PSs X e t) (i:∀ D σ H,t' D σ H->t D σ H):PSs X e t':=fun pins s σ H D I q=>h pins s σ H D I (i D σ H q)
noncomputable def r2 (K:PySem.W.Frag) (f:T->T->Option T):R2:=fun x y H Q=>∃ S as t u w,Same S H/\Rep K S as x t/\Rep K S as y u/\f t u=some w/\∀ v H' S',Ext S H S' H'->Rep K S' as v w->Q v H'
def r1 (K:PySem.W.Frag) (f:T->Option T):V->Hp->VK->Prop:=fun x H Q=>∃ S as t w,Same S H/\Rep K S as x t/\f t=some w/\∀ v H' S',Ext S H S' H'->Rep K S' as v w->Q v H'
def rL (K:PySem.W.Frag) (f:List T->Option T):List V->Hp->VK->Prop:=fun xs H Q=>∃ S as ts w,Same S H/\qb K S as xs ts/\f ts=some w/\∀ v H' S',Ext S H S' H'->Rep K S' as v w->Q v H'
abbrev OpT (X:Cx) (f:Value->Value->Sem Value) (g:T->T->Option T):Prop:=OpR X f (r2 X.K g)
abbrev UnT (X:Cx) (f:Value->Sem Value) (g:T->Option T):Prop:=UnR X f (r1 X.K g)
abbrev Rg (X:Cx) (f:Value) (g:List T->Option T):Prop:=Jj X f (rL X.K g)
section
variable {X:Cx} {B:Bas} {a b c:Expr} {m m1 m2:M T} {pos:Pos}
theorem Gq {v:V} {t:T} {e:Expr} (h:PE X e (tC v)) (r:∀ S as,Rep X.K S as v t):PE X e (tOf X.K B (ak t)):=h.imp fun σ H Q z9=>by
 obtain ⟨st,ps,S,as,R,t',aa,e,q⟩:=z9;cases e;exact q v H S as (R.push (r S as))
theorem bf {i:Int} {j:Nat}:PE X (.Constant (.int i) j pos) (tOf X.K B (ak (.int i))):=Gq a8c fun _ _=>.int i
theorem Fe {i:Bool} {j:Nat}:PE X (.Constant (.bool i) j pos) (tOf X.K B (ak (.bl i))):=Gq afc fun _ _=>.bl i
theorem fj {i:Str} {j:Nat}:PE X (.Constant (.str i) j pos) (tOf X.K B (ak (.str i))):=Gq acs fun _ _=>.str i
theorem m5 {op:Operator} {f:T->T->Option T} (ho:OpT X (binaryOp op) f) (ha:PE X a (tOf X.K B m1)) (hb:PE X b (tOf X.K B m2)):PE X (.BinOp a op b pos) (tOf X.K B (mOp f m1 m2)) :=
 (a8i ho ha hb).imp fun σ H Q z9=>by
  obtain ⟨st,ps,S,as,R,t,aa,e,q⟩:=z9;obtain ⟨t1,s1,t2,e1,e2,e3⟩:=Ko e;refine ⟨st,ps,S,as,R,t1,s1,e1,fun v H1 S1 af R1=>⟨s1,_,S1,af,R1,t2,aa,e2,fun u H2 S2 aB R2=>?_⟩⟩;exact ⟨S2,aB,t1,t2,t,R2.sub,R2.top2,R2.top,e3,fun w H3 S3 x r=>q w H3 S3 aB ((R2.drop.drop.ext x).push r)⟩
end
section
variable {K:PySem.W.Frag} {B:Bas} {st:Sta} {σ:L2.St} {H H' S S':Hp} {ps:List (V × T)} {as:List Addr}
theorem Rel.freeze (r:Rel K B st σ H ps S as) {i:Nat} {t:T} (e:st.env[i]? = some (some (t,true))) :
  ∃ v S',σ[i]? = some (some v)/\Rel K B { st with env:=st.env.set i (some (t,false)) } σ H ((v,t)::ps) S' as:=by
 obtain ⟨v,h1,_,h3⟩:=r.slots i t true e;obtain ⟨p,rfl,o⟩:=h3 rfl;obtain ⟨ob,ho⟩:=o.own.there;have hi:i<st.env.length:=(iE.mp e).1;have sS:Same S (upd S p ob):=Same.upd o.out ob
 have rep:Rep K (upd S p ob) as (.ref p) t:=by
  have w:=o.own;cases t with
  | lst ts=>obtain ⟨vs,h,q⟩:=w; rw [ho] at h; cases h; exact .lst (SqL.of dj) (q.mono sS nol)
  | dic ts=>obtain ⟨vs,h,q⟩:=w; rw [ho] at h; cases h; exact .dic (.inl dj) (q.mono sS nol)
  | _=>exact w.elim
 have outs:∀ q,S q=none->q≠p->upd S p ob q=none:=fun q h n=>by rw [gw n]; exact h
 refine ⟨.ref p,upd S p ob,h1,?_⟩;refine Rel.push (v:=.ref p) (t:=t) ⟨?_,?_,?_,?_,?_,?_,?_⟩ rep
 ·intro b u q
  by_cases z:b=p
  ·subst z; rw [dj] at q; cases q; exact ho
  ·rw [gw z] at q; exact r.sub _ _ q
 ·refine ⟨r.grow.same.trans sS,r.grow.more,fun q w a b c=>?_⟩;obtain ⟨x,y,z⟩:=r.grow.keep q w a b c;refine ⟨x,outs q y fun n=>?_,z⟩;subst n; rw [o.new] at a; cases a
 ·intro j u f ej
  by_cases aL:i=j
  ·subst aL;rw [iM hi] at ej;cases ej;exact ⟨.ref p,h1,fun _=>rep,fun z=>by cases z⟩
  ·rw [iJ aL] at ej;obtain ⟨v',a1,a2,a3⟩:=r.slots j u f ej;refine ⟨v',a1,fun z=>(a2 z).mono sS nol,fun z=>?_⟩;subst z;obtain ⟨p',rfl,o'⟩:=a3 rfl;refine ⟨p',rfl,o'.own.mono sS rfl,outs p' o'.out fun n=>?_,o'.nas,o'.new⟩;subst n;exact aL (r.apart i j t u p' e ej h1 a1)
 ·intro j k u w q ej ek
  have hj:st.env[j]? = some (some (u,true)):=by
   by_cases aL:i=j
   ·subst aL; rw [iM hi] at ej; cases ej
   ·rwa [iJ aL] at ej
  have hk:st.env[k]? = some (some (w,true)):=by
   by_cases aL:i=k
   ·subst aL; rw [iM hi] at ek; cases ek
   ·rwa [iJ aL] at ek
  exact r.apart j k u w q hj hk
 ·refine ⟨r.sto.len,r.sto.nd,fun n so en=>?_⟩;obtain ⟨a,a1,a2,a3⟩:=r.sto.at' n so en;refine ⟨a,a1,outs a a2 fun z=>?_,a3.mono sS rfl⟩;subst z;exact o.nas (jE a1)
 ·exact fun q hq=>(r.pend q hq).mono sS nol
 ·show σ.length=(st.env.set i _).length;rw [jG]; exact r.len
end
section
variable {X:Cx} {B:Bas} {a b c:Expr} {m m1 m2:M T} {pos:Pos}
theorem aq (i:Nat) {e:Expr} (h:PE X e (Y8 i)):PE X e (tOf X.K B (au i)):=h.imp fun σ H Q z9=>by
 obtain ⟨st,ps,S,as,R,t,aa,e,q⟩:=z9;rcases a4h e with ⟨e1,rfl⟩ | ⟨e1,rfl⟩
 ·obtain ⟨v,h1,h2,_⟩:=R.slots i t false e1;exact ⟨v,h1,q v H S as (R.push (h2 rfl))⟩
 ·obtain ⟨v,S',h1,R'⟩:=R.freeze e1;exact ⟨v,h1,q v H S' as R'⟩
theorem bw:PA X [] (aOf X.K B cj):=su.imp fun σ H Q z9=>by
 obtain ⟨st,ps,S,as,R,ts,aa,e,q⟩:=z9;cases e;exact q [] H S as R .nil
theorem ao {es:List Expr} {ms:M (List T)} (ha:PE X a (tOf X.K B m)) (hr:PA X es (aOf X.K B ms)) (hs:starEach (a::es) X.env=(false,eval a X.env)::starEach es X.env:=by rfl):PA X (a::es) (aOf X.K B (aj m ms)) :=
 (lu ha hr hs).imp fun σ H Q z9=>by
  obtain ⟨st,ps,S,as,R,ts,aa,e,q⟩:=z9;obtain ⟨t,s1,us,e1,e2,rfl⟩:=Gz e;refine ⟨st,ps,S,as,R,t,s1,e1,fun v H1 S1 af R1=>⟨s1,_,S1,af,R1,us,aa,e2,fun vs H2 S2 aB R2 rs=>?_⟩⟩;exact q (v::vs) H2 S2 aB R2.drop (.cons R2.top rs)
theorem n8 {es:List Expr} {ms:M (List T)} {k:Nat} (h:PA X es (aOf X.K B ms)) (hm:∀ st ts aa,ms st=some (ts,aa)->ts.length<=1000):PE X (.Tuple es k pos) (tOf X.K B (gq (fun l=>some (.tup l)) ms)) :=
 (a7d h).imp fun σ H Q z9=>by
  obtain ⟨st,ps,S,as,R,t,aa,e,q⟩:=z9;obtain ⟨ts,e1,e2⟩:=G9 e;cases e2;refine ⟨st,ps,S,as,R,ts,aa,e1,fun vs H1 S1 af R1 rs=>⟨?_,fun p hp=>?_⟩⟩
  ·rw [rs.length]; exact iK (Em (hm _ _ _ e1))
  ·have x:=Ext.laid R1.sub hp (.tup vs);exact q _ _ _ _ ((R1.ext x).push (.tup (SqT.of dj) (rs.mono x.s nol)))
theorem Ab {es:List Expr} {ms:M (List T)} (h:PA X es (aOf X.K B ms)) (hm:∀ st ts aa,ms st=some (ts,aa)->ts.length<=1000):PE X (.List es pos) (tOf X.K B (gq (fun l=>some (.lst l)) ms)) :=
 (a2p h).imp fun σ H Q z9=>by
  obtain ⟨st,ps,S,as,R,t,aa,e,q⟩:=z9;obtain ⟨ts,e1,e2⟩:=G9 e;cases e2;refine ⟨st,ps,S,as,R,ts,aa,e1,fun vs H1 S1 af R1 rs=>⟨?_,fun p hp=>?_⟩⟩
  ·rw [rs.length]; exact iK (Em (hm _ _ _ e1))
  ·have x:=Ext.laid R1.sub hp (.lst vs);exact q _ _ _ _ ((R1.ext x).push (.lst (SqL.of dj) (rs.mono x.s nol)))
theorem gj:∀ st ts aa,cj st=some (ts,aa)->ts.length<=0:=fun st ts aa e=>by cases e; exact ic _
theorem c7 {r:M (List T)} {n:Nat} (h:∀ st ts aa,r st=some (ts,aa)->ts.length<=n):∀ st ts aa,aj m r st=some (ts,aa)->ts.length<=n+1:=fun st ts aa e=>by
 obtain ⟨t,s1,us,e1,e2,rfl⟩:=Gz e;exact lO (h _ _ _ e2)
theorem gk {ms:M (List T)} {f:List T->Option T} {e:Expr} (h:PE X e (tCB (rL X.K f) (aOf X.K B ms))):PE X e (tOf X.K B (gq f ms)) :=
 h.imp fun σ H Q z9=>by
  obtain ⟨st,ps,S,as,R,t,aa,e,q⟩:=z9;obtain ⟨ts,e1,e2⟩:=G9 e;refine ⟨st,ps,S,as,R,ts,aa,e1,fun vs H1 S1 af R1 rs=>⟨S1,af,ts,t,R1.sub,rs,e2,fun v H2 S2 x r=>?_⟩⟩;exact q v H2 S2 af ((R1.ext x).push r)
theorem Vh {f:T->T->Option T} {e:Expr} (h:PE X e (tOp (r2 X.K f) (tOf X.K B m1) (tOf X.K B m2))):PE X e (tOf X.K B (mOp f m1 m2)) :=
 h.imp fun σ H Q z9=>by
  obtain ⟨st,ps,S,as,R,t,aa,e,q⟩:=z9;obtain ⟨t1,s1,t2,e1,e2,e3⟩:=Ko e;refine ⟨st,ps,S,as,R,t1,s1,e1,fun v H1 S1 af R1=>⟨s1,_,S1,af,R1,t2,aa,e2,fun u H2 S2 aB R2=>?_⟩⟩;exact ⟨S2,aB,t1,t2,t,R2.sub,R2.top2,R2.top,e3,fun w H3 S3 x r=>q w H3 S3 aB ((R2.drop.drop.ext x).push r)⟩
theorem a66 {f:T->Option T} {e:Expr} (h:PE X e (tUn (r1 X.K f) (tOf X.K B m))):PE X e (tOf X.K B (mUn f m)) :=
 h.imp fun σ H Q z9=>by
  obtain ⟨st,ps,S,as,R,t,aa,e,q⟩:=z9;obtain ⟨t1,e1,e3⟩:=a0o e;refine ⟨st,ps,S,as,R,t1,aa,e1,fun v H1 S1 af R1=>⟨S1,af,t1,t,R1.sub,R1.top,e3,fun w H3 S3 x r=>q w H3 S3 af ((R1.drop.ext x).push r)⟩⟩
theorem ud {op:CmpOp} {f:T->T->Option T} (ho:OpT X (compareOp op) f) (ha:PE X a (tOf X.K B m1)) (hb:PE X b (tOf X.K B m2)) (hm:behindInMarks op b=false):PE X (.Compare a [op] [b] pos) (tOf X.K B (mOp f m1 m2)):=Vh (a2e ho ha hb hm)
theorem O8 {op:UnaryOp} {f:T->Option T} (ho:UnT X (unaryOp op) f) (ha:PE X a (tOf X.K B m)):PE X (.UnaryOp op a pos) (tOf X.K B (mUn f m)):=a66 (aah ho ha)
theorem Ib {e:Expr} (h:PT X e (acp (tOf X.K B m))):PT X e (cOf X.K B (cu m)):=h.imp fun σ H Q z9=>by
 obtain ⟨st,ps,S,as,R,t,aa,e,q⟩:=z9;refine ⟨st,ps,S,as,R,.bl t,aa,zy e,fun v H1 S1 af R1=>?_⟩;cases R1.top;exact ⟨t,rfl,q H1 S1 af R1.drop⟩
theorem jx {op:CmpOp} {f:T->T->Option T} (ho:OpT X (compareOp op) f) (ha:PE X a (tOf X.K B m1)) (hb:PE X b (tOf X.K B m2)) (hm:behindInMarks op b=false):PT X (.Compare a [op] [b] pos) (cOf X.K B (cu (mOp f m1 m2))) :=
 Ib ((a0b ho ha hb hm).imp fun σ H Q z9=>by
  obtain ⟨st,ps,S,as,R,t,aa,e,q⟩:=z9;obtain ⟨t1,s1,t2,e1,e2,e3⟩:=Ko e;refine ⟨st,ps,S,as,R,t1,s1,e1,fun v H1 S1 af R1=>⟨s1,_,S1,af,R1,t2,aa,e2,fun u H2 S2 aB R2=>?_⟩⟩;exact ⟨S2,aB,t1,t2,t,R2.sub,R2.top2,R2.top,e3,fun w H3 S3 x r=>q w H3 S3 aB ((R2.drop.drop.ext x).push r)⟩)
theorem Ds {e:Expr} (h:PE X e (tOf X.K B m)) (he:∀ whole,isTrue e X.env whole=(do let v <- whole; standAt e.pos; holding [v] (truthy v)):=by intro _; rfl):PT X e (cOf X.K B (cu m)) :=
 Ib ((adi h he).imp fun σ H Q h=>h)
theorem Ma {c1:M Bool} (ha:PT X a (cOf X.K B c1)):PT X (.UnaryOp .Not a pos) (cOf X.K B (Mi c1)):=(ac3 ha).imp fun σ H Q z9=>by
 obtain ⟨st,ps,S,as,R,t,aa,e,q⟩:=z9;obtain ⟨k,e1,rfl⟩:=Us e;exact ⟨st,ps,S,as,R,k,aa,e1,q⟩
theorem Jr {c1:M Bool} (ha:PT X a (cOf X.K B c1)):PW X (.BoolOp .And [a] pos) (cOf X.K B c1):=pw_and1 ha
theorem Q7 {c1:M Bool} (ha:PT X a (cOf X.K B c1)):PW X (.BoolOp .Or [a] pos) (cOf X.K B c1):=pw_or1 ha
theorem ad1 {e:Expr} {t t':TT} (h:PW X e t) (i:∀ σ H Q,t' σ H Q->t σ H Q):PW X e t':=fun whole pins s σ H Q I q=>h whole pins s σ H Q I (i σ H Q q)
theorem Rp {c1 c2:M Bool} {rest:List Expr} (ha:PT X a (cOf X.K B c1)) (hb:PW X (.BoolOp .And (b::rest) pos) (cOf X.K B c2)):PW X (.BoolOp .And (a::b::rest) pos) (cOf X.K B (Ep c1 c2)) :=
 ad1 (pw_and ha hb) fun σ H Q z9=>by
  obtain ⟨st,ps,S,as,R,t,aa,e,q⟩:=z9;rcases Vz e with ⟨s1,e1,e2⟩ | ⟨e1,rfl⟩
  ·exact ⟨st,ps,S,as,R,true,s1,e1,fun H1 S1 af R1=>a1l (⟨s1,ps,S1,af,R1,t,aa,e2,q⟩)⟩
  ·exact ⟨st,ps,S,as,R,false,aa,e1,fun H1 S1 af R1=>Zw (q H1 S1 af R1)⟩
theorem a2k {c1 c2:M Bool} {rest:List Expr} (ha:PT X a (cOf X.K B c1)) (hb:PW X (.BoolOp .Or (b::rest) pos) (cOf X.K B c2)):PW X (.BoolOp .Or (a::b::rest) pos) (cOf X.K B (mOr c1 c2)) :=
 ad1 (pw_or ha hb) fun σ H Q z9=>by
  obtain ⟨st,ps,S,as,R,t,aa,e,q⟩:=z9;rcases a0q e with ⟨s1,e1,e2⟩ | ⟨e1,rfl⟩
  ·exact ⟨st,ps,S,as,R,false,s1,e1,fun H1 S1 af R1=>Zw (⟨s1,ps,S1,af,R1,t,aa,e2,q⟩)⟩
  ·exact ⟨st,ps,S,as,R,true,aa,e1,fun H1 S1 af R1=>a1l (q H1 S1 af R1)⟩
theorem Gn {c1:M Bool} (hc:PT X c (cOf X.K B c1)) (ha:PE X a (tOf X.K B m1)) (hb:PE X b (tOf X.K B m2)):PE X (.IfExp c a b pos) (tOf X.K B (mIf c1 m1 m2)) :=
 (a5k hc ha hb).imp fun σ H Q z9=>by
  obtain ⟨st,ps,S,as,R,t,aa,e,q⟩:=z9;rcases aak e with ⟨s1,e1,e2⟩ | ⟨s1,e1,e2⟩
  ·exact ⟨st,ps,S,as,R,true,s1,e1,fun H1 S1 af R1=>a1l (⟨s1,ps,S1,af,R1,t,aa,e2,q⟩)⟩
  ·exact ⟨st,ps,S,as,R,false,s1,e1,fun H1 S1 af R1=>Zw (⟨s1,ps,S1,af,R1,t,aa,e2,q⟩)⟩
theorem abt (ha:PE X a (tOf X.K B m)):PE X (.UnaryOp .Not a pos) (tOf X.K B (yd (Mi (cu m)))):=(ado ha).imp fun σ H Q z9=>by
 obtain ⟨st,ps,S,as,R,t,aa,e,q⟩:=z9;obtain ⟨b,e1,rfl⟩:=Jk e;obtain ⟨k,e2,rfl⟩:=Us e1;refine ⟨st,ps,S,as,R,.bl k,aa,zy e2,fun v H1 S1 af R1=>?_⟩;cases R1.top;exact ⟨k,rfl,q _ H1 S1 af (R1.drop.push (.bl _))⟩
theorem Hl {op:BoolOp} (ha:PE X a (tOf X.K B m)):PE X (.BoolOp op [a] pos) (tOf X.K B m):=acf ha
theorem Eb {rest:List Expr} (ha:PE X a (tOf X.K B m1)) (hb:PE X (.BoolOp .And (b::rest) pos) (tOf X.K B m2)):PE X (.BoolOp .And (a::b::rest) pos) (tOf X.K B (yd (Ep (cu m1) (cu m2)))) :=
 (abg ha hb).imp fun σ H Q z9=>by
  obtain ⟨st,ps,S,as,R,t,aa,e,q⟩:=z9;obtain ⟨b,e1,rfl⟩:=Jk e;rcases Vz e1 with ⟨s1,e2,e3⟩ | ⟨e2,rfl⟩
  ·refine ⟨st,ps,S,as,R,.bl true,s1,zy e2,fun v H1 S1 af R1=>?_⟩;cases R1.top;exact ⟨true,rfl,a1l (⟨s1,ps,S1,af,R1.drop,.bl b,aa,zy e3,q⟩)⟩
  ·refine ⟨st,ps,S,as,R,.bl false,aa,zy e2,fun v H1 S1 af R1=>?_⟩;cases R1.top;exact ⟨false,rfl,Zw (q _ H1 S1 af (R1.drop.push (.bl _)))⟩
theorem aew {rest:List Expr} (ha:PE X a (tOf X.K B m1)) (hb:PE X (.BoolOp .Or (b::rest) pos) (tOf X.K B m2)):PE X (.BoolOp .Or (a::b::rest) pos) (tOf X.K B (yd (mOr (cu m1) (cu m2)))) :=
 (afh ha hb).imp fun σ H Q z9=>by
  obtain ⟨st,ps,S,as,R,t,aa,e,q⟩:=z9;obtain ⟨b,e1,rfl⟩:=Jk e;rcases a0q e1 with ⟨s1,e2,e3⟩ | ⟨e2,rfl⟩
  ·refine ⟨st,ps,S,as,R,.bl false,s1,zy e2,fun v H1 S1 af R1=>?_⟩;cases R1.top;exact ⟨false,rfl,Zw (⟨s1,ps,S1,af,R1.drop,.bl b,aa,zy e3,q⟩)⟩
  ·refine ⟨st,ps,S,as,R,.bl true,aa,zy e2,fun v H1 S1 af R1=>?_⟩;cases R1.top;exact ⟨true,rfl,a1l (q _ H1 S1 af (R1.drop.push (.bl _)))⟩
end
theorem a6u {a b:S} {s s':Sta} {fl:Flow} (h:nj a b s=some (fl,s')):(∃ s1,a s=some (.next,s1)/\b s1=some (fl,s'))\/(a s=some (fl,s')/\fl≠.next):=by
 unfold nj at h;split at h
 ·rename_i s1 e; exact .inl ⟨s1,e,h⟩
 ·rename_i r hr; exact .inr ⟨h,fun z=>by subst z; exact hr _ h⟩
theorem a3v {e:M T} {s s':Sta} {fl:Flow} (h:xg e s=some (fl,s')):∃ t,e s=some (t,s')/\fl=.ret t:=by
 unfold xg at h;split at h
 ·rename_i t s1 e; cases h; exact ⟨t,e,rfl⟩
 ·cases h
theorem a8t {c:M Bool} {a b:S} {s s':Sta} {fl:Flow} (h:sIf c a b s=some (fl,s')):(∃ s1,c s=some (true,s1)/\a s1=some (fl,s'))\/(∃ s1,c s=some (false,s1)/\b s1=some (fl,s')):=by
 unfold sIf at h;split at h
 ·rename_i s1 e; exact .inl ⟨s1,e,h⟩
 ·rename_i s1 e; exact .inr ⟨s1,e,h⟩
 ·cases h
theorem a67 {i:Nat} {e:M T} {s s':Sta} {fl:Flow} (h:nq i e s=some (fl,s')):∃ t s1,e s=some (t,s1)/\fl=.next/\s'=jz i t false s1:=by
 unfold nq at h;split at h
 ·rename_i t s1 e; cases h; exact ⟨t,s1,e,rfl,rfl⟩
 ·cases h
theorem a5s {i:Nat} {e:M T} {s s':Sta} {fl:Flow} (h:sNew i e s=some (fl,s')):∃ t s1,e s=some (t,s1)/\fl=.next/\s'=jz i t true s1:=by
 unfold sNew at h;split at h
 ·rename_i t s1 e; cases h; exact ⟨t,s1,e,rfl,rfl⟩
 ·cases h
theorem a5g {g:G} {it:M (List T)} {b:S} {s s':Sta} {fl:Flow} (h:U9 g it b s=some (fl,s')):∃ ts s1,it s=some (ts,s1)/\forL g b ts s1=some (fl,s'):=by
 unfold U9 at h;split at h
 ·rename_i ts s1 e; exact ⟨ts,s1,e,h⟩
 ·cases h
theorem Tf {i:Nat} {e:M T} {s s':Sta} {fl:Flow} (h:n6 i e s=some (fl,s')) :
  Az i s=true/\∃ t s1 xs,e s=some (t,s1)/\s1.env[i]? = some (some (.lst xs,true))/\xs.length<lim/\fl=.next/\s'=jz i (.lst (xs++[t])) true s1:=by
 unfold n6 at h;split at h
 ·rename_i hd;refine ⟨hd,?_⟩;split at h
  ·rename_i t s1 e;split at h
   ·rename_i xs ex;split at h
    ·rename_i hl; cases h; exact ⟨t,s1,xs,e,ex,hl,rfl,rfl⟩
    ·cases h
   ·cases h
  ·cases h
 ·cases h
theorem U3 {i:Nat} {e:M T} {s s':Sta} {fl:Flow} (h:Ai i e s=some (fl,s')) :
  Az i s=true/\∃ t s1 xs ys,e s=some (t,s1)/\J4 t=some ys/\s1.env[i]? = some (some (.lst xs,true))/\xs.length+ys.length<lim/\fl=.next/\s'=jz i (.lst (xs++ys)) true s1:=by
 unfold Ai at h;split at h
 ·rename_i hd;refine ⟨hd,?_⟩;split at h
  ·rename_i t s1 e;split at h
   ·rename_i ys xs ey ex;split at h
    ·rename_i hl; cases h; exact ⟨t,s1,_,_,e,ey,ex,hl,rfl,rfl⟩
    ·cases h
   ·cases h
  ·cases h
 ·cases h
section
variable {K:PySem.W.Frag} {B:Bas} {st:Sta} {σ:L2.St} {H H' S S':Hp} {ps ps2:List (V × T)} {as av:List Addr}
theorem Rel.pick (r:Rel K B st σ H ps S as) (h:∀ p∈ps2,p∈ps):Rel K B st σ H ps2 S as :=
 ⟨r.sub,r.grow,r.slots,r.apart,r.sto,fun p hp=>r.pend p (h p hp),r.len⟩
theorem O7 {α:Type} {l:List α} {i:Nat} {x:α} (h:l.length<=i):l.set i x=l:=List.set_eq_of_length_le h
theorem Rel.put (r:Rel K B st σ H ps S as) {i:Nat} {v:V} {t:T} (h:Rep K S as v t):Rel K B (jz i t false st) (σ.set i (some v)) H ps S as:=by
 by_cases hi:i<st.env.length
 ·have hs:i<σ.length:=by rw [r.len]; exact hi
  refine ⟨r.sub,r.grow,fun j u f e=>?_,fun j k u w p ej ek sj sk=>?_,r.sto,r.pend,by show _=(st.env.set i _).length; rw [jG,jG]; exact r.len⟩
  ·have e:(st.env.set i (some (t,false)))[j]? = some (some (u,f)):=e
   by_cases aL:i=j
   ·subst aL;rw [iM hi] at e; cases e;exact ⟨v,iM hs,fun _=>h,fun z=>by cases z⟩
   ·rw [iJ aL] at e ⊢;exact r.slots j u f e
  ·have ej:(st.env.set i (some (t,false)))[j]? = some (some (u,true)):=ej;have ek:(st.env.set i (some (t,false)))[k]? = some (some (w,true)):=ek;have aL:i≠j:=fun z=>by subst z; rw [iM hi] at ej; cases ej
   have cF:i≠k:=fun z=>by subst z; rw [iM hi] at ek; cases ek
   rw [iJ aL] at ej sj;rw [iJ cF] at ek sk;exact r.apart j k u w p ej ek sj sk
 ·have e1:jz i t false st=st:=by unfold jz; rw [O7 (jW hi)]
  have e2:σ.set i (some v)=σ:=O7 (by rw [r.len]; exact jW hi);rw [e1,e2]; exact r
def Jm (st:Sta) (σ:L2.St) (p:Addr):Prop:=∀ (j:Nat) u,st.env[j]? = some (some (u,true))->σ[j]? = some (some (.ref p))->False
theorem Rel.ae2 (r:Rel K B st σ H ps S as) {i:Nat} {p:Addr} {t:T} (h:Xb K B S as H p t) (hn:Jm st σ p):Rel K B (jz i t true st) (σ.set i (some (.ref p))) H ps S as:=by
 by_cases hi:i<st.env.length
 ·have hs:i<σ.length:=by rw [r.len]; exact hi
  refine ⟨r.sub,r.grow,fun j u f e=>?_,fun j k u w q ej ek sj sk=>?_,r.sto,r.pend,by show _=(st.env.set i _).length; rw [jG,jG]; exact r.len⟩
  ·have e:(st.env.set i (some (t,true)))[j]? = some (some (u,f)):=e
   by_cases aL:i=j
   ·subst aL;rw [iM hi] at e; cases e;exact ⟨.ref p,iM hs,(fun z=>by cases z),fun _=>⟨p,rfl,h⟩⟩
   ·rw [iJ aL] at e ⊢;exact r.slots j u f e
  ·have ej:(st.env.set i (some (t,true)))[j]? = some (some (u,true)):=ej;have ek:(st.env.set i (some (t,true)))[k]? = some (some (w,true)):=ek
   by_cases aL:i=j
   ·by_cases cF:i=k
    ·rw [<- aL,<- cF]
    ·subst aL;rw [iM hs] at sj; cases sj;rw [iJ cF] at ek sk;exact (hn k w ek sk).elim
   ·rw [iJ aL] at ej sj
    by_cases cF:i=k
    ·subst cF;rw [iM hs] at sk; cases sk;exact (hn j u ej sj).elim
    ·rw [iJ cF] at ek sk;exact r.apart j k u w q ej ek sj sk
 ·have e1:jz i t true st=st:=by unfold jz; rw [O7 (jW hi)]
  have e2:σ.set i (some (.ref p))=σ:=O7 (by rw [r.len]; exact jW hi);rw [e1,e2]; exact r
theorem Rel.turn (r:Rel K B st σ H ps S as) {i:Nat} {t t':T} {p:Addr} {ob:HO} (e:st.env[i]? = some (some (t,true))) (hp:σ[i]? = some (some (.ref p))) (h:Own K S as (upd H p ob) p t') :
  Rel K B (jz i t' true st) σ (upd H p ob) ps S as:=by
 obtain ⟨v,h1,_,h3⟩:=r.slots i t true e;rw [hp] at h1; cases h1;obtain ⟨p',ep,o⟩:=h3 rfl;cases ep;have hi:i<st.env.length:=(iE.mp e).1;have other:∀ q,q≠p->H q=upd H p ob q:=fun q n=>(gw n).symm;refine ⟨fun b u q=>?_,⟨r.grow.same,r.grow.more,fun q w a b c=>?_⟩,fun j u f ej=>?_,fun j k u w q ej ek sj sk=>?_,⟨r.sto.len,r.sto.nd,fun n so en=>?_⟩,r.pend,by show _=(st.env.set i _).length; rw [jG]; exact r.len⟩
 ·have n:b≠p:=fun z=>by subst z; rw [o.out] at q; cases q
  rw [gw n]; exact r.sub _ _ q
 ·obtain ⟨x,y,z⟩:=r.grow.keep q w a b c;have n:q≠p:=fun z=>by subst z; rw [o.new] at a; cases a
  exact ⟨by rw [gw n]; exact x,y,z⟩
 ·have ej:(st.env.set i (some (t',true)))[j]? = some (some (u,f)):=ej
  by_cases aL:i=j
  ·subst aL;rw [iM hi] at ej; cases ej;exact ⟨.ref p,hp,(fun z=>by cases z),fun _=>⟨p,rfl,h,o.out,o.nas,o.new⟩⟩
  ·rw [iJ aL] at ej;obtain ⟨v',a1,a2,a3⟩:=r.slots j u f ej;refine ⟨v',a1,a2,fun z=>?_⟩;subst z;obtain ⟨p',rfl,o'⟩:=a3 rfl;have n:p'≠p:=fun z=>by subst z; exact aL (r.apart i j t u p' e ej hp a1)
   exact ⟨p',rfl,o'.own.mono (Same.refl _) (other p' n),o'.out,o'.nas,o'.new⟩
 ·have back:∀ (j:Nat) u,(st.env.set i (some (t',true)))[j]? = some (some (u,true))->∃ u',st.env[j]? = some (some (u',true)):=fun j u ej=>by
   by_cases aL:i=j
   ·subst aL; exact ⟨t,e⟩
   ·rw [iJ aL] at ej; exact ⟨u,ej⟩
  obtain ⟨u',ej'⟩:=back j u ej;obtain ⟨w',ek'⟩:=back k w ek;exact r.apart j k u' w' q ej' ek' sj sk
 ·obtain ⟨a,a1,a2,a3⟩:=r.sto.at' n so en;have n:a≠p:=fun z=>by subst z; exact o.nas (jE a1)
  exact ⟨a,a1,a2,a3.mono (Same.refl _) (other a n)⟩
theorem Rel.Ot (r:Rel K B st σ H ps S as) {n:Nat} {so fg:SO} {a:Addr} {ob:HO} (e:st.sto[n]? = some so) (ha:as[n]? = some a) (h:a7w K S as (upd H a ob) a fg) :
  Rel K B { st with sto:=st.sto.set n fg } σ (upd H a ob) ps S as:=by
 have ma:a∈as:=jE ha;have hn:n<st.sto.length:=(iE.mp e).1
 have sa:S a=none:=by
  obtain ⟨a',a1,a2,_⟩:=r.sto.at' n so e;rw [ha] at a1; cases a1; exact a2
 have other:∀ q,q≠a->H q=upd H a ob q:=fun q n=>(gw n).symm;refine ⟨fun b u q=>?_,⟨r.grow.same,r.grow.more,fun q w x y z=>?_⟩,fun j u f ej=>?_,r.apart,⟨by rw [jG]; exact r.sto.len,r.sto.nd,fun k cZ en=>?_⟩,r.pend,r.len⟩
 ·have n:b≠a:=fun z=>by subst z; rw [sa] at q; cases q
  rw [gw n]; exact r.sub _ _ q
 ·obtain ⟨x1,y1,z1⟩:=r.grow.keep q w x y z;have n:q≠a:=fun z=>by subst z; exact z1 ma
  exact ⟨by rw [gw n]; exact x1,y1,z1⟩
 ·obtain ⟨v',a1,a2,a3⟩:=r.slots j u f ej;refine ⟨v',a1,a2,fun z=>?_⟩;obtain ⟨p',rfl,o'⟩:=a3 z;have n:p'≠a:=fun z=>by subst z; exact o'.nas ma
  exact ⟨p',rfl,o'.own.mono (Same.refl _) (other p' n),o'.out,o'.nas,o'.new⟩
 ·by_cases hk:n=k
  ·subst hk;rw [iM hn] at en; cases en;exact ⟨a,ha,sa,h⟩
  ·rw [iJ hk] at en;obtain ⟨b,b1,b2,b3⟩:=r.sto.at' k cZ en
   have n:b≠a:=fun z=>by
    subst z;have l1:=(iE.mp b1).1;have l2:=(iE.mp ha).1;exact hk ((List.getElem?_inj (i:=n) (j:=k) l2 r.sto.nd).mp (by rw [ha,b1]))
   exact ⟨b,b1,b2,b3.mono (Same.refl _) (other b n)⟩
end
def Fin (K:PySem.W.Frag) (B:Bas) (D:Ends) (ps:List (V × T)):Flow->Sta->Prop
 | .next,aa=>∀ ag H' S' av,Rel K B aa ag H' ps S' av->D.nx ag H'
 | .ret t,aa=>∀ v ag H' S' av,Rel K B aa ag H' ((v,t)::ps) S' av->D.rt v H'
 | .brk,aa=>∀ ag H' S' av,Rel K B aa ag H' ps S' av->D.bk ag H'
 | .cont,aa=>∀ ag H' S' av,Rel K B aa ag H' ps S' av->D.ct ag H'
inductive sOf (K:PySem.W.Frag) (B:Bas) (s:S) (D:Ends) (σ:L2.St) (H:Hp):Prop
 | mk (st:Sta) (ps:List (V × T)) (S0:Hp) (as:List Addr) (R:Rel K B st σ H ps S0 as) (fl:Flow) (aa:Sta) (e:s st=some (fl,aa)) (q:Fin K B D ps fl aa)
inductive gOf (K:PySem.W.Frag) (B:Bas) (g:G) (v:V) (σ:L2.St) (H:Hp) (Q:L2.St->Hp->Prop):Prop
 | mk (st:Sta) (ps:List (V × T)) (S:Hp) (as:List Addr) (t:T) (R:Rel K B st σ H ((v,t)::ps) S as) (aa:Sta) (e:g t st=some aa) (q:∀ ag H' S' av,Rel K B aa ag H' ps S' av->Q ag H')
inductive fOf (K:PySem.W.Frag) (B:Bas) (m:M T) (σ:L2.St) (H:Hp) (Q:VK):Prop
 | mk (st:Sta) (ps:List (V × T)) (S:Hp) (as:List Addr) (R:Rel K B st σ H ps S as) (t:T) (aa:Sta) (e:m st=some (t,aa)) (q:∀ p H' S' av,Rel K B aa σ H' ps S' av->Xb K B S' av H' p t->Jm aa σ p->Q (.ref p) H')
section
variable {X:Cx} {B:Bas} {a b c e:Expr} {m m1 m2:M T} {pos:Pos} {u v:S}
theorem mz:PSs X [] (sOf X.K B Ce):=a8w.imp fun D σ H z9=>by
 obtain ⟨st,ps,S,as,R,fl,aa,e,q⟩:=z9;cases e; exact q σ H S as R
theorem dz {st:Stmt} {rest:List Stmt} (h1:PS X st (sOf X.K B u)) (h2:PSs X rest (sOf X.K B v)):PSs X (st::rest) (sOf X.K B (nj u v)):=(Uw h1 h2).imp fun D σ H z9=>by
 obtain ⟨st,ps,S,as,R,fl,aa,e,q⟩:=z9;rcases a6u e with ⟨s1,e1,e2⟩ | ⟨e1,hn⟩
 ·exact ⟨st,ps,S,as,R,.next,s1,e1,fun ag H' S' av R'=>⟨s1,ps,S',av,R',fl,aa,e2,q⟩⟩
 ·refine ⟨st,ps,S,as,R,fl,aa,e1,?_⟩;cases fl with
  | next=>exact absurd rfl hn
  | ret t=>exact q
  | brk=>exact q
  | cont=>exact q
theorem iu {st:Stmt} (h1:PS X st (sOf X.K B u)):PSs X [st] (sOf X.K B u):=Sg h1
theorem ji (he:PE X e (tOf X.K B m)):PS X (.Return (some e) pos) (sOf X.K B (xg m)):=(a7h he).imp fun D σ H z9=>by
 obtain ⟨st,ps,S,as,R,fl,aa,e,q⟩:=z9;obtain ⟨t,e1,rfl⟩:=a3v e;exact ⟨st,ps,S,as,R,t,aa,e1,fun v H' S' av R'=>q v σ H' S' av R'⟩
theorem yc {c1:M Bool} {sa sb:List Stmt} (hc:PT X c (cOf X.K B c1)) (ha:PSs X sa (sOf X.K B u)) (hb:PSs X sb (sOf X.K B v)):PS X (.If c sa sb pos) (sOf X.K B (sIf c1 u v)):=(ady hc ha hb).imp fun D σ H z9=>by
 obtain ⟨st,ps,S,as,R,fl,aa,e,q⟩:=z9;rcases a8t e with ⟨s1,e1,e2⟩ | ⟨s1,e1,e2⟩
 ·exact ⟨st,ps,S,as,R,true,s1,e1,fun H1 S1 af R1=>a1l ⟨s1,ps,S1,af,R1,fl,aa,e2,q⟩⟩
 ·exact ⟨st,ps,S,as,R,false,s1,e1,fun H1 S1 af R1=>Zw ⟨s1,ps,S1,af,R1,fl,aa,e2,q⟩⟩
theorem nu (i:Nat) {tg:Expr} (h:PG X tg (Mv i)):PG X tg (gOf X.K B (hName i)):=fun pins s σ H x u Q I r z9=>h pins s σ H x u Q I r (by
 obtain ⟨st,ps,S,as,t,R,aa,e,q⟩:=z9;cases e;exact q _ H S as (R.drop.put R.top))
theorem Kc (i:Nat) {te:TE} {s:Stmt} (h:PS X s (a90 te (Mv i))) (hm:∀ σ H Q,tOf X.K B m σ H Q->te σ H Q):PS X s (sOf X.K B (nq i m)):=h.imp fun D σ H z9=>by
 obtain ⟨st,ps,S,as,R,fl,aa,e,q⟩:=z9;obtain ⟨t,s1,e1,rfl,rfl⟩:=a67 e;exact hm σ H _ ⟨st,ps,S,as,R,t,s1,e1,fun v H' S' av R'=>q _ H' S' av (R'.drop.put R'.top)⟩
theorem Iz (i:Nat) {te:TE} {s:Stmt} (h:PS X s (a90 te (Mv i))) (hm:∀ σ H Q,fOf X.K B m σ H Q->te σ H Q):PS X s (sOf X.K B (sNew i m)):=h.imp fun D σ H z9=>by
 obtain ⟨st,ps,S,as,R,fl,aa,e,q⟩:=z9;obtain ⟨t,s1,e1,rfl,rfl⟩:=a5s e;exact hm σ H _ ⟨st,ps,S,as,R,t,s1,e1,fun p H' S' av R' o n=>q _ H' S' av (R'.ae2 o n)⟩
end
section
variable {K:PySem.W.Frag} {B:Bas} {st:Sta} {σ:L2.St} {H H' S S':Hp} {ps ps2:List (V × T)} {as av:List Addr}
theorem Own.more {p:Addr} {t:T} (hs:Same S S') (x:∃ l,av=as++l) (hh:H p=H' p) (o:Own K S as H p t):Own K S' av H' p t:=by
 cases t with
 | lst ts=>obtain ⟨vs,h,r⟩:=o; exact ⟨vs,hh ▸ h,r.mono hs x⟩
 | dic ts=>obtain ⟨vs,h,r⟩:=o; exact ⟨vs,hh ▸ h,r.mono hs x⟩
 | _=>exact o.elim
theorem Rel.call {ae:List SO} (r:Rel K B st σ H ps S as) (g:ad3 ⟨S,as,H⟩ S' av H') (sub:Same S' H') (so:Hq K S' av H' ae):Rel K B { st with sto:=ae } σ H' ps S' av where
 sub:=sub
 grow:=by
  refine ⟨r.grow.same.trans g.same,?_,fun p o a b c=>?_⟩
  ·obtain ⟨l,e⟩:=r.grow.more;obtain ⟨l',e'⟩:=g.more;exact ⟨l++l',by rw [e',e,jR]⟩
  ·obtain ⟨x,y,z⟩:=r.grow.keep p o a b c;exact g.keep p o x y z
 slots:=fun i t f e=>by
  obtain ⟨v,h1,h2,h3⟩:=r.slots i t f e;refine ⟨v,h1,fun q=>(h2 q).mono g.same g.more,fun q=>?_⟩;obtain ⟨p,rfl,o⟩:=h3 q;obtain ⟨ob,ho⟩:=o.own.there;obtain ⟨x,y,z⟩:=g.keep p ob ho o.out o.nas;exact ⟨p,rfl,o.own.more g.same g.more (by rw [ho,x]),y,z,o.new⟩
 apart:=r.apart
 sto:=so
 pend:=fun p hp=>(r.pend p hp).mono g.same g.more
 len:=r.len
end
noncomputable def spF (K:PySem.W.Frag) (ar:Nat) (F:Fn):Sp:=fun vs H Q _=>∃ S as sto ts t ae,Same S H/\Hq K S as H sto/\qb K S as vs ts/\ts.length=ar/\F ts sto=some (t,ae) /\
 ∀ v H' S' av,ad3 ⟨S,as,H⟩ S' av H'->Same S' H'->Hq K S' av H' ae->Rep K S' av v t->Q v H'
section
variable {X:Cx} {B:Bas} {a b c e:Expr} {m m1 m2:M T} {pos p:Pos} {u v:S} {es:List Expr} {ms:M (List T)} {k:Nat} {f:Addr} {fd:FuncData} {pn:List Str} {F:Fn} {x:Str}
theorem ab1 (G:Du X.prog X.w X.K X.mg X.base CX0 k f fd pn (spF X.K pn.length F)) (hr:Cj k X.A) (hg:Gl X x) (hm:X.mg x=some (.ref f)) (hk:PySem.W.keepIn X.K (.ref f)=true) (hb:Binds X.K fd pn [])
  (ha:PA X (e::es) (aOf X.K B ms)) (hl:∀ st ts aa,ms st=some (ts,aa)->ts.length=pn.length) (aX:(x==("__debug__" : Str))=false:=by decide)
  (he:starEach (e::es) X.env=(false,eval e X.env)::starEach es X.env:=by rfl) (aN:(backTo pos (starEach es X.env)).any (·.1)=false:=by rfl) :
  PE X (.Call (.Name x p) (e::es) [] pos) (tOf X.K B (f9 F ms)) :=
 (a00 G hr hg hm hk hb .nil ad0 ha aX he aN).imp fun σ H Q z9=>by
  obtain ⟨st,ps,S,as,R,t,aa,e,q⟩:=z9;obtain ⟨ts,s1,sto,e1,e2,rfl⟩:=a2b e;refine ⟨st,ps,S,as,R,ts,s1,e1,fun vs H1 S1 af R1 rs=>?_⟩;show spF X.K pn.length F (vs++[]) H1 Q E0;rw [iU];exact ⟨S1,af,s1.sto,ts,t,sto,R1.sub,R1.sto,rs,hl _ _ _ e1,e2,fun v H2 S2 aB g sub so r=>q v H2 S2 aB ((R1.call g sub so).push r)⟩
theorem eq_nil:∀ st ts aa,cj st=some (ts,aa)->ts.length=0:=fun st ts aa e=>by cases e; rfl
theorem bh {r:M (List T)} {n:Nat} (h:∀ st ts aa,r st=some (ts,aa)->ts.length=n):∀ st ts aa,aj m r st=some (ts,aa)->ts.length=n+1:=fun st ts aa e=>by
 obtain ⟨t,s1,us,e1,e2,rfl⟩:=Gz e;exact iX (· + 1) (h _ _ _ e2)
end
section
variable {P:Program} {w:World} {K:PySem.W.Frag} {mg:Str->Option Value} {base:Heap}
theorem a3e {N:List Str} {vs:List V} {i:Nat} {v:V} (h:vs[i]? = some v):(L2.start N vs)[i]? = some (some v):=by
 unfold L2.start;have hi:=(iE.mp h).1;rw [jJ (by rw [hZ]; exact hi),jD,h]; rfl
theorem Qw {S H:Hp} {as:List Addr} {sto:List SO} {vs:List V} {ts:List T} {N:List Str} (h1:Same S H) (h2:Hq K S as H sto) (h3:qb K S as vs ts) (hN:ts.length<=N.length) :
  Rel K ⟨S,as,H⟩ ⟨ts.map (fun t=>some (t,false))++List.replicate (N.length - ts.length) none,sto⟩ (L2.start N vs) H [] S as:=by
 have key:∀ (i:Nat) t fl,(ts.map (fun t=>some (t,false))++List.replicate (N.length - ts.length) (none:Slot))[i]? = some (some (t,fl))->fl=false/\ts[i]? = some t:=fun i t fl e=>by
  by_cases hi:i<ts.length
  ·rw [jJ (by rw [hZ]; exact hi),jD] at e;cases z:ts[i]? with
   | none=>rw [z] at e; cases e
   | some t'=>rw [z] at e; cases e; exact ⟨rfl,rfl⟩
  ·rw [jO (by rw [hZ]; exact jW hi)] at e;have:=mK (jE e);cases this
 refine ⟨h1,⟨Same.refl _,nol,fun p o a b c=>⟨a,b,c⟩⟩,fun i t fl e=>?_,fun i j t u p ei ej=>?_,h2,(fun p hp=>by cases hp),?_⟩
 ·obtain ⟨rfl,e'⟩:=key i t fl e;obtain ⟨v,hv,r⟩:=h3.get e';exact ⟨v,a3e hv,fun _=>r,fun z=>by cases z⟩
 ·obtain ⟨z,_⟩:=key i t true ei; cases z
 ·unfold L2.start;rw [il,il,hZ,hZ,jF,jF,h3.length]
theorem a8m {x qual:Str} {st:Stmt} {f:Addr} {fd:FuncData} {N ps:List Str} {k:Nat} {b:S} (F:Fun K x qual st f fd) (Sc:Bx N ps (j5 st)) (hN:ps.length<=N.length)
  (hb:∀ (aC:Value) (A:Around) (outer:List Env) (s:Shared) (H:Hp) (E:XK) (B:Bas),Cj k (A.deeper (envOfC qual (j5 st) s.heap.objs.size f aC)) ->
   PSs (Qc CX0 P w K mg base N qual (j5 st) f aC A outer s H E).nox (xu st) (sOf K B b)):Du P w K mg base CX0 (k+1) f fd ps (spF K ps.length (v8 N.length b)):=by
 refine F.ok Sc (fun vs H Q E h=>?_) fun aC A outer s H vs Q E hr h=>?_
 ·obtain ⟨S,as,sto,ts,t,ae,h1,h2,h3,h4,_⟩:=h;rw [h3.length,h4]
 ·obtain ⟨S,as,sto,ts,t,ae,h1,h2,h3,h4,h5,q⟩:=h;refine ⟨_,hb aC A outer s H E ⟨S,as,H⟩ hr,?_⟩;have lv:vs.length=ps.length:=by rw [h3.length,h4]
  have R:Rel K ⟨S,as,H⟩ ⟨ts.map (fun t=>some (t,false))++List.replicate (N.length - ts.length) none,sto⟩ (L2.start N vs) H [] S as:=Qw h1 h2 h3 (by rw [h4]; exact hN);unfold v8 at h5;split at h5
  ·rename_i t' s' e;cases h5;exact ⟨_,[],S,as,R,.ret t,s',e,fun v ag H' S' av R'=>q v H' S' av R'.grow R'.sub R'.sto R'.top⟩
  ·rename_i s' e;cases h5;exact ⟨_,[],S,as,R,.next,s',e,fun ag H' S' av R'=>q .non H' S' av R'.grow R'.sub R'.sto .non⟩
  ·cases h5
end
theorem a4q {g:G} {b:S} {t:T} {r:List T} {s s':Sta} {fl:Flow} (h:forL g b (t::r) s=some (fl,s')):∃ s1 fb s2,g t s=some s1/\b s1=some (fb,s2) /\
  (match fb with | .next=>forL g b r s2=some (fl,s') | .cont=>forL g b r s2=some (fl,s') | .brk=>fl=.next/\s'=s2 | .ret v=>fl=.ret v/\s'=s2):=by
 rw [forL] at h;dsimp only at h;split at h
 ·rename_i s1 e1;split at h
  ·rename_i s2 e2; exact ⟨s1,.next,s2,e1,e2,h⟩
  ·rename_i s2 e2; exact ⟨s1,.cont,s2,e1,e2,h⟩
  ·rename_i s2 e2; cases h; exact ⟨s1,.brk,_,e1,e2,rfl,rfl⟩
  ·rename_i v s2 e2; cases h; exact ⟨s1,.ret v,_,e1,e2,rfl,rfl⟩
  ·cases h
 ·cases h
structure Hu (K:PySem.W.Frag) (S:Hp) (as:List Addr) (H:Hp) (J:It) (ts:List T):Prop where
 go:∀ (i:Nat) t,ts[i]? = some t->J.go i H/\∀ x H',J.yld i H x H'->∃ S',Ext S H S' H'/\Rep K S' as x t
 stop:∀ i,ts.length<=i->J.stop i H
inductive iOf (K:PySem.W.Frag) (B:Bas) (m:M (List T)) (σ:L2.St) (H:Hp) (R:It->Hp->Prop):Prop
 | mk (st:Sta) (ps:List (V × T)) (S:Hp) (as:List Addr) (R0:Rel K B st σ H ps S as) (ts:List T) (aa:Sta) (e:m st=some (ts,aa)) (z:ts.length<=sizeLine) (q:∀ J H' S' av a6,Rel K B aa σ H' (a6++ps) S' av->(∀ S as H,(∀ p∈a6,Rep K S as p.1 p.2)->Same S H->Hu K S as H J ts)->R J H')
section
variable {X:Cx} {tg l:Expr} {tl:TE}
noncomputable def iSq (K:PySem.W.Frag) (tl:TE):TI:=fun σ H R=>tl σ H fun x H1=>∃ a,x=.ref a/\(((∃ xs,SqL K H1 a xs)/\R (Itl K a) H1)\/((∃ xs,SqT K H1 a xs)/\R (Itt K a) H1))
theorem aek (hl:PE X l tl):PI X tg l (iSq X.K tl):=by
 intro pins s σ H R I h;refine thn (hl pins s σ H _ I h) fun v s1 z0=>?_;obtain ⟨x,H1,I1,r1,q1⟩:=z0;obtain ⟨a,e,q⟩:=q1;subst e;cases r1;rcases q with ⟨⟨xs,hq⟩,q⟩ | ⟨⟨xs,hq⟩,q⟩
 ·obtain ⟨its,rv,p,hz⟩:=I1.list hq;refine kC p.isList ?_;refine ⟨s1.heap.objs.size,[s1.heap.objs.size],_,_,H1,rfl,I1.kept (t':=s1.toks) fun b o e=>ix _ e,a1b a _,⟨_,iI _ rfl,rfl,rfl⟩,fun b hb=>?_,q⟩;have e:b=s1.heap.objs.size:=by simpa using hb
  subst e;exact I1.a9c (ic _) (I1.hok.fresh (ic _))
 ·obtain ⟨its,rv,p,hz⟩:=I1.tuple hq;refine la (show s1.heap.IsTuple a its.toArray from p) ?_;refine ⟨s1.heap.objs.size,[s1.heap.objs.size],_,_,H1,rfl,I1.kept (t':=s1.toks) fun b o e=>ix _ e,Y4 a _,⟨_,iI _ rfl,rfl,rfl⟩,fun b hb=>?_,q⟩;have e:b=s1.heap.objs.size:=by simpa using hb
  subst e;exact I1.a9c (ic _) (I1.hok.fresh (ic _))
end
section
variable {X:Cx} {B:Bas} {a b c e tg iter:Expr} {m m1 m2:M T} {pos p:Pos} {u v:S} {g:G} {it:M (List T)} {body:List Stmt}
theorem itL {K:PySem.W.Frag} {S:Hp} {as:List Addr} {H:Hp} {p:Addr} {vs:List V} {ts:List T} (sub:Same S H) (h:SqL K H p vs) (r:qb K S as vs ts):Hu K S as H (Itl K p) ts where
 go:=fun i t e=>by
  obtain ⟨v,hv,rv⟩:=r.get e;exact ⟨⟨vs,v,h,hv⟩,fun x H' y=>⟨S,by rw [y.1]; exact Ext.refl sub,by have:=y.2 vs h; rw [hv] at this; cases this; exact rv⟩⟩
 stop:=fun i hi=>⟨vs,h,by rw [r.length]; exact hi⟩
theorem itT {K:PySem.W.Frag} {S:Hp} {as:List Addr} {H:Hp} {p:Addr} {vs:List V} {ts:List T} (sub:Same S H) (h:SqT K H p vs) (r:qb K S as vs ts):Hu K S as H (Itt K p) ts where
 go:=fun i t e=>by
  obtain ⟨v,hv,rv⟩:=r.get e;exact ⟨⟨vs,v,h,hv⟩,fun x H' y=>⟨S,by rw [y.1]; exact Ext.refl sub,by have:=y.2 vs h; rw [hv] at this; cases this; exact rv⟩⟩
 stop:=fun i hi=>⟨vs,h,by rw [r.length]; exact hi⟩
theorem lg:lim<=sizeLine:=by rw [sizeLine_eq]; decide
theorem Aq (h:PE X iter (tOf X.K B m)):PI X tg iter (iOf X.K B (Bg m)):=by
 intro pins s σ H R I hw;refine aek h pins s σ H R I ?_;obtain ⟨st,ps,S,as,Rl,ts,aa,e,hz,q⟩:=hw;unfold Bg at e;split at e
 ·rename_i xs s1 e1;split at e
  ·rename_i hl;cases e;refine ⟨st,ps,S,as,Rl,_,_,e1,fun v H1 S1 af R1=>?_⟩;have top:=R1.top;cases top with
   | @lst a vs _ hs hr =>
    refine ⟨a,rfl,.inl ⟨⟨vs,jw R1.sub hs⟩,q _ H1 S1 af [(.ref a,.lst _)] R1 fun S2 aB H2 hp hh=>?_⟩⟩;have:=hp _ ie;cases this with
    | @lst _ vs2 _ aR bZ=>exact itL hh (jw hh aR) bZ
  ·cases e
 ·rename_i xs s1 e1;split at e
  ·rename_i hl;cases e;refine ⟨st,ps,S,as,Rl,_,_,e1,fun v H1 S1 af R1=>?_⟩;have top:=R1.top;cases top with
   | @tup a vs _ hs hr =>
    refine ⟨a,rfl,.inr ⟨⟨vs,m6 R1.sub hs⟩,q _ H1 S1 af [(.ref a,.tup _)] R1 fun S2 aB H2 hp hh=>?_⟩⟩;have:=hp _ ie;cases this with
    | @tup _ vs2 _ aR bZ=>exact itT hh (m6 hh aR) bZ
  ·cases e
 ·cases e
theorem Mj {a:M T} {ts:List T} {s s':Sta} (h:Ad a s=some (ts,s')):∃ n:Int,a s=some (.int n,s')/\(-1000000<n/\n<1000000)/\ts=rangeT n.toNat:=by
 unfold Ad at h;split at h
 ·rename_i n s1 e;split at h
  ·rename_i hl; cases h; exact ⟨n,e,by have:n.natAbs<1000000:=hl; omega,rfl⟩
  ·cases h
 ·cases h
theorem X5 {n i:Nat} {t:T} (h:(rangeT n)[i]? = some t):i<n/\t=.int (i:Int):=by
 unfold rangeT at h;rw [jD] at h;cases z:(List.range n)[i]? with
 | none=>rw [z] at h; cases h
 | some k =>
  rw [z] at h; cases h;obtain ⟨hi,e⟩:=iE.mp z;rw [List.getElem_range] at e; subst e;rw [jH] at hi;exact ⟨hi,rfl⟩
theorem Gx (hg:Gl X "range") (hm:X.mg "range" = none) (h:PE X a (tOf X.K B m)) (hs:starEach [a] X.env=[(false,eval a X.env)]:=by rfl):PI X tg (.Call (.Name "range" p) [a] [] pos) (iOf X.K B (Ad m)):=by
 intro pins s σ H R I hw;refine a3b (ta:=J3 (tOf X.K B m) a3q) hg hm (lu h su hs) hs pins s σ H R I ?_;obtain ⟨st,ps,S,as,Rl,ts,aa,e,hz,q⟩:=hw;obtain ⟨n,e1,hl,rfl⟩:=Mj e;refine ⟨st,ps,S,as,Rl,_,_,e1,fun v H1 S1 af R1=>?_⟩;cases R1.top;refine ⟨n,rfl,by omega,by omega,q _ H1 S1 af [] R1.drop fun S2 aB H2 _ hh=>⟨fun i t e=>?_,fun i hi=>?_⟩⟩
 ·obtain ⟨hi,rfl⟩:=X5 e;refine ⟨hi,fun x H' y=>⟨S2,by rw [y.1]; exact Ext.refl hh,?_⟩⟩;have:=y.2; subst this;rw [Int.zero_add]; exact .int _
 ·show n.toNat<=i;unfold rangeT at hi
  rwa [hZ,jH] at hi
theorem Io (hp:PassesOwn (model X.prog X.w) X.A X.env X.xe) (hc:X.calm=true) (hi:PI X tg iter (iOf X.K B it)) (hg:PG X tg (gOf X.K B g)) (hb:PSs X body (sOf X.K B u)) (bB:∀ st ts aa,it st=some (ts,aa)->ts.length<=sizeLine)
  (hs:∀ x,foldedSetIterable iter X.env x=pure x:=by intro _; rfl):PS X (.For tg iter body [] pos) (sOf X.K B (U9 g it u)):=(acw hp hc hi hg hb hs).imp fun D σ H z9=>by
 obtain ⟨st,ps,S,as,R,fl,aa,e,q⟩:=z9;obtain ⟨ts,s1,e1,e2⟩:=a5g e;refine ⟨st,ps,S,as,R,ts,s1,e1,bB _ _ _ e1,fun J H1 S1 af a6 R1 facts=>?_⟩;refine ⟨fun i m σ H=>m=ts.length - i/\i<=ts.length/\∃ aG Si aE,Rel X.K B aG σ H (a6++ps) Si aE/\forL g u (ts.drop i) aG=some (fl,aa),⟨ts.length,by simp,iZ _,s1,S1,af,R1,by simpa using e2⟩,?_⟩;rintro i m bG H2 ⟨rfl,hi,aG,Si,aE,Ri,ei⟩;have F:=facts Si aE H2 (fun p hp=>Ri.pend p (kq _ hp)) Ri.sub;have sub:∀ p∈ps,p∈a6++ps:=fun p hp=>js _ hp
 by_cases aS:i<ts.length
 ·rw [kN aS] at ei;obtain ⟨s2,fb,s3,eg,eb,er⟩:=a4q ei;have ht:ts[i]? = some ts[i]:=jC aS;refine .inr ⟨(F.go i _ ht).1,fun ag H'=>∃ aG Si aE,Rel X.K B aG ag H' (a6++ps) Si aE/\forL g u (ts.drop (i+1)) aG=some (fl,aa),fun ag H' h=>⟨ts.length - (i+1),by omega,rfl,aS,h⟩,fun x H' y=>?_⟩;obtain ⟨S',ex,rx⟩:=(F.go i _ ht).2 x H' y;refine ⟨aG,a6++ps,S',aE,_,(Ri.ext ex).push rx,s2,eg,fun bM H3 S3 aK R3=>⟨s2,a6++ps,S3,aK,R3,fb,s3,eb,?_⟩⟩;cases fb with
  | next=>exact fun ag H' S' av R'=>⟨s3,S',av,R',er⟩
  | cont=>exact fun ag H' S' av R'=>⟨s3,S',av,R',er⟩
  | brk =>
   obtain ⟨rfl,rfl⟩:=er;exact fun ag H' S' av R'=>q ag H' S' av (R'.pick sub)
  | ret v =>
   obtain ⟨rfl,rfl⟩:=er
   exact fun v ag H' S' av R'=>q v ag H' S' av (R'.pick fun p hp=>by
    rcases ir.mp hp with rfl | z
    ·exact ie
    ·exact ij _ (sub p z))
 ·have dv:i=ts.length:=by omega
  subst dv;rw [lP] at ei;cases ei;exact .inl ⟨F.stop _ (ic _),q bG H2 Si aE (Ri.pick sub)⟩
end
section
variable {K:PySem.W.Frag} {B:Bas} {st:Sta} {σ:L2.St} {H H' S S':Hp} {ps ps2:List (V × T)} {as av:List Addr}
theorem Rel.a1f (r:Rel K B st σ H ps S as) {i:Nat} {t:T} (e:st.env[i]? = some (some (t,true))):∃ S',Rel K B { st with env:=st.env.set i (some (t,false)) } σ H ps S' as:=by
 obtain ⟨v,S',_,R⟩:=r.freeze e;exact ⟨S',R.drop⟩
theorem Rel.jq:∀ (aw:List Nat) {st:Sta} {S:Hp},Rel K B st σ H ps S as->∃ S',Rel K B { st with env:=jq aw st.env } σ H ps S' as
 | [],st,S,r=>⟨S,r⟩
 | i::l,st,S,r=>by
  unfold C.jq;rw [List.foldl_cons];split
  ·rename_i t f e;cases f with
   | true =>
    obtain ⟨S1,R1⟩:=r.a1f e;exact Rel.jq l R1
   | false =>
    have e2:st.env.set i (some (t,false))=st.env:=by
     apply mL;intro j
     by_cases aL:i=j
     ·subst aL;rw [iM (iE.mp e).1,e]
     ·rw [iJ aL]
    rw [e2];exact Rel.jq l r
  ·exact Rel.jq l r
noncomputable def Fj (env:List Slot):Nat->List Slot
 | 0=>env
 | n+1=>match (Fj env n)[n]? with
  | some (some (t,_))=>(Fj env n).set n (some (t,false))
  | _=>Fj env n
theorem K7 (env:List Slot):∀ n,(Fj env n).length=env.length
 | 0=>rfl
 | n+1=>by
  rw [Fj];split
  ·rw [jG]; exact K7 env n
  ·exact K7 env n
theorem Jo (env:List Slot):∀ (n j:Nat),(Fj env n)[j]? = if j<n then (env[j]?).map Yk else env[j]?
 | 0,j=>by rw [hV (lQ _)]; rfl
 | n+1,j=>by
  have dO:=Jo env n n;rw [hV (jM _)] at dO;have f6:=Jo env n j;rw [Fj,dO]
  by_cases hj:j=n
  ·subst hj;rw [hU (jZ _)];cases z:env[j]? with
   | none=>simp only [z,Option.map_none]; rw [dO,z]
   | some s =>
    have hl:j<(Fj env j).length:=by rw [K7]; exact (iE.mp z).1
    cases s with
    | none=>simp only [Option.map_some]; rw [dO,z]; rfl
    | some p=>obtain ⟨t,f⟩:=p; simp only [Option.map_some]; rw [iM hl]; rfl
  ·have e1:(if j<n+1 then (env[j]?).map Yk else env[j]?)=(if j<n then (env[j]?).map Yk else env[j]?):=by
    by_cases aS:j<n
    ·rw [hU aS,hU (mI aS)]
    ·rw [hV aS,hV (by omega)]
   rw [e1,<- f6];split
   ·rw [iJ (Ne.symm hj)]
   ·rfl
theorem Zo (env:List Slot):Fj env env.length=env.map Yk:=by
 apply mL;intro j;rw [Jo,jD]
 by_cases hj:j<env.length
 ·rw [hU hj]
 ·rw [hV hj,List.getElem?_eq_none (jW hj)]; rfl
theorem Rel.Fj (r:Rel K B st σ H ps S as):∀ n,∃ S',Rel K B { st with env:=C.Fj st.env n } σ H ps S' as
 | 0=>⟨S,r⟩
 | n+1=>by
  obtain ⟨S1,R1⟩:=Rel.Fj r n;rw [C.Fj];split
  ·rename_i t f e;cases f with
   | true=>exact R1.a1f e
   | false =>
    have e2:(C.Fj st.env n).set n (some (t,false))=C.Fj st.env n:=by
     apply mL;intro j
     by_cases aL:n=j
     ·subst aL;rw [iM (iE.mp e).1,e]
     ·rw [iJ aL]
    rw [e2];exact ⟨S1,R1⟩
  ·exact ⟨S1,R1⟩
theorem Rel.jt (r:Rel K B st σ H ps S as):∃ S',Rel K B (jt st) σ H ps S' as:=by
 obtain ⟨S',R⟩:=r.Fj st.env.length;rw [Zo] at R;exact ⟨S',R⟩
def Ur (st:Sta):Prop:=∀ (i:Nat) t,st.env[i]?≠some (some (t,true))
theorem vp (st:Sta):Ur (C.jt st):=fun i t e=>by
 unfold C.jt at e;rw [jD] at e;cases z:st.env[i]? with
 | none=>rw [z] at e; cases e
 | some s =>
  rw [z] at e;cases s with
  | none=>cases e
  | some p=>obtain ⟨t,f⟩:=p; cases e
theorem Rel.rebase (r:Rel K B st σ H ps S as) (n:Ur st):Rel K ⟨S,as,H⟩ st σ H ps S as :=
 ⟨r.sub,⟨Same.refl _,nol,fun p o a b c=>⟨a,b,c⟩⟩,fun i t f e=>by
  obtain ⟨v,h1,h2,_⟩:=r.slots i t f e;exact ⟨v,h1,h2,fun z=>by subst z; exact absurd e (n i t)⟩,r.apart,r.sto,r.pend,r.len⟩
end
theorem Zz {g:G} {c:M Bool} {e:M T} {t:T} {r acc us:List T} {s s':Sta} (h:Fl g c e (t::r) s acc=some (us,s')):∃ s1 b s2,g t s=some s1/\c s1=some (b,s2) /\
  ((b=true/\∃ u s3,e s2=some (u,s3)/\acc.length<lim/\Fl g c e r (jt s3) (acc++[u])=some (us,s'))\/(b=false/\Fl g c e r (jt s2) acc=some (us,s'))):=by
 rw [Fl] at h;split at h
 ·rename_i s1 e1;split at h
  ·rename_i s2 e2;split at h
   ·rename_i u s3 e3;split at h
    ·rename_i hl; exact ⟨s1,true,s2,e1,e2,.inl ⟨rfl,u,s3,e3,hl,h⟩⟩
    ·cases h
   ·cases h
  ·rename_i s2 e2; exact ⟨s1,false,s2,e1,e2,.inr ⟨rfl,h⟩⟩
  ·cases h
 ·cases h
theorem a0f {nv:Nat} {aw:List Nat} {g:G} {it:M (List T)} {c:M Bool} {e:M T} {s s':Sta} {v:T} (h:qm nv aw g it c e s=some (v,s')):∃ ts s1 us s2,it s=some (ts,s1) /\
  Fl g c e ts ⟨List.replicate nv none++aw.map (fun i=>((jq aw s1.env)[i]?).getD none),s1.sto⟩ []=some (us,s2)/\v=.lst us/\s'=⟨jq aw s1.env,s2.sto⟩:=by
 unfold qm at h;split at h
 ·rename_i ts s1 e1;dsimp only at h;split at h
  ·rename_i us s2 e2; cases h; exact ⟨ts,s1,us,s2,e1,e2,rfl,rfl⟩
  ·cases h
 ·cases h
section
variable {K:PySem.W.Frag} {B:Bas} {st:Sta} {σ:L2.St} {H H' S S':Hp} {ps ps2:List (V × T)} {as av:List Addr} {D:Addr} {ob:HO}
theorem Hq.mem {sto:List SO} (r:Hq K S as H sto) {a:Addr} (h:a∈as):∃ o,H a=some o:=by
 obtain ⟨n,hn⟩:=List.getElem?_of_mem h;have hl:=(iE.mp hn).1;rw [r.len] at hl;obtain ⟨a',h1,h2,h3⟩:=r.at' n _ (jC hl);rw [hn] at h1; cases h1;exact h3.there
theorem Rel.fresh (r:Rel K B st σ H ps S as) (h:H D=none):B.H D=none/\S D=none/\D∉as/\Jm st σ D:=by
 have sD:S D=none:=r.sub.free h;have nD:D∉as:=fun z=>by obtain ⟨o,e⟩:=r.sto.mem z; rw [h] at e; cases e
 refine ⟨?_,sD,nD,fun j u e1 e2=>?_⟩
 ·cases q:B.H D with
  | none=>rfl
  | some o =>
   have b1:B.S D=none:=by
    cases z:B.S D with
    | none=>rfl
    | some u=>have:=r.grow.same _ _ z; rw [sD] at this; cases this
   have b2:D∉B.as:=fun z=>by obtain ⟨l,e⟩:=r.grow.more; exact nD (by rw [e]; exact kq _ z)
   have:=(r.grow.keep D o q b1 b2).1;rw [h] at this; cases this
 ·obtain ⟨v,h1,_,h3⟩:=r.slots j u true e1;rw [e2] at h1; cases h1;obtain ⟨p,ep,o⟩:=h3 rfl;cases ep;obtain ⟨ob,ho⟩:=o.own.there;rw [h] at ho; cases ho
theorem Rel.ae3 (r:Rel K B st σ H ps S as) (bD:B.H D=none) (sD:S D=none) (nD:D∉as) (no:Jm st σ D):Rel K B st σ (upd H D ob) ps S as:=by
 have ne:∀ b u,S b=some u->b≠D:=fun b u e z=>by subst z; rw [sD] at e; cases e
 refine ⟨fun b u e=>by rw [gw (ne b u e)]; exact r.sub _ _ e,⟨r.grow.same,r.grow.more,fun p o x y z=>?_⟩,fun i t f e=>?_,r.apart,⟨r.sto.len,r.sto.nd,fun n so e=>?_⟩,r.pend,r.len⟩
 ·obtain ⟨a,b,c⟩:=r.grow.keep p o x y z;exact ⟨by rw [gw (fun w=>by subst w; rw [bD] at x; cases x)]; exact a,b,c⟩
 ·obtain ⟨v,h1,h2,h3⟩:=r.slots i t f e;refine ⟨v,h1,h2,fun z=>?_⟩;obtain ⟨p,rfl,o⟩:=h3 z;have n:p≠D:=fun w=>by subst w; subst z; exact no i t e h1
  exact ⟨p,rfl,o.own.mono (Same.refl _) (gw n).symm,o.out,o.nas,o.new⟩
 ·obtain ⟨a,h1,h2,h3⟩:=r.sto.at' n so e;exact ⟨a,h1,h2,h3.mono (Same.refl _) (gw (fun w=>by subst w; exact nD (jE h1))).symm⟩
theorem Rel.aaj (r:Rel K B st σ H ps S as) (no:Ur st) (sD:S D=none) (nD:D∉as):Rel K ⟨S,as,upd H D ob⟩ st σ (upd H D ob) ps S as:=by
 have ne:∀ b u,S b=some u->b≠D:=fun b u e z=>by subst z; rw [sD] at e; cases e
 refine ⟨fun b u e=>by rw [gw (ne b u e)]; exact r.sub _ _ e,⟨Same.refl _,nol,fun p o x y z=>⟨x,y,z⟩⟩,fun i t f e=>?_,r.apart,⟨r.sto.len,r.sto.nd,fun n so e=>?_⟩,r.pend,r.len⟩
 ·obtain ⟨v,h1,h2,_⟩:=r.slots i t f e;exact ⟨v,h1,h2,fun z=>by subst z; exact absurd e (no i t)⟩
 ·obtain ⟨a,h1,h2,h3⟩:=r.sto.at' n so e;exact ⟨a,h1,h2,h3.mono (Same.refl _) (gw (fun w=>by subst w; exact nD (jE h1))).symm⟩
end
theorem Gb:∀ (aw:List Nat) (env:List Slot) (k:Nat),(∀ t,env[k]?≠some (some (t,true)))->∀ t,(jq aw env)[k]?≠some (some (t,true))
 | [],env,k,h=>h
 | i::l,env,k,h=>by
  have e:jq (i::l) env=jq l (match env[i]? with | some (some (t,_))=>env.set i (some (t,false)) | _=>env):=rfl;rw [e];refine Gb l _ k fun t=>?_;split
  ·rename_i t' f e'
   by_cases hk:i=k
   ·subst hk;rw [iM (iE.mp e').1];intro z; cases z
   ·rw [iJ hk]; exact h t
  ·exact h t
theorem G3:∀ (aw:List Nat) (env:List Slot) (k:Nat),k∈aw->∀ t,(jq aw env)[k]?≠some (some (t,true))
 | [],env,k,h=>by simp at h
 | i::l,env,k,h=>by
  have e:jq (i::l) env=jq l (match env[i]? with | some (some (t,_))=>env.set i (some (t,false)) | _=>env):=rfl;rw [e];rcases ir.mp h with rfl | h'
  ·refine Gb l _ k fun t=>?_;split
   ·rename_i t' f e';rw [iM (iE.mp e').1];intro z; cases z
   ·rename_i hx;intro z;exact hx _ _ z
  ·exact G3 l _ k h'
def gE (K:PySem.W.Frag) (g:G):TG:=fun v σ H Q=>∃ B,gOf K B g v σ H Q
def cE (K:PySem.W.Frag) (c:M Bool):TT:=fun σ H Q=>∃ B,cOf K B c σ H Q
def eE (K:PySem.W.Frag) (e:M T):TE:=fun σ H Q=>∃ B,tOf K B e σ H Q
theorem pgE {X:Cx} {tg:Expr} {g:G} (h:∀ B,PG X tg (gOf X.K B g)):PG X tg (gE X.K g):=fun pins s σ H x u Q I r ⟨B,q⟩=>h B pins s σ H x u Q I r q
theorem peE {X:Cx} {e:Expr} {m:M T} (h:∀ B,PE X e (tOf X.K B m)):PE X e (eE X.K m):=fun pins s σ H Q I ⟨B,q⟩=>h B pins s σ H Q I q
theorem rm {X:Cx}:PTs X [] (cE X.K p7):=fun pins s σ H Q I z9=>by
 obtain ⟨B,st,ps,S,as,R,b,aa,e,q⟩:=z9;cases e;exact a0h pins s σ H Q I (q H S as R)
section
variable {X:Cx} {scope:Scope} {N:List Str}
inductive CI (K:PySem.W.Frag) (B:Bas) (g:G) (c:M Bool) (e:M T) (ts us:List T) (env:List Slot) (s2:Sta) (σ:L2.St) (pp:List (V × T)) (D:Addr) (i m:Nat) (ag:L2.St) (H':Hp):Prop where
 | mk (aG:Sta) (Si:Hp) (aE:List Addr) (acc:List T) (aH:List V) (hm:m=ts.length - i) (hi:i<=ts.length) (Ri:Rel K ⟨Si,aE,H'⟩ aG ag H' [] Si aE) (no:Ur aG) (Ro:Rel K B ⟨env,aG.sto⟩ σ H' pp Si aE) (hD:H' D=some (.lst aH)) (sD:Si D=none) (nD:D∉aE) (rA:qb K Si aE aH acc) (ei:Fl g c e (ts.drop i) aG acc=some (us,s2)):CI K B g c e ts us env s2 σ pp D i m ag H'
theorem Px {B:Bas} {nv:Nat} {aw:List Nat} {env:List Slot} {aY:List SO} {σ:L2.St} {H1 S1:Hp} {af:List Addr} {pp:List (V × T)} {D:Addr}
  (hN:N.length=nv+aw.length) (aO:∀ (j k:Nat),aw[j]? = some k->∃ x,N[nv+j]? = some x/\X.N[k]? = some x/\a78 X scope x)
  (R1:Rel X.K B ⟨env,aY⟩ σ H1 pp S1 af) (cf:∀ k∈aw,∀ t,env[k]?≠some (some (t,true))) (hD:H1 D=none) :
  ∃ aW:L2.St,aW.length=N.length/\(∀ (i:Nat) (v:V) (x:Str),aW[i]? = some (some v)->N[i]? = some x->Vis (relabel scope X.env) x->∃ k:Nat,X.N[k]? = some x/\σ[k]? = some (some v)/\a78 X scope x) /\
   Rel X.K ⟨S1,af,upd H1 D (.lst [])⟩ ⟨List.replicate nv none++aw.map (fun i=>(env[i]?).getD none),aY⟩ aW (upd H1 D (.lst [])) [] S1 af/\Ur ⟨List.replicate nv none++aw.map (fun i=>(env[i]?).getD none),aY⟩ /\
   Rel X.K B ⟨env,aY⟩ σ (upd H1 D (.lst [])) pp S1 af:=by
 obtain ⟨bD,sD1,nD1,noD⟩:=R1.fresh hD
 have cm:∀ (i:Nat) s,(List.replicate nv (none:Slot)++aw.map (fun i=>(env[i]?).getD none))[i]? = some (some s)->∃ j k,i=nv+j/\aw[j]? = some k/\env[k]? = some (some s):=fun i s h=>by
  by_cases hi:i<nv
  ·rw [jJ (by rw [jF]; exact hi)] at h;have:=mK (jE h); cases this
  ·rw [jO (by rw [jF]; exact jW hi),jF,jD] at h;cases z:aw[i - nv]? with
   | none=>rw [z] at h; cases h
   | some k =>
    rw [z] at h;refine ⟨i - nv,k,by omega,z,?_⟩;cases w:env[k]? with
    | none=>simp [w] at h
    | some s'=>simp [w] at h; rw [h]
 have sig:∀ (j k:Nat) v,aw[j]? = some k->σ[k]? = some (some v)->(List.replicate nv (none:Option V)++aw.map (fun i=>(σ[i]?).getD none))[nv+j]? = some (some v):=fun j k v h1 h2=>by
  rw [jO (by rw [jF]; omega),jF,Nat.add_sub_cancel_left,jD,h1];simp [h2]
 refine ⟨List.replicate nv none++aw.map (fun i=>(σ[i]?).getD none),by rw [il,jF,hZ,hN],fun i v x h1 h2 _=>?_,?_⟩
 ·by_cases hi:i<nv
  ·rw [jJ (by rw [jF]; exact hi)] at h1;have:=mK (jE h1); cases this
  ·rw [jO (by rw [jF]; exact jW hi),jF,jD] at h1;cases z:aw[i - nv]? with
   | none=>rw [z] at h1; cases h1
   | some k =>
    rw [z] at h1;obtain ⟨y,n1,n2,ck⟩:=aO _ _ z;have e:nv+(i - nv)=i:=by omega
    rw [e,h2] at n1; cases n1;refine ⟨k,n2,?_,ck⟩;cases w:σ[k]? with
    | none=>simp [w] at h1
    | some s'=>simp [w] at h1; rw [h1]
 refine ⟨?_,?_,?_⟩
 ·refine Rel.aaj (B:=B) (H:=H1) ⟨R1.sub,R1.grow,fun i t f h=>?_,fun i j t u p hi hj=>?_,R1.sto,(fun p hp=>by cases hp),?_⟩ (fun i t h=>?_) sD1 nD1
  ·obtain ⟨j,k,rfl,hk,ek⟩:=cm i _ h;obtain ⟨v,h1,h2,h3⟩:=R1.slots k t f ek;exact ⟨v,sig j k v hk h1,h2,h3⟩
  ·obtain ⟨j,k,rfl,hk,ek⟩:=cm i _ hi;exact absurd ek (cf k (jE hk) t)
  ·show (List.replicate nv (none:Option V)++aw.map _).length=(List.replicate nv (none:Slot)++aw.map _).length;rw [il,il,jF,jF,hZ,hZ]
  ·obtain ⟨j,k,rfl,hk,ek⟩:=cm i _ h;exact absurd ek (cf k (jE hk) t)
 ·intro i t h;obtain ⟨j,k,rfl,hk,ek⟩:=cm i _ h;exact absurd ek (cf k (jE hk) t)
 ·exact R1.ae3 bD sD1 nD1 noD
theorem Z8 {B:Bas} {nv:Nat} {aw:List Nat} {g:G} {c:M Bool} {e:M T} {ts us:List T} {env:List Slot} {aY:List SO} {s2:Sta} {σ:L2.St} {H1 S1:Hp} {af:List Addr} {ps a6:List (V × T)} {J:It} {Q:VK}
  (hN:N.length=nv+aw.length) (hv:∀ i x,i<nv->N[i]? = some x->True)
  (aO:∀ (j k:Nat),aw[j]? = some k->∃ x,N[nv+j]? = some x/\X.N[k]? = some x/\a78 X scope x)
  (R1:Rel X.K B ⟨env,aY⟩ σ H1 (a6++ps) S1 af) (cf:∀ k∈aw,∀ t,env[k]?≠some (some (t,true)))
  (facts:∀ S as H,Same B.S S->(∃ l,as=B.as++l)->(∀ p∈a6,Rep X.K S as p.1 p.2)->Same S H->Hu X.K S as H J ts)
  (hc:Fl g c e ts ⟨List.replicate nv none++aw.map (fun i=>(env[i]?).getD none),aY⟩ []=some (us,s2))
  (fin:∀ D H' S' av,Rel X.K B ⟨env,s2.sto⟩ σ H' (a6++ps) S' av->Xb X.K B S' av H' D (.lst us)->Jm ⟨env,s2.sto⟩ σ D->Q (.ref D) H') :
  Mr X scope N (gE X.K g) (cE X.K c) (eE X.K e) σ J H1 Q:=by
 intro D hD;obtain ⟨bD,sD1,nD1,noD⟩:=R1.fresh hD;obtain ⟨aW,z1,z2,z3,z4,z5⟩:=Px hN aO R1 cf hD;refine ⟨aW,z1,z2,fun i m ag H'=>CI X.K B g c e ts us env s2 σ (a6++ps) D i m ag H',⟨ts.length,.mk _ S1 af [] [] (by simp) (iZ _) z3 z4 z5 dj sD1 nD1 .nil hc⟩,?_⟩;rintro i m ag H' ⟨aG,Si,aE,acc,aH,rfl,hi,Ri,no,Ro,hD',sD,nD,rA,ei⟩;have F:=facts Si aE H' Ro.grow.same Ro.grow.more (fun p hp=>Ro.pend p (kq _ hp)) Ri.sub
 by_cases aS:i<ts.length
 ·rw [kN aS] at ei;obtain ⟨s3,b,s4,eg,ec,er⟩:=Zz ei;have ht:ts[i]? = some ts[i]:=jC aS;refine .inr ⟨(F.go i _ ht).1,fun x H2 y=>?_⟩;obtain ⟨S2,ex,rx⟩:=(F.go i _ ht).2 x H2 y;refine ⟨⟨Si,aE,H'⟩,aG,[],S2,aE,_,(Ri.ext ex).push rx,s3,eg,fun bM H3 S3 aK R3=>⟨⟨Si,aE,H'⟩,s3,[],S3,aK,R3,b,s4,ec,fun H4 S4 cX R4=>?_⟩⟩;rcases er with ⟨rfl,w,s5,ee,hlen,erest⟩ | ⟨rfl,erest⟩
  ·refine a1l ⟨⟨Si,aE,H'⟩,s4,[],S4,cX,R4,w,s5,ee,fun y H5 S5 cU R5=>?_⟩;obtain ⟨S6,R6⟩:=R5.jt;obtain ⟨k1,k2,k3⟩:=R6.grow.keep D _ hD' sD nD;have dC:=Ro.call R6.grow R6.sub R6.sto;refine ⟨aH,k1,?_,ts.length - (i+1),by omega,.mk (jt s5) S6 cU (acc++[w]) (aH++[y]) rfl aS (R6.drop.aaj (vp _) k2 k3) (vp _) (dC.ae3 bD k2 k3 noD) dj k2 k3 ((rA.mono R6.grow.same R6.grow.more).append (.cons R6.top .nil)) erest⟩;rw [rA.length]; exact iD hlen lg
  ·refine Zw ?_;obtain ⟨S6,R6⟩:=R4.jt;obtain ⟨k1,k2,k3⟩:=R6.grow.keep D _ hD' sD nD;have dC:=Ro.call R6.grow R6.sub R6.sto;exact ⟨ts.length - (i+1),by omega,.mk (jt s4) S6 cX acc aH rfl aS (R6.rebase (vp _)) (vp _) dC k1 k2 k3 (rA.mono R6.grow.same R6.grow.more) erest⟩
 ·have dv:i=ts.length:=by omega
  subst dv;rw [lP] at ei;cases ei;exact .inl ⟨F.stop _ (ic _),fin D H' Si aE Ro ⟨⟨aH,hD',rA⟩,sD,nD,bD⟩ noD⟩
theorem Rel.give {K:PySem.W.Frag} {B:Bas} {st:Sta} {σ:L2.St} {H S:Hp} {ps:List (V × T)} {as:List Addr} {p:Addr} {t:T} (r:Rel K B st σ H ps S as) (o:Xb K B S as H p t) (no:Jm st σ p):∃ S',Rel K B st σ H ((.ref p,t)::ps) S' as:=by
 obtain ⟨ob,ho⟩:=o.own.there;have sS:Same S (upd S p ob):=Same.upd o.out ob
 have rep:Rep K (upd S p ob) as (.ref p) t:=by
  have w:=o.own;cases t with
  | lst ts=>obtain ⟨vs,h,q⟩:=w; rw [ho] at h; cases h; exact .lst (SqL.of dj) (q.mono sS nol)
  | dic ts=>obtain ⟨vs,h,q⟩:=w; rw [ho] at h; cases h; exact .dic (.inl dj) (q.mono sS nol)
  | _=>exact w.elim
 have outs:∀ q,S q=none->q≠p->upd S p ob q=none:=fun q h n=>by rw [gw n]; exact h
 refine ⟨upd S p ob,Rel.push (v:=.ref p) (t:=t) ⟨?_,?_,?_,r.apart,?_,fun q hq=>(r.pend q hq).mono sS nol,r.len⟩ rep⟩
 ·intro b u q
  by_cases z:b=p
  ·subst z; rw [dj] at q; cases q; exact ho
  ·rw [gw z] at q; exact r.sub _ _ q
 ·refine ⟨r.grow.same.trans sS,r.grow.more,fun q w a b c=>?_⟩;obtain ⟨x,y,z⟩:=r.grow.keep q w a b c;refine ⟨x,outs q y fun n=>?_,z⟩;subst n; rw [o.new] at a; cases a
 ·intro j u f ej;obtain ⟨v',a1,a2,a3⟩:=r.slots j u f ej;refine ⟨v',a1,fun z=>(a2 z).mono sS nol,fun z=>?_⟩;subst z;obtain ⟨p',rfl,o'⟩:=a3 rfl;refine ⟨p',rfl,o'.own.mono sS rfl,outs p' o'.out fun n=>?_,o'.nas,o'.new⟩;subst n;exact no j u ej a1
 ·refine ⟨r.sto.len,r.sto.nd,fun n so en=>?_⟩;obtain ⟨a,a1,a2,a3⟩:=r.sto.at' n so en;refine ⟨a,a1,outs a a2 fun z=>?_,a3.mono sS rfl⟩;subst z;exact o.nas (jE a1)
theorem Vo {K:PySem.W.Frag} {B:Bas} {m:M T} {σ:L2.St} {H:Hp} {Q:VK} (h:tOf K B m σ H Q):fOf K B m σ H Q:=by
 obtain ⟨st,ps,S,as,R,t,aa,e,q⟩:=h;refine ⟨st,ps,S,as,R,t,aa,e,fun p H' S' av R' o n=>?_⟩;obtain ⟨S2,R2⟩:=R'.give o n;exact q _ H' S2 av R2
theorem wz {e:Expr} {B:Bas} {m:M T} (h:PE X e (fOf X.K B m)):PE X e (tOf X.K B m):=h.imp fun σ H Q=>Vo
variable {B:Bas} {nv:Nat} {aw:List Nat} {g:G} {it:M (List T)} {c:M Bool} {e:M T} {tg iter elt:Expr} {ifs:List Expr} {pos:Pos}
structure aag (X:Cx) (scope:Scope) (N:List Str) (nv:Nat) (aw:List Nat):Prop where
 len:N.length=nv+aw.length
 at':∀ (j k:Nat),aw[j]? = some k->∃ x,N[nv+j]? = some x/\X.N[k]? = some x/\a78 X scope x
theorem Vc (co:aag X scope N nv aw) (bB:∀ st ts aa,it st=some (ts,aa)->ts.length<=sizeLine) {σ:L2.St} {H:Hp} {Q:VK} (h:fOf X.K B (qm nv aw g it c e) σ H Q) :
  aaz X scope N (iOf X.K B it) (gE X.K g) (cE X.K c) (eE X.K e) σ H Q:=by
 obtain ⟨st,ps,S,as,R,t,aa,e,q⟩:=h;obtain ⟨ts,s1,us,s2,e1,e2,rfl,rfl⟩:=a0f e;refine ⟨st,ps,S,as,R,ts,s1,e1,bB _ _ _ e1,fun J H1 S1 af a6 R1 facts=>?_⟩;obtain ⟨S2,R2⟩:=R1.jq aw;exact Z8 co.len (fun _ _ _ _=>trivial) co.at' R2 (fun k hk=>G3 aw s1.env k hk) (fun S as H _ _=>facts S as H) e2 fun D H' S' av R' o n=>q D H' S' av (R'.pick fun p hp=>js _ hp) o n
theorem Bj (co:aag X scope N nv aw) (sc:Fp X scope N) (calm:X.calm=true) (hi:PI X tg iter (iOf X.K B it)) (bB:∀ st ts aa,it st=some (ts,aa)->ts.length<=sizeLine)
  (hg:∀ C s₀ H₀ ex pn,PG (kj X scope N C s₀ H₀ ex pn) tg (gE X.K g)) (hc:∀ C s₀ H₀ ex pn,PTs (kj X scope N C s₀ H₀ ex pn) ifs (cE X.K c)) (he:∀ C s₀ H₀ ex pn,PE (kj X scope N C s₀ H₀ ex pn) elt (eE X.K e))
  (hs:∀ x,foldedSetIterable iter X.env x=pure x:=by intro _; rfl):PE X (.ListComp elt [⟨tg,iter,ifs,0⟩] scope pos) (fOf X.K B (qm nv aw g it c e)) :=
 (a9n sc calm hi hg hc he hs).imp fun σ H Q h=>Vc co bB h
end
section
variable {X:Cx}
theorem Qy {f:Value->Value->Sem Value} {g:T->T->Option T} {r:R2} (h:OpR X f r)
  (k:∀ S as x y t u w,Rep X.K S as x t->Rep X.K S as y u->g t u=some w->∀ (H:Hp) (Q:VK),Same S H->(∀ v H' S',Ext S H S' H'->Rep X.K S' as v w->Q v H')->r x y H Q):OpT X f g:=by
 intro pins s σ H x y v u Q I rx ry z8;obtain ⟨S,as,t,w,z,sub,ht,hu,hf,q⟩:=z8;exact h pins s σ H x y v u Q I rx ry (k S as x y t w z ht hu hf H Q sub q)
structure OI (g:T->Option T):Prop where
 n:g .non=none
 b:∀ x,g (.bl x)=none
 s:∀ x,g (.str x)=none
 t:∀ x,g (.tup x)=none
 l:∀ x,g (.lst x)=none
 d:∀ x,g (.dic x)=none
 o:∀ x,g (.obj x)=none
 a:∀ x,g (.adr x)=none
theorem OI.int {g:T->Option T} {w t:T} (h:OI g) (e:g t=some w):∃ i,t=.int i:=by
 cases t with
 | int i=>exact ⟨i,rfl⟩
 | non=>exact j8 (h.n.symm.trans e)
 | bl x=>exact j8 ((h.b x).symm.trans e)
 | str x=>exact j8 ((h.s x).symm.trans e)
 | tup x=>exact j8 ((h.t x).symm.trans e)
 | lst x=>exact j8 ((h.l x).symm.trans e)
 | dic x=>exact j8 ((h.d x).symm.trans e)
 | obj x=>exact j8 ((h.o x).symm.trans e)
 | adr x=>exact j8 ((h.a x).symm.trans e)
theorem Bs {K:PySem.W.Frag} {S:Hp} {as:List Addr} {x y:V} {t u w:T} {g:T->T->Option T} {P:Prop} (ht:Rep K S as x t) (hu:Rep K S as y u) (hf:g t u=some w)
  (n1:∀ u,OI (g · u)) (n2:∀ i,OI (g (.int i))) (k:∀ i j,x=.int i->y=.int j->g (.int i) (.int j)=some w->P):P:=by
 obtain ⟨i,rfl⟩:=(n1 u).int hf;obtain ⟨j,rfl⟩:=(n2 i).int hf;cases ht; cases hu;exact k i j rfl rfl hf
theorem Nj:OpT X (binaryOp .Sub) a1a:=Qy abn fun S as x y t u w ht hu hf H Q sub q =>
 Bs (g:=a1a) ht hu hf (fun u=>⟨rfl,fun _=>rfl,fun _=>rfl,fun _=>rfl,fun _=>rfl,fun _=>rfl,fun _=>rfl,fun _=>rfl⟩) (fun i=>⟨rfl,fun _=>rfl,fun _=>rfl,fun _=>rfl,fun _=>rfl,fun _=>rfl,fun _=>rfl,fun _=>rfl⟩) fun i j ex ey hf=>by
 subst ex ey; cases hf;exact ⟨_,_,rfl,rfl,q _ H S (Ext.refl sub) (.int _)⟩
theorem Dy:OpT X (binaryOp .Mod) Mf:=Qy abx fun S as x y t u w ht hu hf H Q sub q =>
 Bs (g:=Mf) ht hu hf (fun u=>⟨rfl,fun _=>rfl,fun _=>rfl,fun _=>rfl,fun _=>rfl,fun _=>rfl,fun _=>rfl,fun _=>rfl⟩) (fun i=>⟨rfl,fun _=>rfl,fun _=>rfl,fun _=>rfl,fun _=>rfl,fun _=>rfl,fun _=>rfl,fun _=>rfl⟩) fun i j ex ey hf=>by
 subst ex ey;obtain ⟨hc,hf⟩:=Bw hf;cases hf; exact ⟨_,_,rfl,rfl,hc,q _ H S (Ext.refl sub) (.int _)⟩
def aef (i j:Int):Prop:=0<j/\(j<1073741824\/j.natAbs<fdl)
theorem a6j:OpR X (binaryOp .FloorDiv) (rI aef fun i j=>.int (i / j)):=opI fun i j _ _ _ _ _ hc q=>by
 have h1:(0:Int)<j:=hc.1
 have h2:j.natAbs<2 ^ 200:=by
  rcases hc.2 with h | h
  ·exact lM (show j.natAbs<1073741824 by omega) (by decide)
  ·exact h
 exact floordiv_int (by omega) (by rw [Int.fdiv_eq_ediv_of_nonneg i (by omega)]; exact q) (.inl (PyProof.noPylong_of_log2 (lM ((Nat.log2_lt (by omega)).mpr h2) (by decide))))
theorem W8:OpT X (binaryOp .FloorDiv) Ql:=Qy a6j fun S as x y t u w ht hu hf H Q sub q =>
 Bs (g:=Ql) ht hu hf (fun u=>⟨rfl,fun _=>rfl,fun _=>rfl,fun _=>rfl,fun _=>rfl,fun _=>rfl,fun _=>rfl,fun _=>rfl⟩) (fun i=>⟨rfl,fun _=>rfl,fun _=>rfl,fun _=>rfl,fun _=>rfl,fun _=>rfl,fun _=>rfl,fun _=>rfl⟩) fun i j ex ey hf=>by
 subst ex ey;obtain ⟨hc,hf⟩:=Bw hf;cases hf; exact ⟨_,_,rfl,rfl,hc,q _ H S (Ext.refl sub) (.int _)⟩
theorem K6:OpT X (binaryOp .Pow) Xg:=Qy adl fun S as x y t u w ht hu hf H Q sub q =>
 Bs (g:=Xg) ht hu hf (fun u=>⟨rfl,fun _=>rfl,fun _=>rfl,fun _=>rfl,fun _=>rfl,fun _=>rfl,fun _=>rfl,fun _=>rfl⟩) (fun i=>⟨rfl,fun _=>rfl,fun _=>rfl,fun _=>rfl,fun _=>rfl,fun _=>rfl,fun _=>rfl,fun _=>rfl⟩) fun i j ex ey hf=>by
 subst ex ey;obtain ⟨h,hf⟩:=Bw hf;cases hf; exact ⟨_,_,rfl,rfl,⟨h.1,by omega,by omega⟩,q _ H S (Ext.refl sub) (.int _)⟩
theorem Vs:OpT X (compareOp .Lt) ltT:=Qy afq fun S as x y t u w ht hu hf H Q sub q =>
 Bs (g:=ltT) ht hu hf (fun u=>⟨rfl,fun _=>rfl,fun _=>rfl,fun _=>rfl,fun _=>rfl,fun _=>rfl,fun _=>rfl,fun _=>rfl⟩) (fun i=>⟨rfl,fun _=>rfl,fun _=>rfl,fun _=>rfl,fun _=>rfl,fun _=>rfl,fun _=>rfl,fun _=>rfl⟩) fun i j ex ey hf=>by
 subst ex ey; cases hf;exact ⟨_,_,rfl,rfl,q _ H S (Ext.refl sub) (.bl _)⟩
theorem Ux:OpT X (compareOp .LtE) leT:=Qy aee fun S as x y t u w ht hu hf H Q sub q =>
 Bs (g:=leT) ht hu hf (fun u=>⟨rfl,fun _=>rfl,fun _=>rfl,fun _=>rfl,fun _=>rfl,fun _=>rfl,fun _=>rfl,fun _=>rfl⟩) (fun i=>⟨rfl,fun _=>rfl,fun _=>rfl,fun _=>rfl,fun _=>rfl,fun _=>rfl,fun _=>rfl,fun _=>rfl⟩) fun i j ex ey hf=>by
 subst ex ey; cases hf;exact ⟨_,_,rfl,rfl,q _ H S (Ext.refl sub) (.bl _)⟩
theorem a8e:OpT X (compareOp .Gt) gtT:=Qy af0 fun S as x y t u w ht hu hf H Q sub q =>
 Bs (g:=gtT) ht hu hf (fun u=>⟨rfl,fun _=>rfl,fun _=>rfl,fun _=>rfl,fun _=>rfl,fun _=>rfl,fun _=>rfl,fun _=>rfl⟩) (fun i=>⟨rfl,fun _=>rfl,fun _=>rfl,fun _=>rfl,fun _=>rfl,fun _=>rfl,fun _=>rfl,fun _=>rfl⟩) fun i j ex ey hf=>by
 subst ex ey; cases hf;exact ⟨_,_,rfl,rfl,q _ H S (Ext.refl sub) (.bl _)⟩
theorem a7o:OpT X (compareOp .GtE) geT:=Qy af4 fun S as x y t u w ht hu hf H Q sub q =>
 Bs (g:=geT) ht hu hf (fun u=>⟨rfl,fun _=>rfl,fun _=>rfl,fun _=>rfl,fun _=>rfl,fun _=>rfl,fun _=>rfl,fun _=>rfl⟩) (fun i=>⟨rfl,fun _=>rfl,fun _=>rfl,fun _=>rfl,fun _=>rfl,fun _=>rfl,fun _=>rfl,fun _=>rfl⟩) fun i j ex ey hf=>by
 subst ex ey; cases hf;exact ⟨_,_,rfl,rfl,q _ H S (Ext.refl sub) (.bl _)⟩
theorem Cg:UnT X (unaryOp .USub) Ey:=by
 intro pins s σ H x v Q I rx z8;obtain ⟨S,as,t,w,sub,ht,hf,q⟩:=z8;cases ht <;> simp only [Ey,reduceCtorEq] at hf
 cases hf;exact a7p pins s σ H _ v Q I rx ⟨_,rfl,q _ H S (Ext.refl sub) (.int _)⟩
noncomputable def ag0 (K:PySem.W.Frag):R2:=fun x y H Q=>∃ l b xs zs,x=.ref l/\y=.ref b/\SqL K H l xs/\SqL K H b zs/\xs.length+zs.length<=sizeLine/\∀ p,H p=none->Q (.ref p) (upd H p (.lst (xs++zs)))
theorem Ys:OpR X (binaryOp .Add) (ag0 X.K):=by
 intro pins s σ H x y v u Q I rx ry h;obtain ⟨l,b,xs,zs,rfl,rfl,hH,hB,hz,q⟩:=h;cases rx;cases ry;obtain ⟨its,r,p1,hl⟩:=I.list hH;obtain ⟨aD,r2,p2,eT⟩:=I.list hB;obtain ⟨⟨cls,dd,data,sl⟩,n,ho,hc,hd0,hd⟩:=id p1;obtain ⟨⟨cls2,bK,data2,bH⟩,n2,ho2,hc2,hd02,hd2⟩:=id p2;simp only at hc hd hc2 hd2;subst hc hd hc2 hd2
 refine concat_meets ⟨_,ho,rfl⟩ ⟨_,ho2,rfl⟩ noFill_list_add seq_list_add PySem.F.slot_list_add PySem.F.entry_list_add (PySem.F.args_list_add_2 _ _)
   (list_addW l b its.toArray aD.toArray n n2 dd bK sl bH (by rw [iB,iB,<- r.length,<- r2.length]; exact hz)) ⟨ho,ho2,?_⟩
 have ea:its.toArray++aD.toArray=(its++aD).toArray:=by simp
 rw [ea];exact ⟨.ref _,_,I.agw (t':=s.toks) (r.append r2) (by rw [il]; exact hz),rfl,q _ I.fresh⟩
noncomputable def acz (K:PySem.W.Frag):R2:=fun x y H Q=>∃ a b ys,x=.ref a/\y=.ref b/\SqT K H a []/\SqT K H b ys/\Q (.ref b) H
theorem a69:OpR X (binaryOp .Add) (acz X.K):=by
 intro pins s σ H x y v u Q I rx ry h;obtain ⟨a,b,ys,rfl,rfl,ha,hb,q⟩:=h;cases rx;cases ry;obtain ⟨its,r1,p1,_⟩:=I.tuple ha;obtain ⟨aD,r2,p2,_⟩:=I.tuple hb;cases r1;obtain ⟨⟨cls,dd,data,sl⟩,ho,hc,n,hd⟩:=id p1;obtain ⟨⟨cls2,bK,data2,bH⟩,ho2,hc2,n2,hd2⟩:=id p2;simp only at hc hd hc2 hd2;subst hc hd hc2 hd2
 exact concat_meets ⟨_,ho,rfl⟩ ⟨_,ho2,rfl⟩ noFill_tuple_add seq_tuple_add mB mC (mD _ _)
   (tuple_addW0 a b _ aD.toArray n n2 dd bK sl bH (by rfl)) ⟨ho,ho2,⟨.ref b,H,I,rfl,q⟩⟩
theorem jo:OpT X (binaryOp .Add) uo:=by
 intro pins s σ H x y v u Q I rx ry z8;obtain ⟨S,as,t,t2,w,sub,ht,hu,hf,q⟩:=z8;cases ht <;> first | exact nomatch (show none=some w from hf) | cases hu <;> first | exact nomatch (show none=some w from hf) | simp only [uo] at hf
 ·cases hf;exact acv pins s σ H _ _ v u Q I rx ry ⟨_,_,rfl,rfl,q _ H S (Ext.refl sub) (.int _)⟩
 ·split at hf
  ·rename_i hl; cases hf;exact X3 pins s σ H _ _ v u Q I rx ry ⟨_,_,rfl,rfl,ip (iK hl) lg,q _ H S (Ext.refl sub) (.str _)⟩
  ·cases hf
 ·rename_i a vs ts hs hr b ws us aR bZ;split at hf
  ·rename_i hl; cases hf;have hz:vs.length+ws.length<=sizeLine:=by rw [hr.length,bZ.length]; exact ip (iK hl) lg
   cases hr with
   | nil=>exact a69 pins s σ H _ _ v u Q I rx ry ⟨_,_,_,rfl,rfl,m6 sub hs,m6 sub aR,q _ H S (Ext.refl sub) (.tup aR bZ)⟩
   | @cons v0 t0 vs0 ts0 h1 h2 =>
    refine a98 pins s σ H _ _ v u Q I rx ry ⟨_,_,_,_,rfl,rfl,m6 sub hs,m6 sub aR,by simp,hz,fun z=>?_,fun z p hp=>?_⟩
    ·subst z;cases bZ;rw [iU] at q;exact q _ H S (Ext.refl sub) (.tup hs (.cons h1 h2))
    ·have x:=Ext.laid sub hp (.tup ((v0::vs0)++ws));exact q _ _ _ x (.tup (SqT.of dj) (((qb.cons h1 h2).append bZ).mono x.s nol))
  ·cases hf
 ·rename_i a vs ts hs hr b ws us aR bZ;split at hf
  ·rename_i hl; cases hf;have hz:vs.length+ws.length<=sizeLine:=by rw [hr.length,bZ.length]; exact ip (iK hl) lg
   refine Ys pins s σ H _ _ v u Q I rx ry ⟨_,_,_,_,rfl,rfl,jw sub hs,jw sub aR,hz,fun p hp=>?_⟩;have x:=Ext.laid sub hp (.lst (vs++ws));exact q _ _ _ x (.lst (SqL.of dj) ((hr.append bZ).mono x.s nol))
  ·cases hf
theorem aay (x:Str) (n:Int) (h:0<=n):Txt.mul x n=⟨((List.replicate n.toNat x.cps.toList).flatten).toArray⟩:=by
 have key:∀ (k:Nat) (acc:Array Nat),(List.replicate k x.cps).foldl (· ++ ·) acc=acc++((List.replicate k x.cps.toList).flatten).toArray:=by
  intro k
  induction k with
  | zero=>intro acc; simp
  | succ k ih =>
   intro acc;rw [lL,List.foldl_cons,ih,lL,mG];apply Array.ext';simp
 unfold Txt.mul
 by_cases h1:n<1
 ·have:n=0:=by omega
  subst this;rw [hU h1]; rfl
 ·rw [hV h1]
  by_cases h2:(n==1||x.length==0)=true
  ·rw [hU h2];rw [lR] at h2;rcases h2 with h2 | h2
   ·have:n=1:=by simpa using h2
    subst this;cases x; simp
   ·have h3:x.cps.size=0:=by simpa [Str.length] using h2
    obtain ⟨c⟩:=x;have h4:c = #[]:=Array.eq_empty_of_size_eq_zero h3;subst h4;congr 1;apply Array.ext';simp
  ·rw [hV h2,key];congr 1;apply Array.ext';simp
theorem Nf:OpT X (binaryOp .Mult) a3n:=by
 intro pins s σ H x y v u Q I rx ry z8;obtain ⟨S,as,t,t2,w,sub,ht,hu,hf,q⟩:=z8;cases ht <;> first | exact nomatch (show none=some w from hf) | cases hu <;> first | exact nomatch (show none=some w from hf) | simp only [a3n] at hf
 ·split at hf
  ·rename_i hb; cases hf;refine abl pins s σ H _ _ v u Q I rx ry ⟨_,_,rfl,rfl,?_,q _ H S (Ext.refl sub) (.int _)⟩;rw [lR] at hb;rcases hb with h | h
   ·exact .inl (of_decide_eq_true h)
   ·exact .inr (of_decide_eq_true h)
  ·cases hf
 ·rename_i z j;split at hf
  ·rename_i hb; cases hf;obtain ⟨t',rfl⟩:=rx;obtain ⟨fq,rfl⟩:=ry;refine SB.mul ⟨?_,fun _ _=>?_,fun _ _=>?_⟩ fun t3 k=>⟨.str (Txt.mul z j),H,I.tok _,⟨_,rfl⟩,?_⟩
   ·have h1:¬ j < -(2 ^ 63:Int):=by omega
    have h2:¬ j >= 2 ^ 63:=by omega
    rw [iC h1,iC h2]; rfl
   ·have h1:(z.length:Int)<=100:=by omega
    have h2:(100:Int)<=(2 ^ 63 - 1) / j:=by
     have hj:0<j:=by
      rcases lb 0 j with h | h
      ·exact h
      ·exfalso;have:j=0:=by omega
       subst this;rename_i a _; exact a (by decide)
     exact (Int.le_ediv_iff_mul_le hj).mpr (by omega)
    omega
   ·have h3:z.length * j.toNat<=100 * 1000:=Nat.mul_le_mul hb.2.2 (by omega);unfold Builtin.Str.tooLong;rw [sizeLine_eq];exact iC (by omega)
   ·rw [aay z j hb.1]; exact q _ H S (Ext.refl sub) (.str _)
  ·cases hf
end
section
variable {X:Cx} {B:Bas} {a b c e o:Expr} {m m1 m2:M T} {pos p:Pos}
theorem Lp (n:Nat) (i:Int):ixI n i=ixN n i:=rfl
theorem abq {K:PySem.W.Frag} {S:Hp} {as:List Addr} {y:V} {t:T} {q:L2.Key} (r:Rep K S as y t) (h:keyOf t=some q):y=kV q:=by
 cases r <;> simp only [keyOf,reduceCtorEq] at h <;> (cases h; rfl)
def af5:R2:=fun x y H Q=>∃ a v,x=.ref a/\ab8 H a y (some v)/\Q v H
theorem aa6 (hu:X.A.units+1<cLine):IxR X af5:=by
 intro value slice pins s σ H x y v u Q I rx ry z8 hs;obtain ⟨a,w,ex,g,q⟩:=z8;subst ex;cases rx;refine tail_any (Ti I g) slot_dict_getitem.lookup (a0x hu I g ry fun w' s' I' r'=>⟨w,H,I',r',q⟩) hs
theorem a3u (hu:X.A.units+1<cLine):IxR X (r2 X.K dw):=by
 intro value slice pins s σ H x y v u Q I rx ry z8 hs;obtain ⟨S,as,t,t2,w,sub,ht,hu2,hf,q⟩:=z8;cases ht with
 | @tup a vs ts h1 h2 =>
  cases hu2 <;> first | exact j8 hf | skip
  rename_i i;obtain ⟨j,e1,e2⟩:=kO.mp hf;obtain ⟨z,hz,rz⟩:=h2.get e2;refine ad2 value slice pins s σ H _ _ v u Q I rx ry ⟨a,vs,i,z,rfl,rfl,m6 sub h1,?_,q z H S (Ext.refl sub) rz⟩ hs;rw [Lp,<- h2.length] at e1;unfold atI; rw [e1]; exact hz
 | @lst a vs ts h1 h2 =>
  cases hu2 <;> first | exact j8 hf | skip
  rename_i i;obtain ⟨j,e1,e2⟩:=kO.mp hf;obtain ⟨z,hz,rz⟩:=h2.get e2;refine Td value slice pins s σ H _ _ v u Q I rx ry ⟨a,vs,i,z,rfl,rfl,jw sub h1,?_,q z H S (Ext.refl sub) rz⟩ hs;rw [Lp,<- h2.length] at e1;unfold atI; rw [e1]; exact hz
 | str z =>
  cases hu2 <;> first | exact j8 hf | skip
  rename_i i;obtain ⟨hl,hf⟩:=Bw hf;obtain ⟨j,e1,e2⟩:=kO.mp hf;obtain ⟨cc,e3,e4⟩:=iO.mp e2;subst e4;refine acu value slice pins s σ H _ _ v u Q I rx ry ⟨z,i,cc,rfl,rfl,ip (iK hl) lg,?_,q _ H S (Ext.refl sub) (.str _)⟩ hs;rw [Lp] at e1;unfold atI; rw [e1]; exact e3
 | @dic a ai ts h1 h2 =>
  obtain ⟨k,e1,e2⟩:=kO.mp hf;have ey:=abq hu2 e1;subst ey;rcases h2.get k with ⟨z,t',a1,a2,a3⟩ | ⟨_,a2⟩
  ·rw [e2] at a2; cases a2;exact aa6 hu value slice pins s σ H _ _ v u Q I rx ry ⟨a,z,rfl,.inl ⟨ai,k,Ag sub h1,rfl,a1.symm⟩,q z H S (Ext.refl sub) a3⟩ hs
  ·rw [e2] at a2; cases a2
 | _=>exact j8 hf
theorem jk (hu:X.A.units+1<cLine) (ha:PE X a (tOf X.K B m1)) (hb:PE X b (tOf X.K B m2)) (hs:Nv b):PE X (.Subscript a b pos) (tOf X.K B (mOp dw m1 m2)):=Vh (a9h (a3u hu) ha hb hs)
theorem lq:Rg X (.builtin "len") Ax:=by
 intro pins s σ H xs us Q I rs z8;obtain ⟨S,as,ts,w,sub,hr,hf,q⟩:=z8;cases hr with
 | nil=>simp only [Ax,reduceCtorEq] at hf
 | @cons x t cx ts' h1 h2 =>
  cases h2 with
  | cons h3 h4=>simp only [Ax,reduceCtorEq] at hf
  | nil =>
   cases h1 with
   | tup g1 g2=>simp only [Ax] at hf; cases hf; exact Br pins s σ H _ us Q I rs ⟨_,_,rfl,.inr (m6 sub g1),by rw [g2.length]; exact q _ H S (Ext.refl sub) (.int _)⟩
   | lst g1 g2=>simp only [Ax] at hf; cases hf; exact Br pins s σ H _ us Q I rs ⟨_,_,rfl,.inl (jw sub g1),by rw [g2.length]; exact q _ H S (Ext.refl sub) (.int _)⟩
   | str z =>
    simp only [Ax] at hf;split at hf
    ·rename_i hl; cases hf; exact Q6 pins s σ H _ us Q I rs ⟨_,rfl,ip (iK hl) lg,q _ H S (Ext.refl sub) (.int _)⟩
    ·cases hf
   | @dic a ai ts g1 g2 =>
    simp only [Ax] at hf; cases hf;obtain ⟨u,rfl,ru⟩:=rs.one;cases ru;exact adq I (Ag sub g1) fun t s' I'=>⟨.int ai.length,H,I',⟨t,rfl⟩,by rw [g2.length]; exact q _ H S (Ext.refl sub) (.int _)⟩
   | _=>simp only [Ax,reduceCtorEq] at hf
theorem vh:Rg X (.type "tuple") zp:=by
 intro pins s σ H xs us Q I rs z8;obtain ⟨S,as,ts,w,sub,hr,hf,q⟩:=z8;cases hr with
 | nil=>simp only [zp,reduceCtorEq] at hf
 | @cons x t cx ts' h1 h2 =>
  cases h2 with
  | cons h3 h4=>simp only [zp,reduceCtorEq] at hf
  | nil =>
   cases h1 with
   | @tup a vs ts g1 g2=>simp only [zp] at hf; cases hf; exact Dp pins s σ H _ us Q I rs ⟨_,_,rfl,.inr ⟨m6 sub g1,q _ H S (Ext.refl sub) (.tup g1 g2)⟩⟩
   | @lst a vs ts g1 g2 =>
    simp only [zp] at hf; cases hf;refine Dp pins s σ H _ us Q I rs ⟨_,_,rfl,.inl ⟨jw sub g1,fun p hp=>?_⟩⟩;have x:=Ext.laid sub hp (.tup vs);exact q _ _ _ x (.tup (SqT.of dj) (g2.mono x.s nol))
   | _=>simp only [zp,reduceCtorEq] at hf
theorem X8:Rg X (.type "list") R7:=by
 intro pins s σ H xs us Q I rs z8;obtain ⟨S,as,ts,w,sub,hr,hf,q⟩:=z8;cases hr with
 | nil=>simp only [R7,reduceCtorEq] at hf
 | @cons x t cx ts' h1 h2 =>
  cases h2 with
  | cons h3 h4=>simp only [R7,reduceCtorEq] at hf
  | nil =>
   cases h1 with
   | @tup a vs ts g1 g2 =>
    simp only [R7] at hf; cases hf;refine J2 pins s σ H _ us Q I rs ⟨_,_,rfl,.inr (m6 sub g1),fun p hp=>?_⟩;have x:=Ext.laid sub hp (.lst vs);exact q _ _ _ x (.lst (SqL.of dj) (g2.mono x.s nol))
   | @lst a vs ts g1 g2 =>
    simp only [R7] at hf; cases hf;refine J2 pins s σ H _ us Q I rs ⟨_,_,rfl,.inl (jw sub g1),fun p hp=>?_⟩;have x:=Ext.laid sub hp (.lst vs);exact q _ _ _ x (.lst (SqL.of dj) (g2.mono x.s nol))
   | _=>simp only [R7,reduceCtorEq] at hf
end
theorem Tc {i:Nat} {s s':Sta} {t:T} (h:yq i s=some (t,s')):s'=s/\((∃ xs f,s.env[i]? = some (some (.lst xs,f))/\t=.int xs.length)\/(∃ xs f,s.env[i]? = some (some (.dic xs,f))/\t=.int xs.length)):=by
 unfold yq at h;split at h
 ·rename_i xs f e; cases h; exact ⟨rfl,.inl ⟨xs,f,e,rfl⟩⟩
 ·rename_i xs f e; cases h; exact ⟨rfl,.inr ⟨xs,f,e,rfl⟩⟩
 ·cases h
section
variable {K:PySem.W.Frag} {B:Bas} {st:Sta} {σ:L2.St} {H S:Hp} {ps:List (V × T)} {as:List Addr}
theorem Rel.dictAt (r:Rel K B st σ H ps S as) {i:Nat} {ai:List (L2.Key × T)} {f:Bool} (e:st.env[i]? = some (some (.dic ai,f))):∃ p vs,σ[i]? = some (some (.ref p))/\Rd H p (.dK vs)/\Iw K S as vs ai:=by
 obtain ⟨v,h1,h2,h3⟩:=r.slots i _ f e;cases f with
 | false =>
  have h:=h2 rfl;cases h with
  | dic a b=>exact ⟨_,_,h1,Ag r.sub a,b⟩
 | true =>
  obtain ⟨p,rfl,o⟩:=h3 rfl;obtain ⟨vs,h,q⟩:=o.own;exact ⟨p,vs,h1,.inl h,q⟩
end
section
variable {X:Cx} {B:Bas} {a b c e o k d:Expr} {m mo mk md mv:M T} {pos p:Pos}
theorem En {i:Nat} {s:Sta} (h:Az i s=true):∃ ai f,s.env[i]? = some (some (.lst ai,f)):=by
 unfold Az at h;split at h
 ·rename_i ai f e; exact ⟨ai,f,e⟩
 ·cases h
end
theorem j4 {ms:M (List T)} {n:Nat} (h:∀ st ts aa,ms st=some (ts,aa)->ts.length<=n) (hn:n<=1000):∀ st ts aa,ms st=some (ts,aa)->ts.length<=1000:=fun st ts aa e=>ip (h st ts aa e) hn
theorem Am {m:M T}:∀ st ts aa,Bg m st=some (ts,aa)->ts.length<=sizeLine:=fun st ts aa e=>by
 unfold Bg at e;split at e
 ·split at e
  ·rename_i h; cases e; exact ip (iK h) lg
  ·cases e
 ·split at e
  ·rename_i h; cases e; exact ip (iK h) lg
  ·cases e
 ·cases e
theorem G6 {m:M T}:∀ st ts aa,Ad m st=some (ts,aa)->ts.length<=sizeLine:=fun st ts aa e=>by
 obtain ⟨n,_,h,rfl⟩:=Mj e;unfold rangeT;rw [hZ,jH];refine ip ?_ lg;show n.toNat<=1000000;omega
def qd (P:Program) (w:World) (K:PySem.W.Frag) (mg:Str->Option Value) (base:Heap) (x:Str) (k:Nat) (ps:List Str) (F:Fn):Prop :=
 ∃ f fd,Du P w K mg base CX0 k f fd ps (spF K ps.length F)/\Binds K fd ps []/\PySem.W.keepIn K (.ref f)=true/\mg x=some (.ref f)
theorem qd.mono {P:Program} {w:World} {K:PySem.W.Frag} {mg:Str->Option Value} {base:Heap} {x:Str} {j k:Nat} {ps:List Str} {F:Fn} (d:qd P w K mg base x j ps F) (h:j<=k):qd P w K mg base x k ps F:=by
 obtain ⟨f,fd,h1,h2⟩:=d;exact ⟨f,fd,h1.mono h,h2⟩
section
variable {X:Cx} {B:Bas} {a b c e o k:Expr} {m m1 m2:M T} {pos p:Pos} {es:List Expr} {ms:M (List T)} {F:Fn} {x:Str} {n:Nat} {pn:List Str}
theorem dh (D:qd X.prog X.w X.K X.mg X.base x n pn F) (hr:Cj n X.A) (hg:Gl X x)
  (ha:PA X (e::es) (aOf X.K B ms)) (hl:∀ st ts aa,ms st=some (ts,aa)->ts.length=pn.length) (aX:(x==("__debug__" : Str))=false:=by decide)
  (he:starEach (e::es) X.env=(false,eval e X.env)::starEach es X.env:=by rfl) (aN:(backTo pos (starEach es X.env)).any (·.1)=false:=by rfl) :
  PE X (.Call (.Name x p) (e::es) [] pos) (tOf X.K B (f9 F ms)):=by
 obtain ⟨f,fd,h1,h2,h3,h4⟩:=D;exact ab1 h1 hr hg h4 h3 h2 ha hl aX he aN
theorem Kl (h:PA X es (aOf X.K B ms)) (hm:∀ st ts aa,ms st=some (ts,aa)->ts.length<=1000):PE X (.List es pos) (fOf X.K B (gq (fun l=>some (.lst l)) ms)) :=
 (a2p h).imp fun σ H Q z9=>by
  obtain ⟨st,ps,S,as,R,t,aa,e,q⟩:=z9;obtain ⟨ts,e1,e2⟩:=G9 e;cases e2;refine ⟨st,ps,S,as,R,ts,aa,e1,fun vs H1 S1 af R1 rs=>⟨?_,fun p hp=>?_⟩⟩
  ·rw [rs.length]; exact iK (Em (hm _ _ _ e1))
  ·obtain ⟨bD,sD,nD,no⟩:=R1.fresh hp;exact q p _ S1 af (R1.ae3 bD sD nD no) ⟨⟨vs,dj,rs⟩,sD,nD,bD⟩ no
theorem Rel.listAt {K:PySem.W.Frag} {B:Bas} {st:Sta} {σ:L2.St} {H S:Hp} {ps:List (V × T)} {as:List Addr} (r:Rel K B st σ H ps S as) {i:Nat} {xs:List T} {f:Bool} (e:st.env[i]? = some (some (.lst xs,f))):∃ p vs,σ[i]? = some (some (.ref p))/\SqL K H p vs/\qb K S as vs xs:=by
 obtain ⟨v,h1,h2,h3⟩:=r.slots i _ f e;cases f with
 | false =>
  have h:=h2 rfl;cases h with
  | lst a b=>exact ⟨_,_,h1,jw r.sub a,b⟩
 | true =>
  obtain ⟨p,rfl,o⟩:=h3 rfl;obtain ⟨vs,h,q⟩:=o.own;exact ⟨p,vs,h1,SqL.of h,q⟩
theorem Cu (i:Nat) {st:Stmt} (h:PS X st (Xj (tBM X.K "list" K9 (Y8 i) (J3 (tOf X.K B m) a3q)))):PS X st (sOf X.K B (n6 i m)):=h.imp fun D σ H z9=>by
 obtain ⟨st,ps,S,as,R,fl,aa,e,q⟩:=z9;obtain ⟨hd,t,s1,xs,e1,e2,hl,rfl,rfl⟩:=Tf e;obtain ⟨bb,f0,e0⟩:=En hd;obtain ⟨p0,vs0,s0,q0,_⟩:=R.listAt e0;refine ⟨_,s0,.inl ⟨rfl,_,q0⟩,st,ps,S,as,R,t,s1,e1,fun v H1 S1 af R1=>?_⟩;obtain ⟨w,h1,_,h3⟩:=R1.slots i _ true e2;rw [s0] at h1; cases h1;obtain ⟨p',ep,ow⟩:=h3 rfl;cases ep;obtain ⟨vs,hH,h4⟩:=ow.own;exact ⟨p0,vs,v,rfl,rfl,hH,by rw [h4.length]; exact iD hl lg,q _ _ S1 af (R1.drop.turn e2 s0 ⟨_,dj,h4.append (.cons R1.top .nil)⟩)⟩
end
section
variable {X:Cx} {B:Bas} {a b c e o k:Expr} {m m1 m2:M T} {pos p:Pos}
theorem Qq {K:PySem.W.Frag} {S:Hp} {as:List Addr}:∀ {vs:List V} {ts:List T} {l:List Int},qb K S as vs ts->Xu ts=some l->vs=l.map V.int
 | _,[],l,h0,h=>by cases h0; cases h; rfl
 | _,_::_,l,h0,h=>by
  cases h0 with | cons h1 h2=>?_
  cases h1 <;> first | exact j8 h | skip
  obtain ⟨l',e1,e2⟩:=iO.mp h;subst e2;rw [Qq h2 e1]; rfl
theorem Lw {K:PySem.W.Frag} {S:Hp} {as:List Addr}:∀ {vs:List V} {ts:List T} {l:List Bool},qb K S as vs ts->Ip ts=some l->vs=l.map V.bl
 | _,_,l,.nil,h=>by cases h; rfl
 | _,_,l,.cons (t:=t) h1 h2,h=>by
  cases h1 <;> first | exact j8 h | skip
  obtain ⟨l',e1,e2⟩:=iO.mp h;subst e2;rw [Lw h2 e1]; rfl
theorem a5j {l:List Int} {us:List Value} (r:Vals (l.map V.int) us) {i:Nat} {v:Value} (h:us.toArray[i]? = some v):∃ t,v=.int (l.getD i 0) t:=by
 rw [List.getElem?_toArray] at h;have hi:i<(l.map V.int).length:=by rw [r.length]; exact (iE.mp h).1
 rw [hZ] at hi;have e:(l.map V.int)[i]? = some (.int l[i]):=by rw [jD,jC hi]; rfl
 obtain ⟨u,h1,t,h2⟩:=r.get e;rw [h] at h1; cases h1;exact ⟨t,by rw [h2,jS,jC hi]; rfl⟩
theorem a1x {l:List Bool} {us:List Value} (r:Vals (l.map V.bl) us) {i:Nat} {v:Value} (h:us.toArray[i]? = some v):v=.bool (l.getD i true):=by
 rw [List.getElem?_toArray] at h;have hi:i<(l.map V.bl).length:=by rw [r.length]; exact (iE.mp h).1
 rw [hZ] at hi;have e:(l.map V.bl)[i]? = some (.bl l[i]):=by rw [jD,jC hi]; rfl
 obtain ⟨u,h1,h2⟩:=r.get e;rw [h] at h1; cases h1;rw [h2,jS,jC hi]; rfl
theorem Inv.Az {pins:List (Addr × Obj)} {σ:L2.St} {H:Hp} {s:Shared} {a:Addr} {xs:List V} (I:L2.Inv X pins σ H s) (h:SqL X.K H a xs):a<s.heap.objs.size:=by
 obtain ⟨its,_,⟨o,n,h1,_⟩,_⟩:=I.list h;exact iq h1
theorem Yr (hc:X.calm=true):Rg X (.builtin "sum") abu:=by
 intro pins s σ H xs us Q I rs z8;obtain ⟨S,as,ts,w,sub,hr,hf,q⟩:=z8;cases hr with
 | nil=>exact j8 hf
 | @cons x t cx ts' h1 h2 =>
  cases h2 with
  | cons h3 h4=>cases h1 <;> exact j8 hf
  | nil =>
   cases h1 with
   | @lst a vs ts g1 g2 =>
    obtain ⟨l,e1,e2⟩:=iO.mp hf;subst e2;have ev:=Qq g2 e1;subst ev;obtain ⟨u,rfl,ru⟩:=rs.one;cases ru;obtain ⟨its,r,p,hz⟩:=I.list (jw sub g1);have aS:=Inv.Az I (jw sub g1);refine call_sum_walkG (kC p.isList ?_);refine ⟨_,_,_,_,_,_,fun i=>l.getD i 0,rfl,Walks.list (A:=X.A.in1) (show X.A.in1.handled=none from I.ok.hd hc) s.heap.objs.size a (iQ aS) its.toArray,And.intro ⟨_,iI _ rfl,rfl,rfl⟩ (PlainL.keeps p fun b o e=>ix _ e).isList,fun b hb=>?_,fun i v hv=>a5j r hv,fun h' tk t' hk=>?_⟩
    ·rw [jU];rcases ir.mp hb with rfl | hb
     ·exact jZ _
     ·rw [ik.mp hb]; exact mI aS
    ·have hl:its.toArray.size=l.length:=by rw [iB,<- r.length,hZ]
     rw [hl,preSum_getD,lS];exact ⟨.int l.sum,H,I.kept (h':=h') (t':=tk) fun b u e=>hk b u (by simp; exact iQ (iq e)) (ix _ e),⟨_,rfl⟩,q _ H S (Ext.refl sub) (.int _)⟩
   | _=>exact j8 hf
theorem all_range (l:List Bool) (d:Bool):((List.range l.length).all fun i=>l.getD i d)=l.all id:=by
 induction l with
 | nil=>rfl
 | cons x r ih =>
  rw [iA,List.range_succ_eq_map,lN,List.all_map,lN,<- ih];rfl
theorem Jx (hc:X.calm=true):Rg X (.builtin "all") a9r:=by
 intro pins s σ H xs us Q I rs z8;obtain ⟨S,as,ts,w,sub,hr,hf,q⟩:=z8;cases hr with
 | nil=>exact j8 hf
 | @cons x t cx ts' h1 h2 =>
  cases h2 with
  | cons h3 h4=>cases h1 <;> exact j8 hf
  | nil =>
   cases h1 with
   | @lst a vs ts g1 g2 =>
    obtain ⟨l,e1,e2⟩:=iO.mp hf;subst e2;have ev:=Lw g2 e1;subst ev;obtain ⟨u,rfl,ru⟩:=rs.one;cases ru;obtain ⟨its,r,p,hz⟩:=I.list (jw sub g1);have aS:=Inv.Az I (jw sub g1);refine call_all_walk (kC p.isList ?_);refine ⟨_,_,_,_,_,_,fun i=>l.getD i true,rfl,Walks.list (A:=X.A.in1) (show X.A.in1.handled=none from I.ok.hd hc) s.heap.objs.size a (iQ aS) its.toArray,And.intro ⟨_,iI _ rfl,rfl,rfl⟩ (PlainL.keeps p fun b o e=>ix _ e).isList,fun i v s Q E hv hq=>?_,fun h' tk hk=>?_⟩
    ·have e:=a1x r hv;subst e;exact kr hq
    ·have hl:its.toArray.size=l.length:=by rw [iB,<- r.length,hZ]
     rw [hl,all_range];exact ⟨.bl (l.all id),H,I.kept (h':=h') (t':=tk) fun b u e=>hk b u (by simp; exact iQ (iq e)) (ix _ e),rfl,q _ H S (Ext.refl sub) (.bl _)⟩
   | _=>exact j8 hf
noncomputable def tyOf:T->Option Value
 | .non=>some (.type "NoneType")
 | .bl _=>some (.type "bool")
 | .int _=>some (.type "int")
 | .str _=>some (.type "str")
 | .tup _=>some (.type "tuple")
 | .lst _=>some (.type "list")
 | .dic _=>some (.type "dict")
 | .obj _=>none
 | .adr _=>none
theorem ace {pins:List (Addr × Obj)} {σ:L2.St} {H S:Hp} {s:Shared} {as:List Addr} {x:V} {u c:Value} {t:T} {ty:Value} {b:Bool} {Q:Value->Shared->Prop} {E:Value->Shared->Prop} (I:L2.Inv X pins σ H s) (sub:Same S H) (rx:RelV x u) (r:Rep X.K S as x t) (br:tyOf t=some ty)
  (e:PySem.W.kitOne X.K ty c=some b) (h:∀ tk,Q (.bool b) { s with toks:=tk }):wpAny (model X.prog X.w) X.A (call (.builtin "isinstance") [u,c]) Q E s:=by
 cases r with
 | non=>cases br; exact Gk I rx .non e h
 | bl y=>cases br; exact Gk I rx (.bl y) e h
 | int y=>cases br; exact Gk I rx (.int y) e h
 | str y=>cases br; exact Gk I rx (.str y) e h
 | @tup a vs ts g1 g2 =>
  cases br;cases (show u=Value.ref a from rx);obtain ⟨its,_,⟨o,h1,h2,_⟩,_⟩:=I.tuple (m6 sub g1);exact jB PySem.W.kitx_tuple I.kIn ⟨o,h1,h2⟩ e (fun z=>nomatch z) h
 | @lst a vs ts g1 g2 =>
  cases br;cases (show u=Value.ref a from rx);obtain ⟨its,_,⟨o,n,h1,h2,_⟩,_⟩:=I.list (jw sub g1);exact jB lH I.kIn ⟨o,h1,h2⟩ e (fun z=>nomatch z) h
 | @dic a ai ts g1 g2 =>
  cases br;cases (show u=Value.ref a from rx);obtain ⟨_,_,vs,_,o,es,ep,h1,h2,_⟩:=Rm I.hok (Ag sub g1);exact jB my I.kIn ⟨o,h1,h2.1⟩ e (fun z=>nomatch z) h
 | obj h=>cases br
 | adr h=>cases br
def ab9 (f:Value->Bool):List T->Option T
 | [t]=>(tyOf t).map fun ty=>.bl (f ty)
 | _=>none
theorem V7 {cn:String} {f:Value->Bool} {pc:Pos} (hg:Gl X "isinstance") (hm:X.mg "isinstance" = none) (bV:Gl X (Str.ofString cn)) (b7:X.mg (Str.ofString cn)=none) (hv:bootBuiltins (Str.ofString cn)=some (.type cn))
  (hf:∀ t ty,tyOf t=some ty->PySem.W.kitOne X.K ty (.type cn)=some (f ty)) (ha:PE X a (tOf X.K B m)) (hd:((Str.ofString cn)==("__debug__" : Str))=false) (hn:(Str.ofString cn) ≠ "__name__")
  (he:starEach [a,.Name (Str.ofString cn) pc] X.env=(false,eval a X.env)::starEach [.Name (Str.ofString cn) pc] X.env:=by rfl) (ez:starEach [.Name (Str.ofString cn) pc] X.env=(false,eval (.Name (Str.ofString cn) pc) X.env)::starEach [] X.env:=by rfl)
  (aN:(backTo pos (starEach [.Name (Str.ofString cn) pc] X.env)).any (·.1)=false:=by rfl) :
  PE X (.Call (.Name "isinstance" p) [a,.Name (Str.ofString cn) pc] [] pos) (tOf X.K B (gq (ab9 f) (aj m cj))):=by
 have hc:Jj X (.builtin "isinstance") (fun xs H Q=>∃ S as x t ty,xs=[x,.ty cn]/\Same S H/\Rep X.K S as x t/\tyOf t=some ty/\Q (.bl (f ty)) H):=by
  intro pins s σ H xs us Q I rs z8;obtain ⟨S,as,x,t,ty,ex,sub,r,br,q⟩:=z8;subst ex;obtain ⟨u,w,rfl,r1,r2⟩:=rs.two;cases r2;exact ace I sub r1 r br (hf t ty br) fun tk=>⟨.bl (f ty),H,I.tok _,rfl,q⟩
 have eB:PE X (.Name (Str.ofString cn) pc) (tC (.ty cn)):=a0r bV b7 hv rfl hn hd;refine (jc hc hg hm mY (lu ha (lu eB su ez) he) (by decide) (by decide) he aN).imp fun σ H Q z0=>?_;obtain ⟨st,ps,S,as,R,t,aa,e,q⟩:=z0;obtain ⟨ts,e1,e2⟩:=G9 e;obtain ⟨t1,s1,us,ea,en,rfl⟩:=Gz e1;cases en;simp only [ab9] at e2;obtain ⟨ty,e3,e4⟩:=iO.mp e2;subst e4;exact ⟨st,ps,S,as,R,t1,_,ea,fun v H1 S1 af R1=>⟨S1,af,v,t1,ty,rfl,R1.sub,R1.top,e3,q _ H1 S1 af (R1.drop.push (.bl _))⟩⟩
example (K:PySem.W.Frag):PySem.W.kitOne K (.type "bool") (.type "int")=some true:=by rfl
example (K:PySem.W.Frag):PySem.W.kitOne K (.type "str") (.type "int")=some false:=by rfl
end
theorem Rk (l b:Addr) (bb bT:Array Value) (n n2:Nat) (bK:Option Addr) (bH:Array (Option Value)) (fD:¬(!bb.isEmpty&&Builtin.List.listTooLong (bb.size+bT.size))=true) (eO:bb.size<=sizeLine) (aR:bb.size+bT.size<=sizeLine+1) :
  Meets (Builtin.«list.extend» ⟨[.ref l,.ref b],[]⟩) (fun _ R s=>s.heap.get? l=some { cls:=.type "list",dict:=none,data:=.seq bb n,slots:=#[] }/\s.heap.get? b=some { cls:=.type "list",dict:=bK,data:=.seq bT n2,slots:=bH }/\R (.ok (.ret Value.none)) { s with heap:=s.heap.update l (Obj.mapSeq fun x=>x++bT),toks:=s.toks }) :=
 .of_wp fun pr wd Ar R z h=>by
  obtain ⟨hp,gs,dr,tk,os⟩:=z; obtain ⟨hl,hb,h⟩:=h; have f1:=AutoSeq1.idx_int; have f2:=AutoSeq1.sub_tuple_tuple; have f3:=AutoSeq1.sub_list_list; have f4:=AutoSeq1.sub_tuple_list; have f5:=AutoSeq1.sub_list_tuple;have bP:(bb++bT).size<=sizeLine+1:=by rw [Array.size_append]; exact aR
  wp_walk using (wpAny_updateSeq hl rfl (hz:=eO) (_hz':=bP)),AutoSeq1.wpAny_loadPart' hl,AutoSeq1.wpAny_loadPart' hb; exact ⟨_,rfl,h⟩
theorem Oh (l b:Addr) (bb bT:Array Value) (n n2:Nat) (bK:Option Addr) (bH:Array (Option Value)) (fD:¬(!bb.isEmpty&&Builtin.List.listTooLong (bb.size+bT.size))=true) (eO:bb.size<=sizeLine) (aR:bb.size+bT.size<=sizeLine+1) :
  Meets (Builtin.«list.extend» ⟨[.ref l,.ref b],[]⟩) (fun _ R s=>s.heap.get? l=some { cls:=.type "list",dict:=none,data:=.seq bb n,slots:=#[] }/\s.heap.get? b=some { cls:=.type "tuple",dict:=bK,data:=.seq bT n2,slots:=bH }/\R (.ok (.ret Value.none)) { s with heap:=s.heap.update l (Obj.mapSeq fun x=>x++bT),toks:=s.toks }) :=
 .of_wp fun pr wd Ar R z h=>by
  obtain ⟨hp,gs,dr,tk,os⟩:=z; obtain ⟨hl,hb,h⟩:=h; have f1:=AutoSeq1.idx_int; have f2:=AutoSeq1.sub_tuple_tuple; have f3:=AutoSeq1.sub_list_list; have f4:=AutoSeq1.sub_tuple_list; have f5:=AutoSeq1.sub_list_tuple;have bP:(bb++bT).size<=sizeLine+1:=by rw [Array.size_append]; exact aR
  wp_walk using (wpAny_updateSeq hl rfl (hz:=eO) (_hz':=bP)),AutoSeq1.wpAny_loadPart' hl,AutoSeq1.wpAny_loadPart' hb; exact ⟨_,rfl,h⟩
section
variable {X:Cx} {B:Bas} {m:M T}
def V6 (K:PySem.W.Frag):V->List V->Hp->VK->Prop:=fun x vs H Q=>∃ l b xs zs,x=.ref l/\vs=[.ref b]/\H l=some (.lst xs)/\(SqL K H b zs\/SqT K H b zs)/\xs.length+zs.length<=sizeLine/\Q .non (upd H l (.lst (xs++zs)))
theorem M6:MtM X "list.extend" (V6 X.K):=by
 intro pins s σ H x vs v us Q I rx rv h;obtain ⟨l,b,xs,zs,rfl,rfl,hH,hB,hz,q⟩:=h;cases rx;obtain ⟨u,rfl,ru⟩:=rv.one;cases ru;obtain ⟨z,its,n,r,hl,e⟩:=I.aeg hH
 have fin:∀ aD:List Value,Vals zs aD->L2.Inv X pins σ (upd H l (.lst (xs++zs))) { s with heap:=s.heap.update l (Obj.mapSeq fun x=>x++aD.toArray),toks:=s.toks }:=fun aD r2 =>
  I.af2 (its':=its++aD) hH e (by simp) (r.append r2) (by rw [il]; exact hz)
 have cA:∀ aD:List Value,Vals zs aD->¬ (!its.toArray.isEmpty&&Builtin.List.listTooLong (its.toArray.size+aD.toArray.size))=true:=fun aD r2=>by
  have bB:its.toArray.size+aD.toArray.size<=sizeLine:=by rw [iB,iB,<- hl,<- r2.length]; exact hz
  rw [a6l bB,Bool.and_false];exact kJ
 rcases hB with hB | hB
 ·obtain ⟨aD,r2,⟨⟨cls2,bK,data2,bH⟩,n2,ho2,hc2,hd02,hd2⟩,_⟩:=I.list hB;simp only at hc2 hd2;subst hc2 hd2
  refine call_meets F.slot_list_extend ⟨_,e,rfl⟩ F.entry_list_extend (F.args_list_extend_2 _ _)
   (Rk l b its.toArray aD.toArray n n2 bK bH (cA aD r2) (by rw [iB,<- hl]; omega) (by rw [iB,iB,<- hl,<- r2.length]; omega)) ⟨e,ho2,?_⟩
  exact ⟨.non,_,fin aD r2,rfl,q⟩
 ·obtain ⟨aD,r2,⟨⟨cls2,bK,data2,bH⟩,ho2,hc2,n2,hd2⟩,_⟩:=I.tuple hB;simp only at hc2 hd2;subst hc2 hd2
  refine call_meets F.slot_list_extend ⟨_,e,rfl⟩ F.entry_list_extend (F.args_list_extend_2 _ _)
   (Oh l b its.toArray aD.toArray n n2 bK bH (cA aD r2) (by rw [iB,<- hl]; omega) (by rw [iB,iB,<- hl,<- r2.length]; omega)) ⟨e,ho2,?_⟩
  exact ⟨.non,_,fin aD r2,rfl,q⟩
theorem Qm (i:Nat) {st:Stmt} (h:PS X st (Xj (tBM X.K "list" (V6 X.K) (Y8 i) (J3 (tOf X.K B m) a3q)))):PS X st (sOf X.K B (Ai i m)):=h.imp fun D σ H z9=>by
 obtain ⟨st,ps,S,as,R,fl,aa,e,q⟩:=z9;obtain ⟨hd,t,s1,xs,ys,e1,ey,e2,hl,rfl,rfl⟩:=U3 e;obtain ⟨bb,f0,e0⟩:=En hd;obtain ⟨p0,vs0,s0,q0,_⟩:=R.listAt e0;refine ⟨_,s0,.inl ⟨rfl,_,q0⟩,st,ps,S,as,R,t,s1,e1,fun v H1 S1 af R1=>?_⟩;obtain ⟨w,h1,_,h3⟩:=R1.slots i _ true e2;rw [s0] at h1; cases h1;obtain ⟨p',ep,ow⟩:=h3 rfl;cases ep;obtain ⟨vs,hH,h4⟩:=ow.own;have top:=R1.top;cases top with
 | @tup b zs _ g1 g2 =>
  cases ey;exact ⟨p0,b,vs,zs,rfl,rfl,hH,.inr (m6 R1.sub g1),by rw [h4.length,g2.length]; exact ip (iK hl) lg,q _ _ S1 af (R1.drop.turn e2 s0 ⟨_,dj,h4.append g2⟩)⟩
 | @lst b zs _ g1 g2 =>
  cases ey;exact ⟨p0,b,vs,zs,rfl,rfl,hH,.inl (jw R1.sub g1),by rw [h4.length,g2.length]; exact ip (iK hl) lg,q _ _ S1 af (R1.drop.turn e2 s0 ⟨_,dj,h4.append g2⟩)⟩
 | _=>exact j8 ey
end
theorem Rel.newObj {K:PySem.W.Frag} {B:Bas} {st:Sta} {σ:L2.St} {H S:Hp} {ps:List (V × T)} {as:List Addr} {p:Addr} {ob:HO} {so:SO} (r:Rel K B st σ H ps S as) (hp:H p=none) (h:a7w K S (as++[p]) (upd H p ob) p so) :
  Rel K B { st with sto:=st.sto++[so] } σ (upd H p ob) ((.ref p,.obj st.sto.length)::ps) S (as++[p]):=by
 obtain ⟨bD,sD,nD,no⟩:=r.fresh hp;have mo:∃ l,as++[p]=as++l:=⟨[p],rfl⟩;have other:∀ q,q≠p->H q=upd H p ob q:=fun q n=>(gw n).symm;refine Rel.push (st:={ st with sto:=st.sto++[so] }) (H:=upd H p ob) (v:=.ref p) (t:=.obj st.sto.length) ⟨fun b u e=>?_,⟨r.grow.same,?_,fun q o a b c=>?_⟩,fun i t f e=>?_,r.apart,⟨?_,?_,fun n cZ e=>?_⟩,fun q hq=>(r.pend q hq).mono (Same.refl _) mo,r.len⟩ (.obj ?_)
 ·rw [gw (fun z=>by subst z; rw [sD] at e; cases e)]; exact r.sub _ _ e
 ·obtain ⟨l,e⟩:=r.grow.more;exact ⟨l++[p],by rw [e,jR]⟩
 ·obtain ⟨x,y,z⟩:=r.grow.keep q o a b c;have n:q≠p:=fun w=>by subst w; rw [bD] at a; cases a
  refine ⟨by rw [gw n]; exact x,y,fun m=>?_⟩;rcases jn.mp m with m | m
  ·exact z m
  ·exact n (ik.mp m)
 ·obtain ⟨v,h1,h2,h3⟩:=r.slots i t f e;refine ⟨v,h1,fun z=>(h2 z).mono (Same.refl _) mo,fun z=>?_⟩;obtain ⟨q,rfl,o⟩:=h3 z;have n:q≠p:=fun w=>by subst w; subst z; exact no i t e h1
  refine ⟨q,rfl,o.own.more (Same.refl _) mo (other q n),o.out,fun m=>?_,o.new⟩;rcases jn.mp m with m | m
  ·exact o.nas m
  ·exact n (ik.mp m)
 ·show (as++[p]).length=(st.sto++[so]).length;rw [il,il,r.sto.len]; rfl
 ·refine List.nodup_append.mpr ⟨r.sto.nd,by simp,fun a ha b hb=>?_⟩;rw [ik.mp hb];intro z; subst z; exact nD ha
 ·have e:(st.sto++[so])[n]? = some cZ:=e
  by_cases hn:n<st.sto.length
  ·rw [jJ hn] at e;obtain ⟨a,h1,h2,h3⟩:=r.sto.at' n cZ e;have na:a≠p:=fun z=>by subst z; exact nD (jE h1)
   refine ⟨a,a1g h1,h2,?_⟩;cases cZ with
   | dic ts=>obtain ⟨vs,x,y⟩:=h3; exact ⟨vs,by rw [gw na]; exact x,y.mono (Same.refl _) mo⟩
   | lst ts=>obtain ⟨vs,x,y⟩:=h3; exact ⟨vs,by rw [gw na]; exact x,y.mono (Same.refl _) mo⟩
   | dit ts=>obtain ⟨vs,x,y⟩:=h3; exact ⟨vs,by rw [gw na]; exact x,y.mono (Same.refl _) mo⟩
   | exc C f t=>obtain ⟨dx,v,x,g,y⟩:=h3; exact ⟨dx,v,by rw [gw na]; exact x,g,y.mono (Same.refl _) mo⟩
   | ins C fs=>obtain ⟨dx,vs,x,y⟩:=h3; exact ⟨dx,vs,by rw [gw na]; exact x,y.mono (Same.refl _) mo⟩
   | fdc ts=>obtain ⟨vs,x,y⟩:=h3; exact ⟨vs,by rw [gw na]; exact x,y.mono (Same.refl _) mo⟩
  ·rw [jO (jW hn)] at e
   have fW:n - st.sto.length=0:=by
    have:=(iE.mp e).1;simp at this; omega
   rw [fW] at e; cases e;have c8:n=as.length:=by rw [r.sto.len]; omega
   subst c8;exact ⟨p,by rw [jO (ic _),kD]; rfl,sD,h⟩
 ·rw [<- r.sto.len,jO (ic _),kD]; rfl
def PN (X:Cx) (e:Expr) (N:L2.St->V->Prop):Prop:=PE X e (fun σ H Q=>∃ v,N σ v/\Q v H)
def MN (K:PySem.W.Frag) (m:M T) (N:L2.St->V->Prop):Prop:=∀ (B:Bas) (st:Sta) (σ:L2.St) (H:Hp) (ps:List (V × T)) (S:Hp) (as:List Addr) (t:T) (aa:Sta),Rel K B st σ H ps S as->m st=some (t,aa)->aa=st/\∃ v,N σ v/\Rep K S as v t
structure PM (X:Cx) (e:Expr) (m:M T) (N:L2.St->V->Prop):Prop where
 p:PN X e N
 m:MN X.K m N
section
variable {X:Cx} {B:Bas} {a b e e1 e2:Expr} {m m1 m2:M T} {N N1 N2:L2.St->V->Prop} {pos p:Pos}
end
inductive a5c:List Expr->List Str->Prop where
 | nil:a5c [] []
 | cons {x:Str} {k:Nat} {q:Pos} {es:List Expr} {xs:List Str}:a5c es xs->a5c (.Constant (.str x) k q::es) (x::xs)
theorem Tp {X:Cx} {B:Bas}:∀ {es:List Expr} {xs:List Str},a5c es xs->PA X es (aOf X.K B (Rq xs))
 | _,_,.nil=>bw
 | _,_,.cons h=>ao fj (Tp h)
theorem len_strs:∀ (xs:List Str) (st:Sta) (ts:List T) (aa:Sta),Rq xs st=some (ts,aa)->ts.length<=xs.length
 | [],st,ts,aa,e=>gj st ts aa e
 | _::xs,st,ts,aa,e=>c7 (len_strs xs) st ts aa e
section
variable {X:Cx} {B:Bas} {a b c e o k:Expr} {m m1 m2:M T} {pos p p2:Pos}
theorem a70 (l:List T):isTup l=ab9 (fun ty=>ty == .type "tuple") l:=by
 match l with
 | []=>rfl
 | [t]=>cases t <;> rfl
 | x::y::r=>cases x <;> rfl
theorem a6w (l:List T):isInt l=ab9 (fun ty=>ty == .type "int" || ty == .type "bool") l:=by
 match l with
 | []=>rfl
 | [t]=>cases t <;> rfl
 | x::y::r=>cases x <;> rfl
theorem a8n (l:List T):adt l=ab9 (fun ty=>ty == .type "bool") l:=by
 match l with
 | []=>rfl
 | [t]=>cases t <;> rfl
 | x::y::r=>cases x <;> rfl
theorem a4k (l:List T):isStr l=ab9 (fun ty=>ty == .type "str") l:=by
 match l with
 | []=>rfl
 | [t]=>cases t <;> rfl
 | x::y::r=>cases x <;> rfl
theorem a1s:bootBuiltins "int" = some (.type "int"):=by decide +kernel
theorem Xx:bootBuiltins "bool" = some (.type "bool"):=by decide +kernel
theorem a2i:bootBuiltins "str" = some (.type "str"):=by decide +kernel
theorem Im {pc:Pos} (hg:Gl X "isinstance") (hm:X.mg "isinstance" = none) (bV:Gl X "tuple") (b7:X.mg "tuple" = none) (ha:PE X a (tOf X.K B m)) (he:starEach [a,.Name "tuple" pc] X.env=(false,eval a X.env)::starEach [.Name "tuple" pc] X.env:=by rfl) :
  PE X (.Call (.Name "isinstance" p) [a,.Name "tuple" pc] [] pos) (tOf X.K B (gq isTup (aj m cj))):=by
 rw [show isTup=_ from funext a70];exact V7 (cn := "tuple") hg hm bV b7 boot_tuple (fun t ty h=>by cases t <;> cases h <;> rfl) ha (by decide) (by decide) he
theorem Wm {pc:Pos} (hg:Gl X "isinstance") (hm:X.mg "isinstance" = none) (bV:Gl X "int") (b7:X.mg "int" = none) (ha:PE X a (tOf X.K B m)) (he:starEach [a,.Name "int" pc] X.env=(false,eval a X.env)::starEach [.Name "int" pc] X.env:=by rfl) :
  PE X (.Call (.Name "isinstance" p) [a,.Name "int" pc] [] pos) (tOf X.K B (gq isInt (aj m cj))):=by
 rw [show isInt=_ from funext a6w];exact V7 (cn := "int") hg hm bV b7 a1s (fun t ty h=>by cases t <;> cases h <;> rfl) ha (by decide) (by decide) he
theorem U6 {pc:Pos} (hg:Gl X "isinstance") (hm:X.mg "isinstance" = none) (bV:Gl X "bool") (b7:X.mg "bool" = none) (ha:PE X a (tOf X.K B m)) (he:starEach [a,.Name "bool" pc] X.env=(false,eval a X.env)::starEach [.Name "bool" pc] X.env:=by rfl) :
  PE X (.Call (.Name "isinstance" p) [a,.Name "bool" pc] [] pos) (tOf X.K B (gq adt (aj m cj))):=by
 rw [show adt=_ from funext a8n];exact V7 (cn := "bool") hg hm bV b7 Xx (fun t ty h=>by cases t <;> cases h <;> rfl) ha (by decide) (by decide) he
theorem K8 (i:Nat) (hm:X.mg "len" = none) {es:Expr} (hg:Gl X "len") (h:PE X es (Y8 i)) (he:starEach [es] X.env=(false,eval es X.env)::starEach [] X.env:=by rfl) (aN:(backTo pos (starEach [] X.env)).any (·.1)=false:=by rfl) :
  PE X (.Call (.Name "len" p) [es] [] pos) (tOf X.K B (yq i)):=by
 have hc:Jj X (.builtin "len") (fun xs H Q=>∃ q,xs=[.ref q]/\((∃ ys,SqL X.K H q ys/\Q (.int ys.length) H)\/(∃ ai,Rd H q (.dK ai)/\Q (.int ai.length) H))):=by
  intro pins s σ H xs us Q I rs z8;obtain ⟨q,ex,h⟩:=z8;rcases h with ⟨ys,h1,h2⟩ | ⟨ai,h1,h2⟩
  ·exact Br pins s σ H xs us Q I rs ⟨q,ys,ex,.inl h1,h2⟩
  ·subst ex;obtain ⟨u,rfl,ru⟩:=rs.one;cases ru;exact adq I h1 fun t s' I'=>⟨.int ai.length,H,I',⟨t,rfl⟩,h2⟩
 refine (jc hc hg hm iS (lu h su he) (by decide) (by decide) he aN).imp fun σ H Q z0=>?_;obtain ⟨st,ps,S,as,R,t,aa,e,q⟩:=z0;obtain ⟨rfl,h⟩:=Tc e;rcases h with ⟨xs,f,e1,rfl⟩ | ⟨xs,f,e1,rfl⟩
 ·obtain ⟨p0,vs,s0,h1,h2⟩:=R.listAt e1;exact ⟨_,s0,p0,rfl,.inl ⟨vs,h1,by rw [h2.length]; exact q _ H S as (R.push (.int _))⟩⟩
 ·obtain ⟨p0,vs,s0,h1,h2⟩:=R.dictAt e1;exact ⟨_,s0,p0,rfl,.inr ⟨vs,h1,by rw [h2.length]; exact q _ H S as (R.push (.int _))⟩⟩
end
section
variable {X:Cx} {pins:List (Addr × Obj)} {σ:L2.St} {H S:Hp} {s:Shared} {as:List Addr}
theorem a1j (I:L2.Inv X pins σ H s) (sub:Same S H):(∀ {v:V} {t:T},Rep X.K S as v t->∀ {d:PyData} {u:Value},dat t=some d->RelV v u->∃ bs,Reads s.heap u d bs)/\∀ {vs:List V} {ts:List T},qb X.K S as vs ts->∀ {ds:List PyData} {us:List Value},Li ts=some ds->Vals vs us->∃ bs,ReadsAll s.heap us ds bs:=by
 have tp:∀ {a:Addr} {vs:List V} {ts:List T},SqT X.K S a vs->qb X.K S as vs ts->(∀ {ds:List PyData} {us:List Value},Li ts=some ds->Vals vs us->∃ bs,ReadsAll s.heap us ds bs)->∀ {d:PyData} {u:Value},dat (.tup ts)=some d->RelV (.ref a) u->∃ bs,Reads s.heap u d bs:=by
  intro a vs ts h _ q d u e r;simp only [dat] at e;obtain ⟨l,e1,e2⟩:=iO.mp e;subst e2;cases r;obtain ⟨its,rv,⟨o,h1,h2,n,h3⟩,_⟩:=I.tuple (m6 sub h);obtain ⟨bs,rb⟩:=q e1 rv;exact ⟨_,.tuple h1 h2 h3 rb⟩
 have ls:∀ {a:Addr} {vs:List V} {ts:List T},SqL X.K S a vs->qb X.K S as vs ts->(∀ {ds:List PyData} {us:List Value},Li ts=some ds->Vals vs us->∃ bs,ReadsAll s.heap us ds bs)->∀ {d:PyData} {u:Value},dat (.lst ts)=some d->RelV (.ref a) u->∃ bs,Reads s.heap u d bs:=by
  intro a vs ts h _ q d u e r;simp only [dat] at e;obtain ⟨l,e1,e2⟩:=iO.mp e;subst e2;cases r;obtain ⟨its,rv,⟨o,n,h1,h2,_,h3⟩,_⟩:=I.list (jw sub h);obtain ⟨bs,rb⟩:=q e1 rv;exact ⟨_,.list h1 h2 h3 rb⟩
 have st:∀ (x:Str) {d:PyData} {u:Value},dat (.str x)=some d->RelV (.str x) u->∃ bs,Reads s.heap u d bs:=by
  intro x d u e r;simp only [dat] at e;split at e
  ·cases e; obtain ⟨t,rfl⟩:=r; exact ⟨_,.str x t⟩
  ·cases e
 have cn:∀ {v:V} {t:T} {vs:List V} {ts:List T},Rep X.K S as v t->qb X.K S as vs ts->(∀ {d:PyData} {u:Value},dat t=some d->RelV v u->∃ bs,Reads s.heap u d bs)->(∀ {ds:List PyData} {us:List Value},Li ts=some ds->Vals vs us->∃ bs,ReadsAll s.heap us ds bs)->∀ {ds:List PyData} {us:List Value},Li (t::ts)=some ds->Vals (v::vs) us->∃ bs,ReadsAll s.heap us ds bs:=by
  intro v t vs ts _ _ h q ds us e r;obtain ⟨a,l,e1,e2,e3⟩:=a3i e;subst e3;cases r with
  | cons r1 r2 =>
   obtain ⟨b1,x1⟩:=h e1 r1;obtain ⟨b2,x2⟩:=q e2 r2;exact ⟨_,.cons x1 x2⟩
 have nl:∀ {ds:List PyData} {us:List Value},Li []=some ds->Vals [] us->∃ bs,ReadsAll s.heap us ds bs:=by
  intro ds us e r; simp only [Li] at e; cases e; cases r; exact ⟨_,.nil⟩
 have no:∀ {d:PyData} {u:Value},dat .non=some d->RelV .non u->∃ bs,Reads s.heap u d bs:=by
  intro d u e r; simp only [dat] at e; cases e; cases r; exact ⟨_,.none⟩
 have bo:∀ (b:Bool) {d:PyData} {u:Value},dat (.bl b)=some d->RelV (.bl b) u->∃ bs,Reads s.heap u d bs:=by
  intro b d u e r; simp only [dat] at e; cases e; cases r; exact ⟨_,.bool b⟩
 have it:∀ (i:Int) {d:PyData} {u:Value},dat (.int i)=some d->RelV (.int i) u->∃ bs,Reads s.heap u d bs:=by
  intro i d u e r; simp only [dat] at e; cases e; obtain ⟨t,rfl⟩:=r; exact ⟨_,.int i t⟩
 have di:∀ {a:Addr} {ts:List (L2.Key × T)} {d:PyData} {u:Value},dat (.dic ts)=some d->RelV (.ref a) u->∃ bs,Reads s.heap u d bs:=by
  intro a ts d u e; simp only [dat] at e; cases e
 have ob:∀ {a:Addr} {n:Nat} {d:PyData} {u:Value},dat (.obj n)=some d->RelV (.ref a) u->∃ bs,Reads s.heap u d bs:=by
  intro a n d u e; simp only [dat] at e; cases e
 have ad:∀ (a:Addr) {d:PyData} {u:Value},dat (.adr a)=some d->RelV (.ref a) u->∃ bs,Reads s.heap u d bs:=by
  intro a d u e; simp only [dat] at e; cases e
 exact ⟨fun h=>Rep.rec (motive_1:=fun v t _=>∀ {d:PyData} {u:Value},dat t=some d->RelV v u->∃ bs,Reads s.heap u d bs) (motive_2:=fun vs ts _=>∀ {ds:List PyData} {us:List Value},Li ts=some ds->Vals vs us->∃ bs,ReadsAll s.heap us ds bs) (motive_3:=fun _ _ _=>True) no bo it st tp ls (fun _ _ _=>di) (fun _=>ob) ad nl cn trivial (fun _ _ _ _=>trivial) h,
  fun h=>qb.rec (motive_1:=fun v t _=>∀ {d:PyData} {u:Value},dat t=some d->RelV v u->∃ bs,Reads s.heap u d bs) (motive_2:=fun vs ts _=>∀ {ds:List PyData} {us:List Value},Li ts=some ds->Vals vs us->∃ bs,ReadsAll s.heap us ds bs) (motive_3:=fun _ _ _=>True) no bo it st tp ls (fun _ _ _=>di) (fun _=>ob) ad nl cn trivial (fun _ _ _ _=>trivial) h⟩
theorem Rep.reads (I:L2.Inv X pins σ H s) (sub:Same S H) {v:V} {t:T} (h:Rep X.K S as v t) {d:PyData} {u:Value} (e:dat t=some d) (r:RelV v u):∃ bs,Reads s.heap u d bs:=(a1j I sub).1 h e r
theorem a80 (I:L2.Inv X pins σ H s) (sub:Same S H) {x y:V} {t u:T} {v w:Value} {b:Bool} {A:Around} (hx:Rep X.K S as x t) (hy:Rep X.K S as y u) (rx:RelV x v) (ry:RelV y w) (e:eqD t u=some b) (hu:A.units+40<cLine):SeqAt.EqAt A s v w b:=by
 obtain ⟨dx,dy,e1,e2,hd,rfl⟩:=Rz e;obtain ⟨b1,x1⟩:=hx.reads I sub e1 rx;obtain ⟨b2,x2⟩:=hy.reads I sub e2 ry;exact SeqAt.eqAt_reads dx dy A s v w b1 b2 x1 x2 (yu _ e1) (yu _ e2) (by have:=Nat.min_le_left dx.depth dy.depth; omega)
theorem a2c (I:L2.Inv X pins σ H s) (sub:Same S H) {A:Around} (hu:A.units+40<cLine) {kb:List (L2.Key × V)} {ub:List (L2.Key × T)} {wb:List (L2.Key × Value)} (rb:Iw X.K S as kb ub) (vb:KV kb wb) :
  ∀ {ka:List (L2.Key × V)} {ua:List (L2.Key × T)} {wa:List (L2.Key × Value)} {r:Bool},Iw X.K S as ka ua->KV ka wa->abd ua ub=some r->PySem.W.KeqHits A s wb wa r
 | _,[],_,_,h0,va,e=>by
  cases h0;simp only [abd] at e; cases e;cases va;exact .nil
 | _,(k,_)::_,_,_,h0,va,e=>by
  cases h0 with | cons h q=>?_
  simp only [abd] at e;cases va with
  | @cons _ p2 _ _ hp hr =>
   obtain ⟨pk,pv⟩:=p2;obtain ⟨ek,rv⟩:=hp;dsimp only at ek rv;subst ek;rcases rb.get k with ⟨z,t',a1,a2,a3⟩ | ⟨a1,a2⟩
   ·rw [a2] at e;dsimp only at e;have rel:=KV.val vb k;rw [a1] at rel;obtain ⟨w',hw,rw'⟩:=Oe.some_of rel;split at e
    ·rename_i eb he;obtain ⟨b',e1,e2⟩:=iO.mp e;subst e2;exact .hit hw (a80 I sub h a3 rv rw' he hu) (a2c I sub hu rb vb q hr e1)
    ·cases e
   ·rw [a2] at e;cases e;have rel:=KV.val vb k;rw [a1] at rel;exact .miss (Oe.none_of rel)
end
section
variable {X:Cx}
theorem Pu {op:CmpOp} {neg:Bool} (cq:(op=.Eq/\neg=false)\/(op=.NotEq/\neg=true)) {g:T->T->Option T} (hg:∀ t u w,g t u=some w->∃ b,eqT t u=some b/\w=.bl (xor neg b)) (hu:X.A.units+64<cLine):OpT X (compareOp op) g:=by
 intro pins s σ H x y v u Q I rx ry z8;obtain ⟨S,as,t,t2,w,sub,ht,hu2,hf,q⟩:=z8;obtain ⟨b,e,rfl⟩:=hg _ _ _ hf;have fin:EP X pins σ Q (.bool (xor neg b)) s:=⟨.bl (xor neg b),H,I,rfl,q _ H S (Ext.refl sub) (.bl _)⟩;rcases aa3 e with ⟨xs,ys,rfl,rfl,hd⟩ | he
 ·cases ht with
  | @dic a ai _ g1 g2 =>
   cases hu2 with
   | @dic a' kvs' _ k1 k2 =>
    cases rx;cases ry;obtain ⟨z,hs,vs,rel,dd⟩:=Rm I.hok (Ag sub g1);obtain ⟨z',bC,vs',rel',dd'⟩:=Rm I.hok (Ag sub k1);have l1:vs.length=xs.length:=by rw [<- rel.length]; exact g2.length
    have l2:vs'.length=ys.length:=by rw [<- rel'.length]; exact k2.length
    have dN:X.A.in1.units+40<cLine:=by show X.A.units+1+40<cLine; omega
    rcases hd with ⟨hl,eb⟩ | ⟨hl,rfl⟩
    ·have hits:vs.length=vs'.length->PySem.W.KeqHits X.A.in1 s vs' vs b:=fun _=>a2c I sub dN k2 rel' g2 rel eb;have el:(vs.length==vs'.length)=true:=by rw [l1,l2,hl]; exact jb _
     rcases cq with ⟨rfl,rfl⟩ | ⟨rfl,rfl⟩
     ·refine PySem.W.keq_eq hs bC dd dd' (by omega) hits ?_;rw [el]; simpa using fin
     ·refine PySem.W.keq_ne hs bC dd dd' (by omega) hits ?_;rw [el]; simpa using fin
    ·have hits:vs.length=vs'.length->PySem.W.KeqHits X.A.in1 s vs' vs true:=fun h=>absurd (by rw [<- l1,<- l2]; exact h) hl;have el:(vs.length==vs'.length)=false:=by rw [l1,l2]; exact iY.mpr hl
     rcases cq with ⟨rfl,rfl⟩ | ⟨rfl,rfl⟩
     ·refine PySem.W.keq_eq hs bC dd dd' (by omega) hits ?_;rw [el]; simpa using fin
     ·refine PySem.W.keq_ne hs bC dd dd' (by omega) hits ?_;rw [el]; simpa using fin
 ·obtain ⟨dx,dy,e1,e2,hd,rfl⟩:=Rz he;obtain ⟨b1,x1⟩:=ht.reads I sub e1 rx;obtain ⟨b2,x2⟩:=hu2.reads I sub e2 ry;have hm:X.A.units+min dx.depth dy.depth<cLine:=by have:=Nat.min_le_left dx.depth dy.depth; omega
  rcases cq with ⟨rfl,rfl⟩ | ⟨rfl,rfl⟩
  ·exact SeqAt.compareEq_reads x1 x2 (yu _ e1) (yu _ e2) hm (by simpa using fin)
  ·exact SeqAt.compareNe_reads x1 x2 (yu _ e1) (yu _ e2) hm (by simpa using fin)
theorem jm (hu:X.A.units+64<cLine):OpT X (compareOp .Eq) eqO:=Pu (.inl ⟨rfl,rfl⟩) (fun t u w h=>by
 unfold eqO at h;split at h
 ·rename_i b e; cases h; exact ⟨b,e,by simp⟩
 ·cases h) hu
theorem Oq (hu:X.A.units+64<cLine):OpT X (compareOp .NotEq) neO:=Pu (.inr ⟨rfl,rfl⟩) (fun t u w h=>by
 unfold neO at h;split at h
 ·rename_i b e; cases h; exact ⟨b,e,by simp⟩
 ·cases h) hu
open Classical in
noncomputable def a8d (h:Heap) (dx:PyData) (y:Value):Bool:=if e:∃ d bs,Reads h y d bs/\d.canLay0=true then PyData.eqv (Classical.choose e) dx else false
theorem a8j {h:Heap} {dx d:PyData} {y:Value} {bs:List Addr} (r:Reads h y d bs) (l:d.canLay0=true):a8d h dx y=PyData.eqv d dx:=by
 have e:∃ d bs,Reads h y d bs/\d.canLay0=true:=⟨d,bs,r,l⟩;unfold a8d;rw [dif_pos e];obtain ⟨bs',r',l'⟩:=Classical.choose_spec e;rw [SeqAt.Reads.unique _ _ _ _ _ l' r' r]
theorem a0c {pins:List (Addr × Obj)} {σ:L2.St} {H S:Hp} {s:Shared} {as:List Addr} {A:Around} (I:L2.Inv X pins σ H s) (sub:Same S H) (hu:A.units+40<cLine) {x:V} {t:T} {v:Value} {dx:PyData} (hx:Rep X.K S as x t) (rx:RelV x v) (ex:dat t=some dx) :
  ∀ {vs:List V} {ts:List T} {us:List Value} {b:Bool},qb X.K S as vs ts->Vals vs us->inL t ts=some b->(∀ y∈us,SeqAt.EqAt A s y v (a8d s.heap dx y))/\us.any (a8d s.heap dx)=b
 | _,[],_,_,h0,r,e=>by cases h0; simp only [inL] at e; cases e; cases r; exact ⟨fun y h=>(nomatch h),rfl⟩
 | _,_::_,_,_,h0,r,e=>by
  cases h0 with | cons h q=>?_
  simp only [inL] at e;cases r with
  | @cons _ u1 _ us1 r1 r2 =>
   split at e
   ·rename_i eb he;obtain ⟨b',e1,e2⟩:=iO.mp e;subst e2;obtain ⟨i1,i2⟩:=a0c I sub hu hx rx ex q r2 e1;obtain ⟨dy,dx',f1,f2,hd,rfl⟩:=Rz he;rw [ex] at f2; cases f2;obtain ⟨b1,x1⟩:=h.reads I sub f1 r1;have hb:=a8j (dx:=dx) x1 (yu _ f1);refine ⟨fun y hy=>?_,by rw [List.any_cons,i2,hb]⟩;rcases ir.mp hy with rfl | hy
    ·rw [hb]; exact a80 I sub h hx r1 rx he hu
    ·exact i1 y hy
   ·cases e
theorem a9a {t u w:T} (h:inT t u=some w):(∃ ys b,(u=.tup ys\/u=.lst ys)/\inL t ys=some b/\(dat t).isSome=true/\w=.bl b)\/(∃ ai q,u=.dic ai/\keyOf t=some q/\w=.bl (a3o q ai).isSome):=by
 unfold inT at h;split at h
 ·obtain ⟨q,e1,e2⟩:=iO.mp h;exact .inr ⟨_,q,rfl,e1,e2.symm⟩
 ·split at h
  ·rename_i hd;split at h
   ·obtain ⟨b,e1,e2⟩:=iO.mp h; exact .inl ⟨_,b,.inl rfl,e1,hd,e2.symm⟩
   ·obtain ⟨b,e1,e2⟩:=iO.mp h; exact .inl ⟨_,b,.inr rfl,e1,hd,e2.symm⟩
   ·cases h
  ·cases h
theorem Zv {op:CmpOp} {neg:Bool} (cq:(op=.In/\neg=false)\/(op=.NotIn/\neg=true)) {g:T->T->Option T} (hg:∀ t u w,g t u=some w->∃ w',inT t u=some w'/\∃ b,w'=.bl b/\w=.bl (xor neg b)) (hu:X.A.units+64<cLine):OpT X (compareOp op) g:=by
 intro pins s σ H x y v u Q I rx ry z8;obtain ⟨S,as,t,t2,w,sub,ht,hu2,hf,q⟩:=z8;obtain ⟨w',ei,b0,rfl,rfl⟩:=hg _ _ _ hf;rcases a9a ei with ⟨ys,b,hy,e,hdt,eb⟩ | ⟨ai,qk,rfl,ek,eb⟩
 ·cases eb;obtain ⟨dx,ex⟩:=lJ.mp hdt;have fin:EP X pins σ Q (.bool (xor neg b0)) s:=⟨.bl (xor neg b0),H,I,rfl,q _ H S (Ext.refl sub) (.bl _)⟩;have dN:X.A.in1.units+40<cLine:=by show X.A.units+1+40<cLine; omega
  rcases hy with rfl | rfl
  ·cases hu2 with
   | @tup a vs _ g1 g2 =>
    cases ry;obtain ⟨its,r,p,hz⟩:=I.tuple (m6 sub g1);obtain ⟨i1,i2⟩:=a0c I sub dN ht rx ex g2 r e;have he:∀ y,y∈its.toArray->SeqAt.EqAt X.A.in1 s y v (a8d s.heap dx y):=fun y hy=>i1 y (by simpa using hy);have ha:its.toArray.any (a8d s.heap dx)=b0:=by rw [<- i2]; simp
    rcases cq with ⟨rfl,rfl⟩ | ⟨rfl,rfl⟩
    ·exact SeqAt.in_tupleAt _ (show s.heap.IsTuple a its.toArray from p) he (by rw [ha]; simpa using fin)
    ·exact SeqAt.notIn_tupleAt _ (show s.heap.IsTuple a its.toArray from p) he (by rw [ha]; simpa using fin)
  ·cases hu2 with
   | @lst a vs _ g1 g2 =>
    cases ry;obtain ⟨its,r,p,hz⟩:=I.list (jw sub g1);obtain ⟨i1,i2⟩:=a0c I sub dN ht rx ex g2 r e;have he:∀ y,y∈its.toArray->SeqAt.EqAt X.A.in1 s y v (a8d s.heap dx y):=fun y hy=>i1 y (by simpa using hy);have ha:its.toArray.any (a8d s.heap dx)=b0:=by rw [<- i2]; simp
    rcases cq with ⟨rfl,rfl⟩ | ⟨rfl,rfl⟩
    ·exact SeqAt.in_listAt _ p.isList he (by rw [ha]; simpa using fin)
    ·exact SeqAt.notIn_listAt _ p.isList he (by rw [ha]; simpa using fin)
 ·cases eb;cases hu2 with
  | @dic a kv _ g1 g2 =>
   cases ry;have ey:=abq ht ek;subst ey
   have hs:(a3o qk ai).isSome=(Vw kv qk).isSome:=by
    rcases g2.get qk with ⟨z,t',a1,a2,_⟩ | ⟨a1,a2⟩
    ·simp [a1,a2]
    ·simp [a1,a2]
   rw [hs] at q;have gd:ab8 H a (kV qk) (Vw kv qk):=.inl ⟨kv,qk,Ag sub g1,rfl,rfl⟩;rcases cq with ⟨rfl,rfl⟩ | ⟨rfl,rfl⟩
   ·exact ahg (by omega) I gd rx fun s' I'=>⟨.bl _,H,I',rfl,by simpa using q _ H S (Ext.refl sub) (.bl _)⟩
   ·exact aaf (by omega) I gd rx fun s' I'=>⟨.bl _,H,I',rfl,by simpa using q _ H S (Ext.refl sub) (.bl _)⟩
theorem a0a (hu:X.A.units+64<cLine):OpT X (compareOp .NotIn) Og:=Zv (.inr ⟨rfl,rfl⟩) (fun t u w h=>by
 unfold Og at h;split at h
 ·rename_i b e;cases h;exact ⟨_,e,b,rfl,by simp⟩
 ·cases h) hu
end
section
variable {X:Cx} {B:Bas} {a b c e:Expr} {m m1 m2:M T} {pos p:Pos} {u v:S} {es:List Expr} {ms:M (List T)} {k n:Nat} {f:Addr} {fd:FuncData} {pn:List Str} {F:Fn} {x:Str}
end
section
variable {X:Cx} {B:Bas} {a b c e:Expr} {m m1 m2:M T} {pos p:Pos} {es:List Expr} {ms:M (List T)} {n:Nat} {pn:List Str} {F:Fn} {x:Str}
end
section
variable {P:Program} {w:World} {K:PySem.W.Frag} {mg:Str->Option Value} {base:Heap}
end
section
variable {X:Cx} {B:Bas} {a b c e:Expr} {m m1 m2:M T} {pos p p2 fT:Pos}
def Yp:List Nat->TGs
 | []=>ag6
 | i::is=>acy (Mv i) (Yp is)
theorem Wi {K:PySem.W.Frag} {H S:Hp} {as:List Addr} {ps:List (V × T)}:∀ (is:List Nat) {vs:List V} {xs:List T} {st:Sta} {σ:L2.St} {Q:L2.St->Hp->Prop},Rel K B st σ H ps S as->qb K S as vs xs->xs.length=is.length ->
  (∀ ag,Rel K B ((is.zip xs).foldl (fun s p=>jz p.1 p.2 false s) st) ag H ps S as->Q ag H)->Yp is vs σ H Q
 | [],_,_,_,_,_,R,.nil,_,q=>⟨rfl,q _ R⟩
 | i::is,_,_,_,_,_,R,.cons r rs,hl,q=>⟨_,_,rfl,Wi is (R.put (i:=i) r) rs (by simpa using hl) q⟩
 | [],_,_,_,_,_,_,.cons _ _,hl,_=>by simp at hl
 | _::_,_,_,_,_,_,_,.nil,hl,_=>by simp at hl
theorem a03 {is:List Nat} {tg:Expr} (h:PG X tg (agb X.K is.length (Yp is))):PG X tg (gOf X.K B (a81 is)):=fun pins s σ H x u Q I r z9=>h pins s σ H x u Q I r (by
 obtain ⟨st,ps,S,as,t,R,aa,e,q⟩:=z9;have top:=R.top;cases t with
 | tup xs =>
  cases top with
  | @tup a vs _ g1 g2 =>
   obtain ⟨hl,e⟩:=Bw e;cases e;exact ⟨a,vs,rfl,m6 R.sub g1,by rw [g2.length]; exact hl,Wi is R.drop g2 hl fun ag R'=>q ag H S as R'⟩
 | _=>exact j8 e)
end
end C
namespace C
open PySem PySem.Spec PyProof.Rows L2
section
variable {X:Cx} {B:Bas} {a b c e lo hi:Expr} {m m1 m2 ml mh:M T} {pos p p2:Pos}
end
theorem Xv {o k:M T} {s s':Sta} {t:T} (h:ux o k s=some (t,s')):∃ n s1 i xs j,o s=some (.obj n,s1)/\k s1=some (.int i,s')/\s'.sto[n]? = some (.lst xs)/\ixI xs.length i=some j/\xs[j]? = some t:=by
 unfold ux at h;split at h
 ·rename_i n s1 e1;split at h
  ·rename_i i s2 e2;split at h
   ·rename_i xs e3;split at h
    ·rename_i t' e4;cases h;obtain ⟨j,e5,e6⟩:=kO.mp e4;exact ⟨n,s1,i,xs,j,e1,e2,e3,e5,e6⟩
    ·cases h
   ·cases h
  ·cases h
 ·cases h
theorem U8 {o:M T} {s s':Sta} {t:T} (h:G4 o s=some (t,s')):∃ n xs,o s=some (.obj n,s')/\s'.sto[n]? = some (.lst xs)/\t=.int xs.length:=by
 unfold G4 at h;split at h
 ·rename_i n s1 e1;split at h
  ·rename_i xs e3; cases h; exact ⟨n,xs,e1,e3,rfl⟩
  ·cases h
 ·cases h
theorem Uk {a:M (List T)} {s s':Sta} {t:T} (h:Ci a s=some (t,s')):∃ ts s1,a s=some (ts,s1)/\t=.obj s1.sto.length/\s' = { s1 with sto:=s1.sto++[.lst ts] }:=by
 unfold Ci at h;split at h
 ·rename_i ts s1 e1; cases h; exact ⟨ts,s1,e1,rfl,rfl⟩
 ·cases h
theorem Xo {o k v:M T} {s s':Sta} {fl:Flow} (h:Jt o k v s=some (fl,s')) :
  ∃ t s1 n s2 i s3 xs j,v s=some (t,s1)/\o s1=some (.obj n,s2)/\k s2=some (.int i,s3)/\s3.sto[n]? = some (.lst xs)/\ixI xs.length i=some j/\fl=.next/\s' = { s3 with sto:=s3.sto.set n (.lst (xs.set j t)) }:=by
 unfold Jt at h;split at h
 ·rename_i t s1 e;split at h
  ·rename_i n s2 eo;split at h
   ·rename_i i s3 ek;split at h
    ·rename_i xs ex;split at h
     ·rename_i j ej; cases h; exact ⟨t,s1,n,s2,i,s3,xs,j,e,eo,ek,ex,ej,rfl,rfl⟩
     ·cases h
    ·cases h
   ·cases h
  ·cases h
 ·cases h
theorem Tr {i:Nat} {v:M T} {s s':Sta} {fl:Flow} (h:Ia i v s=some (fl,s')) :
  ∃ n ys t s1 xs,s.env[i]? = some (some (.obj n,false))/\s.sto[n]? = some (.lst ys)/\v s=some (t,s1)/\s1.sto[n]? = some (.lst xs)/\xs.length<lim/\fl=.next/\s' = { s1 with sto:=s1.sto.set n (.lst (xs++[t])) }:=by
 unfold Ia at h;split at h
 ·rename_i n e;split at h
  ·rename_i ys ey;split at h
   ·rename_i t s1 fH;split at h
    ·rename_i xs ex;split at h
     ·rename_i hl; cases h; exact ⟨n,ys,t,s1,xs,e,ey,fH,ex,hl,rfl,rfl⟩
     ·cases h
    ·cases h
   ·cases h
  ·cases h
 ·cases h
theorem qb.set {K:PySem.W.Frag} {S:Hp} {as:List Addr} {v:V} {t:T} (h:Rep K S as v t):∀ {vs:List V} {ts:List T} (j:Nat),qb K S as vs ts->qb K S as (vs.set j v) (ts.set j t)
 | _,_,_,.nil=>.nil
 | _,_,0,.cons _ r=>.cons h r
 | _,_,j+1,.cons q r=>.cons q (qb.set h j r)
section
variable {X:Cx} {B:Bas} {a b c e o k:Expr} {m mo mk mv:M T} {pos p:Pos}
theorem Es (ho:PE X o (tOf X.K B mo)) (hk:PE X k (tOf X.K B mk)) (hs:Nv k):PE X (.Subscript o k pos) (tOf X.K B (ux mo mk)):=(a9h Td ho hk hs).imp fun σ H Q z9=>by
 obtain ⟨st,ps,S,as,R,t,aa,e,q⟩:=z9;obtain ⟨n,s1,i,xs,j,e1,e2,e3,e4,e5⟩:=Xv e;refine ⟨st,ps,S,as,R,_,s1,e1,fun v H1 S1 af R1=>⟨s1,_,S1,af,R1,_,aa,e2,fun u H2 S2 aB R2=>?_⟩⟩;have t2:=R2.top2;cases R2.top;cases t2 with
 | @obj _ a ha =>
  obtain ⟨a',h1,h2,vs,h3,h4⟩:=R2.sto.at' n _ e3;rw [ha] at h1; cases h1;obtain ⟨z,hz,rz⟩:=h4.get e5;refine ⟨a,vs,i,z,rfl,rfl,SqL.of h3,?_,q z H2 S2 aB (R2.drop.drop.push rz)⟩;rw [Lp,<- h4.length] at e4;unfold atI; rw [e4]; exact hz
theorem a1o (hg:Gl X "len") (hm:X.mg "len" = none) (ho:PE X o (tOf X.K B mo)) (he:starEach [o] X.env=(false,eval o X.env)::starEach [] X.env:=by rfl) (aN:(backTo pos (starEach [] X.env)).any (·.1)=false:=by rfl) :
  PE X (.Call (.Name "len" p) [o] [] pos) (tOf X.K B (G4 mo)):=(jc Br hg hm iS (lu ho su he) (by decide) (by decide) he aN).imp fun σ H Q z9=>by
 obtain ⟨st,ps,S,as,R,t,aa,e,q⟩:=z9;obtain ⟨n,xs,e1,e2,rfl⟩:=U8 e;refine ⟨st,ps,S,as,R,_,aa,e1,fun v H1 S1 af R1=>?_⟩;have t1:=R1.top;cases t1 with
 | @obj _ a ha =>
  obtain ⟨a',h1,h2,vs,h3,h4⟩:=R1.sto.at' n _ e2;rw [ha] at h1; cases h1;exact ⟨a,vs,rfl,.inl (SqL.of h3),by rw [h4.length]; exact q _ H1 S1 af (R1.drop.push (.int _))⟩
theorem Jz {es:List Expr} {ms:M (List T)} (h:PA X es (aOf X.K B ms)) (hm:∀ st ts aa,ms st=some (ts,aa)->ts.length<=1000):PE X (.List es pos) (tOf X.K B (Ci ms)) :=
 (a2p h).imp fun σ H Q z9=>by
  obtain ⟨st,ps,S,as,R,t,aa,e,q⟩:=z9;obtain ⟨ts,s1,e1,rfl,rfl⟩:=Uk e;refine ⟨st,ps,S,as,R,ts,s1,e1,fun vs H1 S1 af R1 rs=>⟨?_,fun p hp=>?_⟩⟩
  ·rw [rs.length]; exact iK (Em (hm _ _ _ e1))
  ·exact q _ _ _ _ (R1.newObj hp ⟨vs,dj,rs.mono (Same.refl _) ⟨[p],rfl⟩⟩)
theorem V5 {st:Stmt} (h:PS X st (a90 (tOf X.K B mv) (agd (tOf X.K B mo) (tOf X.K B mk) abv))):PS X st (sOf X.K B (Jt mo mk mv)):=h.imp fun D σ H z9=>by
 obtain ⟨st,ps,S,as,R,fl,aa,e,q⟩:=z9;obtain ⟨t,s1,n,s2,i,s3,xs,j,e1,e2,e3,e4,e5,rfl,rfl⟩:=Xo e;refine ⟨st,ps,S,as,R,t,s1,e1,fun v H1 S1 af R1=>⟨s1,_,S1,af,R1,_,s2,e2,fun x H2 S2 aB R2=>⟨s2,_,S2,aB,R2,_,s3,e3,fun y H3 S3 aK R3=>?_⟩⟩⟩;have t2:=R3.top2;cases R3.top;cases t2 with
 | @obj _ a ha =>
  obtain ⟨a',h1,h2,vs,h3,h4⟩:=R3.sto.at' n _ e4;rw [ha] at h1; cases h1;have tv:Rep X.K S3 aK v t:=R3.pend _ (ij _ (ij _ ie));rw [Lp,<- h4.length] at e5;exact ⟨a,vs,i,j,rfl,rfl,h3,e5,q _ _ S3 aK (R3.drop.drop.drop.Ot e4 ha ⟨_,dj,qb.set tv j h4⟩)⟩
theorem a3h (i:Nat) {st:Stmt} (h:PS X st (Xj (tBM X.K "list" K9 (Y8 i) (J3 (tOf X.K B mv) a3q)))):PS X st (sOf X.K B (Ia i mv)):=h.imp fun D σ H z9=>by
 obtain ⟨st,ps,S,as,R,fl,aa,e,q⟩:=z9;obtain ⟨n,ys,t,s1,xs,e0,ey,e1,e2,hl,rfl,rfl⟩:=Tr e;obtain ⟨w,h1,h2,_⟩:=R.slots i _ false e0;have r0:=h2 rfl;cases r0 with
 | @obj _ a ha =>
  obtain ⟨a0,l0,_,vs0,l1,_⟩:=R.sto.at' n _ ey;rw [ha] at l0; cases l0;refine ⟨_,h1,.inl ⟨rfl,_,SqL.of l1⟩,st,(.ref a,.obj n)::ps,S,as,R.push (h2 rfl),t,s1,e1,fun v H1 S1 af R1=>?_⟩;have t2:=R1.top2;cases t2 with
  | @obj _ a2 ha2 =>
   obtain ⟨a',k1,k2,vs,k3,k4⟩:=R1.sto.at' n _ e2;rw [ha2] at k1; cases k1;exact ⟨a,vs,v,rfl,rfl,k3,by rw [k4.length]; exact iD hl lg,q _ _ S1 af (R1.drop.drop.Ot e2 ha2 ⟨_,dj,k4.append (.cons R1.top .nil)⟩)⟩
end
section
variable {X:Cx} {B:Bas} {pins:List (Addr × Obj)} {σ:L2.St} {H S:Hp} {s:Shared} {as:List Addr} {Q:VK}
theorem Iw.keys {K:PySem.W.Frag} {S:Hp} {as:List Addr}:∀ {ai:List (L2.Key × V)} {ts:List (L2.Key × T)},Iw K S as ai ts->ai.map (·.1)=ts.map (·.1)
 | _,_,.nil=>rfl
 | _,_,.cons h q=>by rw [iL,iL,Iw.keys q]
end
section
variable {prog:Program} {w:World} {A:Around} {E:Value->Shared->Prop} {s:Shared}
end
section
variable {prog:Program} {w:World} {A:Around} {R:Result->Shared->Prop} {I:Addr} {fp wr:List Addr} {G:Array GenState->Array GenState->Prop} {n:Nat} {P:Nat->Value->Prop} {St:Nat->Shared->Prop} {κ:Type} [DecidableEq κ] {knd:PySem.KeyKind prog w κ}
end
section
variable {prog:Program} {w:World} {A:Around} {E:Value->Shared->Prop} {s:Shared} {κ:Type} [DecidableEq κ] {knd:PySem.KeyKind prog w κ}
end
section
variable {X:Cx} {pins:List (Addr × Obj)} {σ:L2.St} {H S:Hp} {s:Shared} {as:List Addr}
inductive Kv (h:Heap) (prog:Program) (w:World):List Value->List L2.Key->List Value->Prop where
 | nil:Kv h prog w [] [] []
 | cons {t:Addr} {kx wv:Value} {o:Obj} {n:Nat} {q:L2.Key} {us:List Value} {qs:List L2.Key} {ws:List Value}:h.get? t=some o->o.cls=.type "tuple" -> o.data=.seq #[kx,wv] n->(Bk prog w).is q kx=true ->
   Kv h prog w us qs ws->Kv h prog w (.ref t::us) (q::qs) (wv::ws)
theorem Kv.len {h:Heap} {prog:Program} {w:World}:∀ {us:List Value} {qs:List L2.Key} {ws:List Value},Kv h prog w us qs ws->us.length=qs.length/\us.length=ws.length:=by
 intro us qs ws h
 induction h with
 | nil=>exact ⟨rfl,rfl⟩
 | cons _ _ _ _ _ ih=>exact ⟨iX (· + 1) ih.1,iX (· + 1) ih.2⟩
end
section
variable {X:Cx} {B:Bas} {a:Expr} {m:M T} {pos p:Pos}
end
theorem qd.zero {P:Program} {w:World} {K:PySem.W.Frag} {mg:Str->Option Value} {base:Heap} {x qual:Str} {st:Stmt} {f:Addr} {fd:FuncData} {ps:List Str} {k:Nat} (F:Fun K x qual st f fd) (h:mg x=some (.ref f)) (b:Binds K fd ps []):qd P w K mg base x k ps (fun _ _=>none):=by
 have no:∀ vs H Q E,¬ spF K ps.length (fun _ _=>none) vs H Q E:=fun vs H Q E z=>by
  obtain ⟨S,as,sto,ts,t,ae,_,_,_,_,e,_⟩:=z;cases e
 exact ⟨f,fd,⟨fun vs H Q E z=>absurd z (no vs H Q E),fun A outer s H args us vs Q E _ _ _ _ z=>absurd z (no vs H Q E)⟩,b,F.kp,h⟩
end C
end
section
namespace C
open PySem
noncomputable def uc:Nat->M Bool->S->S
 | 0,_,_=>fun _=>none
 | n+1,c,b=>fun s=>match c s with
  | some (false,s1)=>some (.next,s1)
  | some (true,s1)=>match b s1 with
   | some (.next,s2)=>uc n c b s2
   | some (.cont,s2)=>uc n c b s2
   | some (.brk,s2)=>some (.next,s2)
   | some (.ret v,s2)=>some (.ret v,s2)
   | none=>none
  | none=>none
noncomputable def a9f (i j:Nat):S:=fun s=>match s.env[i]? with
 | some (some (.lst xs,true))=>match xs[xs.length - 1]? with
  | some t=>some (.next,jz j t false (jz i (.lst xs.dropLast) true s))
  | none=>none
 | _=>none
end C
end
section
namespace C
open PySem PySem.Spec PyProof.Rows L2
theorem Yg {n:Nat} {c:M Bool} {b:S} {s s':Sta} {fl:Flow} (h:uc (n+1) c b s=some (fl,s')):(∃ s1,c s=some (false,s1)/\fl=.next/\s'=s1) \/
  ∃ s1 fb s2,c s=some (true,s1)/\b s1=some (fb,s2)/\(match fb with | .next=>uc n c b s2=some (fl,s') | .cont=>uc n c b s2=some (fl,s') | .brk=>fl=.next/\s'=s2 | .ret v=>fl=.ret v/\s'=s2):=by
 rw [uc] at h;dsimp only at h;split at h
 ·rename_i s1 e1; cases h; exact .inl ⟨_,e1,rfl,rfl⟩
 ·rename_i s1 e1;split at h
  ·rename_i s2 e2; exact .inr ⟨s1,.next,s2,e1,e2,h⟩
  ·rename_i s2 e2; exact .inr ⟨s1,.cont,s2,e1,e2,h⟩
  ·rename_i s2 e2; cases h; exact .inr ⟨s1,.brk,_,e1,e2,rfl,rfl⟩
  ·rename_i v s2 e2; cases h; exact .inr ⟨s1,.ret v,_,e1,e2,rfl,rfl⟩
  ·cases h
 ·cases h
theorem a6d {i j:Nat} {s s':Sta} {fl:Flow} (h:a9f i j s=some (fl,s')):∃ xs t,s.env[i]? = some (some (.lst xs,true))/\xs[xs.length - 1]? = some t/\fl=.next/\s'=jz j t false (jz i (.lst xs.dropLast) true s):=by
 unfold a9f at h;split at h
 ·rename_i xs e;split at h
  ·rename_i t e2; cases h; exact ⟨xs,t,e,e2,rfl,rfl⟩
  ·cases h
 ·cases h
theorem qb.dropLast {K:PySem.W.Frag} {S:Hp} {as:List Addr}:∀ {vs:List V} {ts:List T},qb K S as vs ts->qb K S as vs.dropLast ts.dropLast
 | _,_,.nil=>.nil
 | _,_,.cons h .nil=>.nil
 | _,_,.cons h (.cons h2 r)=>.cons h (qb.dropLast (.cons h2 r))
section
variable {X:Cx} {B:Bas} {c e:Expr} {m:M T} {pos p:Pos} {u:S} {body:List Stmt}
theorem W9 (n:Nat) {mc:M Bool} (hp:PassesOwn (model X.prog X.w) X.A X.env X.xe) (hc:PT X c (cOf X.K B mc)) (hb:PSs X body (sOf X.K B u)):PS X (.While c body [] pos) (sOf X.K B (uc n mc u)):=(Wb hp hc hb).imp fun D σ H z9=>by
 obtain ⟨st,ps,S,as,R,fl,aa,e,q⟩:=z9;refine ⟨fun k σ H=>∃ aG Si aE,Rel X.K B aG σ H ps Si aE/\uc k mc u aG=some (fl,aa),⟨n,st,S,as,R,e⟩,?_⟩;rintro k bG H2 ⟨aG,Si,aE,Ri,ei⟩;cases k with
 | zero=>rw [uc] at ei; cases ei
 | succ k =>
  rcases Yg ei with ⟨s1,e1,rfl,rfl⟩ | ⟨s1,fb,s2,e1,e2,er⟩
  ·exact ⟨aG,ps,Si,aE,Ri,false,_,e1,fun H3 S3 aK R3=>Zw (q bG H3 S3 aK R3)⟩
  ·refine ⟨aG,ps,Si,aE,Ri,true,s1,e1,fun H3 S3 aK R3=>a1l ⟨fun ag H'=>∃ aG Si aE,Rel X.K B aG ag H' ps Si aE/\uc k mc u aG=some (fl,aa),fun ag H' h=>⟨k,jZ _,h⟩,s1,ps,S3,aK,R3,fb,s2,e2,?_⟩⟩;cases fb with
   | next=>exact fun ag H' S' av R'=>⟨s2,S',av,R',er⟩
   | cont=>exact fun ag H' S' av R'=>⟨s2,S',av,R',er⟩
   | brk =>
    obtain ⟨rfl,rfl⟩:=er;exact fun ag H' S' av R'=>q ag H' S' av R'
   | ret v =>
    obtain ⟨rfl,rfl⟩:=er;exact fun v ag H' S' av R'=>q v ag H' S' av R'
theorem ad8 (i j:Nat) {st:Stmt} (h:PS X st (a90 (afo X.K "list" afe (Y8 i)) (Mv j))):PS X st (sOf X.K B (a9f i j)):=h.imp fun D σ H z9=>by
 obtain ⟨st,ps,S,as,R,fl,aa,e,q⟩:=z9;obtain ⟨xs,t,e2,e3,rfl,rfl⟩:=a6d e;obtain ⟨w,h1,_,h3⟩:=R.slots i _ true e2;obtain ⟨p0,rfl,ow⟩:=h3 rfl;obtain ⟨vs,hH,h4⟩:=ow.own;obtain ⟨y,hy,ry⟩:=h4.get e3;have c9:vs[vs.length - 1]? = some y:=by rw [h4.length]; exact hy
 have R2:=R.turn (ob:=.lst vs.dropLast) (t':=.lst xs.dropLast) e2 h1 ⟨_,dj,h4.dropLast⟩;exact ⟨_,h1,.inl ⟨rfl,_,SqL.of hH⟩,p0,vs,y,rfl,rfl,hH,c9,q _ _ S as (R2.put (i:=j) ry)⟩
end
section
variable {X:Cx} {B:Bas} {e st:Expr} {te:TE} {m:M T} {pos p2 p3 p4:Pos} {j:Nat}
end
end C
end
section
namespace C
open PySem
def a5p (xs ys:List T):List T:=(xs.zip ys).map fun p=>.tup [p.1,p.2]
noncomputable def a79 (a b:M T):M (List T):=fun s=>match a s with
 | some (t,s1)=>match b s1 with
  | some (u,s2)=>match J4 t,J4 u with
   | some xs,some ys=>if xs.length<lim/\ys.length<lim then some (a5p xs ys,s2) else none
   | _,_=>none
  | none=>none
 | none=>none
noncomputable def sIx (n d:Nat):Option Int->Nat
 | none=>d
 | some v=>if v<0 then (v+(n:Int)).toNat else min v.toNat n
noncomputable def Od (xs:List T) (lo hi:Option Int):List T:=(xs.drop (sIx xs.length 0 lo)).take (sIx xs.length xs.length hi - sIx xs.length 0 lo)
def ab6 (lo hi:Option Int):T->Option T
 | .lst xs=>some (.lst (Od xs lo hi))
 | _=>none
def ou:M (Option Int):=fun s=>some (none,s)
noncomputable def qe (e:M T):M (Option Int):=fun s=>match e s with
 | some (.int i,s1)=>some (some i,s1)
 | _=>none
noncomputable def Ao (m:M T) (lo hi:M (Option Int)):M T:=fun s=>match m s with
 | some (t,s1)=>match lo s1 with
  | some (l,s2)=>match hi s2 with
   | some (h,s3)=>match ab6 l h t with
    | some u=>some (u,s3)
    | none=>none
   | none=>none
  | none=>none
 | none=>none
noncomputable def zj (i:Nat) (k:M T):M T:=fun s=>if Az i s then (match k s with
 | some (.int j,s1)=>match s1.env[i]? with
  | some (some (.lst xs,_))=>match (ixI xs.length j).bind (xs[·]?) with
   | some t=>some (t,s1)
   | none=>none
  | _=>none
 | _=>none) else none
end C
end
section
namespace C
open PySem PySem.Sem
def Hr:Bool->Heap->Addr->Addr->Nat->Prop
 | true,h,it,a,i=>h.IsListIter it a i
 | false,h,it,a,i=>h.IsTupleIter it a i
def Dv:Bool->Heap->Addr->Array Value->Prop
 | true,h,a,xs=>h.IsList a xs
 | false,h,a,xs=>h.IsTuple a xs
theorem Hr.to {k:Bool} {h h':Heap} {it a:Addr} {i:Nat} (x:Hr k h it a i) (e:∀ o,h.get? it=some o->h'.get? it=some o):Hr k h' it a i:=by
 cases k <;> obtain ⟨o,ho,r⟩:=x <;> exact ⟨o,e o ho,r⟩
theorem Hr.obj {k:Bool} {h:Heap} {it a:Addr} {i:Nat} (x:Hr k h it a i):∃ o,h.get? it=some o/\∀ v,o.data≠.cell v:=by
 cases k <;> obtain ⟨o,ho,_,d⟩:=x <;> exact ⟨o,ho,fun v z=>by rw [d] at z; cases z⟩
theorem Dv.to {k:Bool} {h h':Heap} {a:Addr} {xs:Array Value} (x:Dv k h a xs) (e:∀ o,h.get? a=some o->h'.get? a=some o):Dv k h' a xs:=by
 cases k <;> obtain ⟨o,ho,r⟩:=x <;> exact ⟨o,e o ho,r⟩
section
variable {prog:Program} {w:World} {A:Around} {E:Value->Shared->Prop} {s:Shared}
theorem nextT {it t:Addr} {i:Nat} {xs:Array Value} {x:Value} {Q:Value->Shared->Prop} (h1:s.heap.IsTupleIter it t i) (h2:s.heap.IsTuple t xs) (h3:xs[i]? = some x)
  (q:∀ h',h'.IsTupleIter it t (i+1)->Heap.SameBut it s.heap h'->Q x { s with heap:=h' }):wpAny (model prog w) A (Builtin.SmallTypes.nextOf (.ref it)) Q E s:=by
 have ty:s.TypeIs (.ref it) "tuple_iterator" := h1.typeIs;obtain ⟨oi,gi,ci,di⟩:=h1;obtain ⟨ot,gt,_,m,dt⟩:=h2
 have upd:∀ (h':Heap),h'=s.heap.update it (Obj.mapFields (·.setIfInBounds 1 (rawInt ((i:Int)+1))))->h'.IsTupleIter it t (i+1):=fun h' e=>by
  subst e;refine ⟨_,km _ gi (lT (kE di _)),(Obj.cls_mapFields ..).trans ci,?_⟩;rw [kE di]; rfl
 unfold Builtin.SmallTypes.nextOf;refine hJ (kA (name:=Str.ofString "__next__") ty lU (kB lU ty F.entry_tuple_iterator_next ?_ (mZ _)));refine (show wpAny _ _ (field (.ref it) 0 >>= _) _ _ s from hJ (iH gi di (x:=.ref t) rfl ?_));dsimp only;rw [hV (by intro z; cases z)];refine (show wpAny _ _ (field (.ref it) 1 >>= _) _ _ s from hJ (iH gi di (x:=.int i 0) rfl ?_));refine (show wpAny _ _ (seqItems? (.ref t) >>= _) _ _ s from hJ (kn gt dt ?_));dsimp only;rw [mM,h3];exact hJ (kF gi di (by simp) (ia ⟨x,rfl,ia (q _ (upd _ rfl) (Heap.SameBut.update ..))⟩))
theorem a1r {it t:Addr} {i:Nat} {xs:Array Value} {Q:Value->Shared->Prop} (hh:A.handled=none) (h1:s.heap.IsTupleIter it t i) (h2:s.heap.IsTuple t xs) (h3:xs[i]? = none)
  (q:∀ h' e,Heap.ExtBut it s.heap h'->(∃ o,h'.get? e=some o/\o.cls=.type "StopIteration")->E (.ref e) { s with heap:=h' }):wpAny (model prog w) A (Builtin.SmallTypes.nextOf (.ref it)) Q E s:=by
 have ty:s.TypeIs (.ref it) "tuple_iterator" := h1.typeIs;obtain ⟨oi,gi,ci,di⟩:=h1;obtain ⟨ot,gt,_,m,dt⟩:=h2;unfold Builtin.SmallTypes.nextOf;refine hJ (kA (name:=Str.ofString "__next__") ty lU (kB lU ty F.entry_tuple_iterator_next ?_ (mZ _)));refine (show wpAny _ _ (field (.ref it) 0 >>= _) _ _ s from hJ (iH gi di (x:=.ref t) rfl ?_));dsimp only;rw [hV (by intro z; cases z)];refine (show wpAny _ _ (field (.ref it) 1 >>= _) _ _ s from hJ (iH gi di (x:=.int i 0) rfl ?_));refine (show wpAny _ _ (seqItems? (.ref t) >>= _) _ _ s from hJ (kn gt dt ?_));dsimp only;rw [mM,h3];refine hJ (wpAny_rule (hJ (kF gi di (by simp) ?_)));refine (show wpAny _ _ (newExc (.type "StopIteration") [] >>= _) _ _ _ from hJ ?_);simp only [newExc,newTuple];refine hJ (jP (hJ (m:=firstArgMember _ _) (wpAny_of_eq (a:=Value.none) (by first | rfl | (simp only [firstArgMember]; rfl)) (jP ?_ (by size_fits)))) (by size_fits));simp only [raiseNew];refine hJ (wpAny_handled ?_);rw [show A.in1.handled=none from hh];exact hJ (ia (wpAny_throw (q _ _ (((Heap.SameBut.update ..).extBut.push _).push _) ⟨_,iI _ rfl,rfl⟩)))
theorem Ni {k:Bool} {it a:Addr} {i:Nat} {xs:Array Value} {x:Value} {Q:Value->Shared->Prop} (h1:Hr k s.heap it a i) (h2:Dv k s.heap a xs) (h3:xs[i]? = some x)
  (q:∀ h',Hr k h' it a (i+1)->Heap.SameBut it s.heap h'->Q x { s with heap:=h' }):wpAny (model prog w) A (Builtin.SmallTypes.nextOf (.ref it)) Q E s:=by
 cases k with
 | true=>exact wpAny_nextOf_list_item h1 h2 h3 q
 | false=>exact nextT h1 h2 h3 q
theorem Il {k:Bool} {it a:Addr} {i:Nat} {xs:Array Value} {Q:Value->Shared->Prop} (hh:A.handled=none) (h1:Hr k s.heap it a i) (h2:Dv k s.heap a xs) (h3:xs[i]? = none)
  (q:∀ h' e,Heap.ExtBut it s.heap h'->(∃ o,h'.get? e=some o/\o.cls=.type "StopIteration")->E (.ref e) { s with heap:=h' }):wpAny (model prog w) A (Builtin.SmallTypes.nextOf (.ref it)) Q E s:=by
 cases k with
 | true=>exact wpAny_nextOf_list_end hh h1 h2 h3 q
 | false=>exact a1r hh h1 h2 h3 q
end
structure Pa (h:Heap) (z ti aA i1 i2:Addr) (f:Value):Prop where
 zip:IsZip h z ti aA f
 its:IsPair h ti (.ref i1) (.ref i2)
 kept:∃ a b,IsPair h aA a b
structure Far (z ti aA i1 i2:Addr):Prop where
 nd:[z,ti,aA,i1,i2].Nodup
theorem Far.all {z ti aA i1 i2:Addr} (f:Far z ti aA i1 i2):ti≠z/\aA≠z/\i1≠z/\i2≠z/\ti≠aA/\ti≠i1/\ti≠i2/\aA≠i1/\aA≠i2/\i1≠i2:=by
 have:=f.nd;simp only [List.nodup_cons,List.mem_cons,List.not_mem_nil,or_false,not_or] at this;obtain ⟨⟨a,b,c,d⟩,⟨e,f,g⟩,⟨h,i⟩,j,_⟩:=this;exact ⟨Ne.symm a,Ne.symm b,Ne.symm c,Ne.symm d,e,f,g,h,i,j⟩
def a07 (z aA i1 i2:Addr) (h h':Heap):Prop:=∀ c o,c≠z->c≠aA->c≠i1->c≠i2->h.get? c=some o->h'.get? c=some o
section
variable {prog:Program} {w:World} {A:Around} {E:Value->Shared->Prop} {s:Shared}
theorem a4t {k1 k2:Bool} {z ti aA i1 i2 a1 a2:Addr} {j1 j2:Nat} {xs ys:Array Value} {x y:Value} {Q:Value->Shared->Prop} (D:Far z ti aA i1 i2) (Z:Pa s.heap z ti aA i1 i2 .none)
  (h1:Hr k1 s.heap i1 a1 j1) (h2:Hr k2 s.heap i2 a2 j2) (r1:Dv k1 s.heap a1 xs) (r2:Dv k2 s.heap a2 ys) (n2:a2≠z/\a2≠aA/\a2≠i1/\a2≠i2) (n1:a1≠z) (hx:xs[j1]? = some x) (hy:ys[j2]? = some y)
  (q:∀ h',Pa h' z ti aA i1 i2 (rawInt s.heap.objs.size)->Hr k1 h' i1 a1 (j1+1)->Hr k2 h' i2 a2 (j2+1)->IsPair h' s.heap.objs.size x y->a07 z aA i1 i2 s.heap h'->Q (.ref s.heap.objs.size) { s with heap:=h' }) :
  wpAny (model prog w) A (Builtin.«zip.__next__» ⟨[.ref z],[]⟩) (fun fin s'=>∃ v,fin=.done (.ret v)/\Q v s') E s:=by
 obtain ⟨hz,hI,a,b,hO⟩:=Z;obtain ⟨d1,d2,d3,d4,d5,d6,d7,d8,d9,d10⟩:=D.all;refine (show wpAny _ _ (field (.ref z) 2 >>= _) _ _ _ from hJ (iH hz rfl (x:=.bool false) rfl ?_));refine (show wpAny _ _ (field (.ref z) 3 >>= _) _ _ _ from hJ (iH hz rfl (x:=.ref ti) rfl (hJ (kn hI rfl ?_))));refine (show wpAny _ _ (Builtin.SmallTypes.ownedTupleIsFree (.ref z) >>= _) _ _ _ from hJ ?_);unfold Builtin.SmallTypes.ownedTupleIsFree;refine hJ (iH hz rfl (x:=.none) rfl (ia ?_));dsimp only;rw [hU rfl];refine hJ (wpAny_rule (hJ (iH hz rfl (x:=.ref aA) rfl (hJ (lh hz (by simp) fun g1 z1 s1=>hJ ?_)))));have z1:IsZip g1 z ti aA .ellipsis:=z1;simp only [List.zipIdx_cons,List.zipIdx_nil,List.forIn_cons,List.forIn_nil];refine hJ (hJ (lr (show wpAny _ _ (Builtin.SmallTypes.nextOf (.ref i1) >>= _) _ _ _ from hJ (Ni (h1.to fun o e=>s1.extBut _ _ d3 e) (r1.to fun o e=>s1.extBut _ _ n1 e) hx fun g2 t2 s2=>ia ?_))));have o2:IsPair g2 aA a b:=s2.extBut _ _ d8 (s1.extBut _ _ d2 hO);refine hJ (kn o2 rfl (hJ (mN o2 fun g3 o3 s3=>hJ (wpAny_letGo (ia ?_)))));have o3:IsPair g3 aA x b:=o3;have e3:∀ c o,c≠z->c≠i1->c≠aA->s.heap.get? c=some o->g3.get? c=some o:=fun c o c1 c2 c3 e=>s3.extBut _ _ c3 (s2.extBut _ _ c2 (s1.extBut _ _ c1 e));refine hJ (hJ (lr (show wpAny _ _ (Builtin.SmallTypes.nextOf (.ref i2) >>= _) _ _ _ from hJ (Ni (h2.to fun o e=>e3 _ o d4 (Ne.symm d10) (Ne.symm d9) e) (r2.to fun o e=>e3 _ o n2.1 n2.2.2.1 n2.2.1 e) hy fun g4 t4 s4=>ia ?_))));have o4:IsPair g4 aA x b:=s4.extBut _ _ d9 o3;refine hJ (kn o4 rfl (hJ (mN o4 fun g5 o5 s5=>hJ (wpAny_letGo (ia (ia ?_))))));have o5:IsPair g5 aA x y:=o5;have sz:g5.objs.size=s.heap.objs.size:=by rw [s5.1,s4.1,s3.1,s2.1,s1.1]
 have z5:IsZip g5 z ti aA .ellipsis:=s5.extBut _ _ (Ne.symm d2) (s4.extBut _ _ (Ne.symm d4) (s3.extBut _ _ (Ne.symm d2) (s2.extBut _ _ (Ne.symm d3) z1)));have t5:Hr k1 g5 i1 a1 (j1+1):=t2.to fun o e=>s5.extBut _ _ (Ne.symm d8) (s4.extBut _ _ d10 (s3.extBut _ _ (Ne.symm d8) e));have u5:Hr k2 g5 i2 a2 (j2+1):=t4.to fun o e=>s5.extBut _ _ (Ne.symm d9) e;refine hJ (kn o5 rfl (hJ (wpAny_newTuple ?_)));refine (show wpAny _ _ (Builtin.SmallTypes.ownedTupleHandOut (.ref z) (.ref g5.objs.size) >>= _) _ _ _ from hJ ?_);unfold Builtin.SmallTypes.ownedTupleHandOut;have z6:IsZip (g5.push { cls:=.type "tuple",data:=.seq #[x,y] }) z ti aA .ellipsis:=ix _ z5;refine hJ (lh z6 (by simp) fun g7 z7 s7=>?_);have z7:IsZip g7 z ti aA (rawInt g5.objs.size):=z7;refine lh z7 (by simp) fun g8 z8 s8=>ia ⟨_,rfl,?_⟩;have z8:IsZip g8 z ti aA (rawInt g5.objs.size):=z8;have e8:∀ c o,c≠z->g5.get? c=some o->g8.get? c=some o:=fun c o c1 e=>s8.extBut _ _ c1 (s7.extBut _ _ c1 (ix _ e));have p8:IsPair g8 g5.objs.size x y:=s8.extBut _ _ (kl (iq z5)) (s7.extBut _ _ (kl (iq z5)) (iI _ rfl));have all:∀ c o,c≠z->c≠aA->c≠i1->c≠i2->s.heap.get? c=some o->g8.get? c=some o:=fun c o c1 c2 c3 c4 e=>e8 c o c1 (s5.extBut _ _ c2 (s4.extBut _ _ c4 (e3 c o c1 c3 c2 e)));rw [sz] at z8 p8;show Q (.ref g5.objs.size) _;rw [sz];exact q g8 ⟨z8,all _ _ d1 d5 d6 d7 hI,x,y,e8 _ _ d2 o5⟩ (t5.to fun o e=>e8 _ o d3 e) (u5.to fun o e=>e8 _ o d4 e) p8 all
theorem a5t {k1 k2:Bool} {z ti aA i1 i2 a1 a2:Addr} {j1 j2:Nat} {xs ys:Array Value} {Q:PySem.Fin->Shared->Prop} (hh:A.handled=none) (D:Far z ti aA i1 i2) (Z:Pa s.heap z ti aA i1 i2 .none)
  (h1:Hr k1 s.heap i1 a1 j1) (h2:Hr k2 s.heap i2 a2 j2) (r1:Dv k1 s.heap a1 xs) (r2:Dv k2 s.heap a2 ys) (n2:a2≠z/\a2≠aA/\a2≠i1/\a2≠i2) (n1:a1≠z) (cK:xs[j1]? = none\/ys[j2]? = none)
  (q:∀ h' e,a07 z aA i1 i2 s.heap h'->(∃ o,h'.get? e=some o/\o.cls=.type "StopIteration")->E (.ref e) { s with heap:=h' }) :
  wpAny (model prog w) A (Builtin.«zip.__next__» ⟨[.ref z],[]⟩) Q E s:=by
 obtain ⟨hz,hI,a,b,hO⟩:=Z;obtain ⟨d1,d2,d3,d4,d5,d6,d7,d8,d9,d10⟩:=D.all;refine (show wpAny _ _ (field (.ref z) 2 >>= _) _ _ _ from hJ (iH hz rfl (x:=.bool false) rfl ?_));refine (show wpAny _ _ (field (.ref z) 3 >>= _) _ _ _ from hJ (iH hz rfl (x:=.ref ti) rfl (hJ (kn hI rfl ?_))));refine (show wpAny _ _ (Builtin.SmallTypes.ownedTupleIsFree (.ref z) >>= _) _ _ _ from hJ ?_);unfold Builtin.SmallTypes.ownedTupleIsFree;refine hJ (iH hz rfl (x:=.none) rfl (ia ?_));dsimp only;rw [hU rfl];refine hJ (wpAny_rule (hJ (iH hz rfl (x:=.ref aA) rfl (hJ (lh hz (by simp) fun g1 z1 s1=>hJ ?_)))));have z1:IsZip g1 z ti aA .ellipsis:=z1;simp only [List.zipIdx_cons,List.zipIdx_nil,List.forIn_cons,List.forIn_nil]
 have fin:∀ (g:Heap) (e:Addr) (zg:IsZip g z ti aA .ellipsis) (he:∃ o,g.get? e=some o/\o.cls=.type "StopIteration") (kg:a07 z aA i1 i2 s.heap g),wpAny (model prog w) A (setField (.ref z) 0 .none) (fun _ s'=>E (.ref e) s') E { s with heap:=g }:=fun g e zg ⟨o,ho,hc⟩ kg=>by
  have ne:e≠z:=fun x=>by subst x; rw [zg] at ho; cases ho; simp at hc
  exact lh zg (by simp) fun g' _ s'=>q g' e (fun c o c1 c2 c3 c4 x=>s'.extBut _ _ c1 (kg c o c1 c2 c3 c4 x)) ⟨o,s'.extBut _ _ ne ho,hc⟩
 cases hx:xs[j1]? with
 | none =>
  refine hJ (hJ (lr (show wpAny _ _ (Builtin.SmallTypes.nextOf (.ref i1) >>= _) _ _ _ from hJ (Il hh (h1.to fun o e=>s1.extBut _ _ d3 e) (r1.to fun o e=>s1.extBut _ _ n1 e) hx fun g2 e s2 he=>?_))));exact fin g2 e (s2 _ _ (Ne.symm d3) z1) he fun c o c1 _ c3 _ x=>s2 _ _ c3 (s1.extBut _ _ c1 x)
 | some x =>
  have hy:ys[j2]? = none:=cK.resolve_left fun h=>by rw [hx] at h; cases h
  refine hJ (hJ (lr (show wpAny _ _ (Builtin.SmallTypes.nextOf (.ref i1) >>= _) _ _ _ from hJ (Ni (h1.to fun o e=>s1.extBut _ _ d3 e) (r1.to fun o e=>s1.extBut _ _ n1 e) hx fun g2 t2 s2=>ia ?_))));have o2:IsPair g2 aA a b:=s2.extBut _ _ d8 (s1.extBut _ _ d2 hO);refine hJ (kn o2 rfl (hJ (mN o2 fun g3 o3 s3=>hJ (wpAny_letGo (ia ?_)))));have e3:∀ c o,c≠z->c≠i1->c≠aA->s.heap.get? c=some o->g3.get? c=some o:=fun c o c1 c2 c3 e=>s3.extBut _ _ c3 (s2.extBut _ _ c2 (s1.extBut _ _ c1 e));refine hJ (hJ (lr (show wpAny _ _ (Builtin.SmallTypes.nextOf (.ref i2) >>= _) _ _ _ from hJ (Il hh (h2.to fun o e=>e3 _ o d4 (Ne.symm d10) (Ne.symm d9) e) (r2.to fun o e=>e3 _ o n2.1 n2.2.2.1 n2.2.1 e) hy fun g4 e s4 he=>?_))));exact fin g4 e (s4 _ _ (Ne.symm d4) (s3.extBut _ _ (Ne.symm d2) (s2.extBut _ _ (Ne.symm d3) z1))) he fun c o c1 c2 c3 c4 x=>s4 _ _ c4 (e3 c o c1 c3 c2 x)
theorem a6g {k1 k2:Bool} {z ti aA i1 i2 a1 a2:Addr} {j1 j2:Nat} {xs ys:Array Value} {x y:Value} {Q:Option Value->Shared->Prop} (D:Far z ti aA i1 i2) (Z:Pa s.heap z ti aA i1 i2 .none)
  (h1:Hr k1 s.heap i1 a1 j1) (h2:Hr k2 s.heap i2 a2 j2) (r1:Dv k1 s.heap a1 xs) (r2:Dv k2 s.heap a2 ys) (n2:a2≠z/\a2≠aA/\a2≠i1/\a2≠i2) (n1:a1≠z) (hx:xs[j1]? = some x) (hy:ys[j2]? = some y)
  (q:∀ h',Pa h' z ti aA i1 i2 (rawInt s.heap.objs.size)->Hr k1 h' i1 a1 (j1+1)->Hr k2 h' i2 a2 (j2+1)->IsPair h' s.heap.objs.size x y->a07 z aA i1 i2 s.heap h'->Q (some (.ref s.heap.objs.size)) { s with heap:=h' }) :
  wpAny (model prog w) A (pyNext (.ref z)) Q E s:=by
 have ty:s.TypeIs (.ref z) "zip" := ⟨_,Z.zip,rfl⟩;unfold pyNext
 exact hJ (wpAny_attempt (kA (name:=Str.ofString "__next__") ty lV (kB lV ty F.entry_zip_next
  (a4t D Z h1 h2 r1 r2 n2 n1 hx hy fun h' a b c d e=>ia (q h' a b c d e)) (F.args_zip_next_1 _))))
theorem a5x {k1 k2:Bool} {z ti aA i1 i2 a1 a2:Addr} {j1 j2:Nat} {xs ys:Array Value} {Q:Option Value->Shared->Prop} (hh:A.handled=none) (D:Far z ti aA i1 i2) (Z:Pa s.heap z ti aA i1 i2 .none)
  (h1:Hr k1 s.heap i1 a1 j1) (h2:Hr k2 s.heap i2 a2 j2) (r1:Dv k1 s.heap a1 xs) (r2:Dv k2 s.heap a2 ys) (n2:a2≠z/\a2≠aA/\a2≠i1/\a2≠i2) (n1:a1≠z) (cK:xs[j1]? = none\/ys[j2]? = none)
  (q:∀ h',a07 z aA i1 i2 s.heap h'->Q none { s with heap:=h' }):wpAny (model prog w) A (pyNext (.ref z)) Q E s:=by
 have ty:s.TypeIs (.ref z) "zip" := ⟨_,Z.zip,rfl⟩;unfold pyNext
 refine hJ (wpAny_attempt (kA (name:=Str.ofString "__next__") ty lV (kB lV ty F.entry_zip_next
  (a5t hh D Z h1 h2 r1 r2 n2 n1 cK fun h' e kp he=>?_) (F.args_zip_next_1 _))))
 obtain ⟨o,ho,hc⟩:=he;exact hJ (wpAny_isInstance (T := "StopIteration") (b:=true) ⟨o,ho,hc⟩ isSubtype_stop (ia (q _ kp)))
end
abbrev a0j (k:Bool) (a:Addr):Obj:={ cls:=.type (if k then "list_iterator" else "tuple_iterator"),data:=.fields #[.ref a,.int 0 0] }
abbrev zh1 (h:Heap) (k1:Bool) (a1:Addr):Heap:=h.push (a0j k1 a1)
abbrev zh2 (h:Heap) (k1 k2:Bool) (a1 a2:Addr):Heap:=(zh1 h k1 a1).push (a0j k2 a2)
abbrev zh3 (h:Heap) (k1 k2:Bool) (a1 a2:Addr):Heap:=(zh2 h k1 k2 a1 a2).push { cls:=.type "tuple",data:=.seq #[.ref h.objs.size,.ref (zh1 h k1 a1).objs.size] }
abbrev zh4 (h:Heap) (k1 k2:Bool) (a1 a2:Addr):Heap:=(zh3 h k1 k2 a1 a2).push { cls:=.type "tuple",data:=.seq #[.none,.none] }
abbrev zh5 (h:Heap) (k1 k2:Bool) (a1 a2:Addr):Heap:=(zh4 h k1 k2 a1 a2).push { cls:=.type "zip",data:=.fields #[.none,.bool false,.bool false,.ref (zh2 h k1 k2 a1 a2).objs.size,.ref (zh3 h k1 k2 a1 a2).objs.size] }
set_option maxHeartbeats 4000000 in
theorem T5 (a1 a2:Addr) (xs ys:Array Value):Meets (Builtin.«zip.__new__» ⟨[.type "zip",.ref a1,.ref a2],[]⟩) (fun _ R s=>s.heap.IsTuple a1 xs/\s.heap.IsTuple a2 ys /\
   R (.ok (.ret (.ref (zh4 s.heap false false a1 a2).objs.size))) { s with heap:=zh5 s.heap false false a1 a2 }) :=
 .of_wp fun prog w A R s z9=>by
  obtain ⟨r1,r2,fin⟩:=z9;obtain ⟨hp,g,d,tk,os⟩:=s;have cJ:=sub_zip;have q1:Heap.IsTuple (Shared.heap ⟨hp,g,d,tk,os⟩) a1 xs:=r1;have q2:Heap.IsTuple (Shared.heap ⟨hp.push { cls:=.type "tuple_iterator",data:=.fields #[.ref a1,.int 0 0] },g,d,tk,os⟩) a2 ys:=Heap.IsTuple.push r2 _
  wp_walk using la q1,la q2
  exact ⟨_,rfl,fin⟩
set_option maxHeartbeats 4000000 in
theorem T9 (a1 a2:Addr) (xs ys:Array Value):Meets (Builtin.«zip.__new__» ⟨[.type "zip",.ref a1,.ref a2],[]⟩) (fun _ R s=>s.heap.IsTuple a1 xs/\s.heap.IsList a2 ys /\
   R (.ok (.ret (.ref (zh4 s.heap false true a1 a2).objs.size))) { s with heap:=zh5 s.heap false true a1 a2 }) :=
 .of_wp fun prog w A R s z9=>by
  obtain ⟨r1,r2,fin⟩:=z9;obtain ⟨hp,g,d,tk,os⟩:=s;have cJ:=sub_zip;have q1:Heap.IsTuple (Shared.heap ⟨hp,g,d,tk,os⟩) a1 xs:=r1;have q2:Heap.IsList (Shared.heap ⟨hp.push { cls:=.type "tuple_iterator",data:=.fields #[.ref a1,.int 0 0] },g,d,tk,os⟩) a2 ys:=Heap.IsList.push r2 _
  wp_walk using la q1,kC q2
  exact ⟨_,rfl,fin⟩
set_option maxHeartbeats 4000000 in
theorem Ui (a1 a2:Addr) (xs ys:Array Value):Meets (Builtin.«zip.__new__» ⟨[.type "zip",.ref a1,.ref a2],[]⟩) (fun _ R s=>s.heap.IsList a1 xs/\s.heap.IsTuple a2 ys /\
   R (.ok (.ret (.ref (zh4 s.heap true false a1 a2).objs.size))) { s with heap:=zh5 s.heap true false a1 a2 }) :=
 .of_wp fun prog w A R s z9=>by
  obtain ⟨r1,r2,fin⟩:=z9;obtain ⟨hp,g,d,tk,os⟩:=s;have cJ:=sub_zip;have q1:Heap.IsList (Shared.heap ⟨hp,g,d,tk,os⟩) a1 xs:=r1;have q2:Heap.IsTuple (Shared.heap ⟨hp.push { cls:=.type "list_iterator",data:=.fields #[.ref a1,.int 0 0] },g,d,tk,os⟩) a2 ys:=Heap.IsTuple.push r2 _
  wp_walk using kC q1,la q2
  exact ⟨_,rfl,fin⟩
set_option maxHeartbeats 4000000 in
theorem S7 (a1 a2:Addr) (xs ys:Array Value):Meets (Builtin.«zip.__new__» ⟨[.type "zip",.ref a1,.ref a2],[]⟩) (fun _ R s=>s.heap.IsList a1 xs/\s.heap.IsList a2 ys /\
   R (.ok (.ret (.ref (zh4 s.heap true true a1 a2).objs.size))) { s with heap:=zh5 s.heap true true a1 a2 }) :=
 .of_wp fun prog w A R s z9=>by
  obtain ⟨r1,r2,fin⟩:=z9;obtain ⟨hp,g,d,tk,os⟩:=s;have cJ:=sub_zip;have q1:Heap.IsList (Shared.heap ⟨hp,g,d,tk,os⟩) a1 xs:=r1;have q2:Heap.IsList (Shared.heap ⟨hp.push { cls:=.type "list_iterator",data:=.fields #[.ref a1,.int 0 0] },g,d,tk,os⟩) a2 ys:=Heap.IsList.push r2 _
  wp_walk using kC q1,kC q2
  exact ⟨_,rfl,fin⟩
theorem a4y (k1 k2:Bool) (a1 a2:Addr) (xs ys:Array Value):Meets (Builtin.«zip.__new__» ⟨[.type "zip",.ref a1,.ref a2],[]⟩) (fun _ R s=>Dv k1 s.heap a1 xs/\Dv k2 s.heap a2 ys /\
   R (.ok (.ret (.ref (zh4 s.heap k1 k2 a1 a2).objs.size))) { s with heap:=zh5 s.heap k1 k2 a1 a2 }):=by
 cases k1 <;> cases k2
 ·exact T5 a1 a2 xs ys
 ·exact T9 a1 a2 xs ys
 ·exact Ui a1 a2 xs ys
 ·exact S7 a1 a2 xs ys
theorem Vv {k:Bool} {h:Heap} {p a:Addr} (e:h.get? p=some (a0j k a)):Hr k h p a 0:=by
 cases k <;> exact ⟨_,e,rfl,rfl⟩
section
variable {prog:Program} {w:World} {A:Around} {E:Value->Shared->Prop} {s:Shared}
theorem a4z {k1 k2:Bool} {a1 a2:Addr} {xs ys:Array Value} {Q:Value->Shared->Prop} (r1:Dv k1 s.heap a1 xs) (r2:Dv k2 s.heap a2 ys)
  (q:∀ h',Pa h' (s.heap.objs.size+4) (s.heap.objs.size+2) (s.heap.objs.size+3) s.heap.objs.size (s.heap.objs.size+1) .none->Hr k1 h' s.heap.objs.size a1 0->Hr k2 h' (s.heap.objs.size+1) a2 0 ->
   (∀ c o,s.heap.get? c=some o->h'.get? c=some o)->Q (.ref (s.heap.objs.size+4)) { s with heap:=h' }):wpAny (model prog w) A (call (.type "zip") [.ref a1,.ref a2]) Q E s:=by
 refine callType_new F.called_zip (by decide) (F.typeCall_zip_2 _ _) (F.newCall_zip_2 _ _) (fun obj=>F.args_object_init_3 obj _ _) F.entry_zip_new (a4y k1 k2 a1 a2 xs ys) ⟨r1,r2,?_⟩;have y1:(zh1 s.heap k1 a1).objs.size=s.heap.objs.size+1:=jU ..;have y2:(zh2 s.heap k1 k2 a1 a2).objs.size=s.heap.objs.size+2:=by rw [jU,y1]
 have y3:(zh3 s.heap k1 k2 a1 a2).objs.size=s.heap.objs.size+3:=by rw [jU,y2]
 have y4:(zh4 s.heap k1 k2 a1 a2).objs.size=s.heap.objs.size+4:=by rw [jU,y3]
 have up:∀ {h:Heap} {o:Obj} {c:Addr} {u:Obj},h.get? c=some u->(h.push o).get? c=some u:=fun e=>ix _ e;have g5:(zh5 s.heap k1 k2 a1 a2).get? (zh4 s.heap k1 k2 a1 a2).objs.size=some _:=iI _ rfl;have g4:(zh5 s.heap k1 k2 a1 a2).get? (zh3 s.heap k1 k2 a1 a2).objs.size=some _:=up (iI _ rfl);have g3:(zh5 s.heap k1 k2 a1 a2).get? (zh2 s.heap k1 k2 a1 a2).objs.size=some _:=up (up (iI _ rfl));have g2:(zh5 s.heap k1 k2 a1 a2).get? (zh1 s.heap k1 a1).objs.size=some (a0j k2 a2):=up (up (up (iI _ rfl)));have g1:(zh5 s.heap k1 k2 a1 a2).get? s.heap.objs.size=some (a0j k1 a1):=up (up (up (up (iI _ rfl))));show _/\_;rw [y2,y3,y4] at g5;rw [y1,y2] at g3;rw [y3] at g4;rw [y1] at g2;rw [y4];exact ⟨⟨_,g5,rfl⟩,q _ ⟨g5,g3,_,_,g4⟩ (Vv g1) (Vv g2) fun c o x=>up (up (up (up (up x))))⟩
end
end C
end
section
namespace C
open PySem PySem.Spec PyProof.Rows L2
theorem Inv.a9w {X:Cx} {pins:List (Addr × Obj)} {σ:L2.St} {H:Hp} {s:Shared} {h':Heap} {t':Nat} {ch:List Addr} {n:Addr} {o:HO} (I:L2.Inv X pins σ H s) (aV:∀ b∈ch,Kr X pins H b)
  (k:∀ b u,b∉ch->s.heap.get? b=some u->h'.get? b=some u) (hp:s.heap.objs.size<=n) (new:vq X.prog X.w (upd H n o) h' n o):L2.Inv X pins σ (upd H n o) { s with heap:=h',toks:=t' }:=by
 have fr:=I.hok.fresh hp;have nn:∀ b u,s.heap.get? b=some u->b≠n:=fun b u e=>iQ (iD (iq e) hp);have bW:∀ b u,H b=some u->b∉ch:=fun b u e z=>by rw [(aV b z).1] at e; cases e
 refine I.step (g':=s.gens) (d':=s.drawn) (ch:=ch) (fun b hb=>?_) (fun b u _ _ hc e _=>k b u hc e) (fun b u _ _ hc e _=>⟨u.slots,k b u hc e⟩) (fun b u _ e z=>by rw [gw (nn b u e)]; exact z)
  (fun b u hc e=>⟨u,k b u hc e⟩) (fun b xs e=>by rw [gw (o8 e fr)]; exact e) (fun b u xs e=>by rw [gw (o8 e fr)]; exact e) (fun b ps e=>⟨#[],by rw [gw (o8 e fr),e]; simp⟩) (fun m hm=>?_) (fun b u e=>?_) I.bare
 ·obtain ⟨f0,f1,f2,f3,f4,f5⟩:=aV b hb;exact ⟨f3,f1,f4,f5⟩
 ·obtain ⟨ob,es,ep,ho,r⟩:=hm;exact ⟨ob,es,ep,k _ ob (fun z=>(aV _ z).2.1 rfl) ho,r⟩
 ·by_cases hb:b=n
  ·subst hb; rw [dj] at e; cases e; exact new
  ·rw [gw hb] at e;refine (I.hok b u e).stay (fun c v hc q=>k c v ?_ q) (fun c q=>by rw [gw (o8 q fr)]; exact q) fun c xs q=>by rw [gw (o8 q fr)]; exact q
   rcases hc with rfl | hc
   ·exact bW _ _ e
   ·exact bW _ _ hc
theorem Inv.a9k {X:Cx} {pins:List (Addr × Obj)} {σ:L2.St} {H:Hp} {s:Shared} {h':Heap} {t':Nat} {ch:List Addr} (I:L2.Inv X pins σ H s) (aV:∀ b∈ch,Kr X pins H b)
  (k:∀ b u,b∉ch->s.heap.get? b=some u->h'.get? b=some u):L2.Inv X pins σ H { s with heap:=h',toks:=t' }:=by
 have bW:∀ b u,H b=some u->b∉ch:=fun b u e z=>by rw [(aV b z).1] at e; cases e
 refine I.step (g':=s.gens) (d':=s.drawn) (ch:=ch) (fun b hb=>?_) (fun b u _ _ hc e _=>k b u hc e) (fun b u _ _ hc e _=>⟨u.slots,k b u hc e⟩) (fun b u _ e z=>z)
  (fun b u hc e=>⟨u,k b u hc e⟩) (fun b xs e=>e) (fun b u xs e=>e) (fun b ps e=>⟨#[],by rw [e]; simp⟩) (fun m hm=>?_) (fun b u e=>?_) I.bare
 ·obtain ⟨f0,f1,f2,f3,f4,f5⟩:=aV b hb;exact ⟨f3,f1,f4,f5⟩
 ·obtain ⟨ob,es,ep,ho,r⟩:=hm;exact ⟨ob,es,ep,k _ ob (fun z=>(aV _ z).2.1 rfl) ho,r⟩
 ·refine (I.hok b u e).stay (fun c v hc q=>k c v ?_ q) (fun c q=>q) fun c xs q=>q;rcases hc with rfl | hc
  ·exact bW _ _ e
  ·exact bW _ _ hc
def Sq:Bool->PySem.W.Frag->Hp->Addr->List V->Prop
 | true,K,H,a,xs=>SqL K H a xs
 | false,K,H,a,xs=>SqT K H a xs
section
variable {X:Cx} {pins:List (Addr × Obj)} {σ:L2.St} {H:Hp} {s:Shared} {a:Addr} {xs ys:List V} {k:Bool}
theorem Sq.row (I:L2.Inv X pins σ H s) (h:Sq k X.K H a xs):∃ its:List Value,Vals xs its/\Dv k s.heap a its.toArray:=by
 cases k with
 | true=>obtain ⟨its,r,p,_⟩:=I.list h; exact ⟨its,r,p.isList⟩
 | false=>obtain ⟨its,r,p,_⟩:=I.tuple h; exact ⟨its,r,p⟩
theorem Sq.inj (I:L2.Inv X pins σ H s) (h:Sq k X.K H a xs) (h':Sq k X.K H a ys):xs=ys:=by
 cases k with
 | true=>exact I.Wj h h'
 | false=>exact I.Ov h h'
theorem Sq.far (I:L2.Inv X pins σ H s) {b:Addr} (h:Sq k X.K H a xs) (f:Kr X pins H b):a≠b:=by
 have held:∀ o,X.K.lookup a=some o->a≠b:=fun o e z=>by
  subst z;have eb:=I.mod.kin a o e;rcases f.2.2.2.1 with q | q
  ·exact I.ok.noex a o eb q
  ·exact absurd (iD (iq (I.ok.bs a o eb).1) q) (jM _)
 have there:∀ u,Rd H a u->a≠b:=fun u e z=>by
  subst z;rcases e with e | ⟨o,e⟩ <;> rw [f.1] at e <;> cases e
 cases k with
 | true =>
  rcases h with h | ⟨o,_,_,e,_⟩
  ·exact there _ h
  ·exact held o e
 | false =>
  rcases h with h | ⟨o,_,_,e,_⟩
  ·exact there _ h
  ·exact held o e
end
noncomputable def Itz (K:PySem.W.Frag) (k1 k2:Bool) (a1 a2:Addr):It :=
 ⟨fun i H=>∃ xs ys x y,Sq k1 K H a1 xs/\Sq k2 K H a2 ys/\xs[i]? = some x/\ys[i]? = some y,
   fun i H v H'=>∃ p x y,H p=none/\v=.ref p/\H'=upd H p (.tup [x,y])/\(∀ xs,Sq k1 K H a1 xs->xs[i]? = some x)/\∀ ys,Sq k2 K H a2 ys->ys[i]? = some y,
   fun i H=>∃ xs ys,Sq k1 K H a1 xs/\Sq k2 K H a2 ys/\(xs.length<=i\/ys.length<=i)⟩
theorem a6c {P:Program} {w:World} {K:PySem.W.Frag} {elts:List Expr} {x1:Nat} {pos:Pos} {k1 k2:Bool} {a1 a2 z ti aA i1 i2:Addr} (D:Far z ti aA i1 i2) :
  Turn P w K (.Tuple elts x1 pos) (Itz K k1 k2 a1 a2) [z,ti,aA,i1,i2] z (fun i h=>Pa h z ti aA i1 i2 .none/\Hr k1 h i1 a1 i/\Hr k2 h i2 a2 i) where
 mem:=by simp
 obj:=fun i h ⟨Z,t1,t2⟩ b hb=>by
  simp only [List.mem_cons,List.not_mem_nil,or_false] at hb;obtain ⟨zz,its,a,b,kp⟩:=Z;rcases hb with rfl | rfl | rfl | rfl | rfl
  ·exact ⟨_,zz,fun v q=>by cases q⟩
  ·exact ⟨_,its,fun v q=>by cases q⟩
  ·exact ⟨_,kp,fun v q=>by cases q⟩
  ·exact t1.obj
  ·exact t2.obj
 keep:=fun i h h' ⟨⟨zz,its,a,b,kp⟩,t1,t2⟩ e=>⟨⟨e z (by simp) _ zz,e ti (by simp) _ its,a,b,e aA (by simp) _ kp⟩,t1.to fun o q=>e i1 (by simp) o q,t2.to fun o q=>e i2 (by simp) o q⟩
 item:=by
  intro X hP hw hK hc i pins s σ H E I hf ⟨Z,t1,t2⟩ ⟨xs,ys,x,y,q1,q2,e1,e2⟩;subst hP hw hK;obtain ⟨its1,v1,r1⟩:=q1.row I;obtain ⟨aD,v2,r2⟩:=q2.row I;obtain ⟨u1,g1,ru1⟩:=v1.get e1;obtain ⟨u2,g2,ru2⟩:=v2.get e2;have f1:∀ b∈[z,ti,aA,i1,i2],a1≠b:=fun b hb=>q1.far I (hf b hb);have f2:∀ b∈[z,ti,aA,i1,i2],a2≠b:=fun b hb=>q2.far I (hf b hb);refine a6g D Z t1 t2 r1 r2 ⟨f2 z (by simp),f2 aA (by simp),f2 i1 (by simp),f2 i2 (by simp)⟩ (f1 z (by simp)) (by simpa using g1) (by simpa using g2) fun h' Z' fP fq hp kp=>?_;refine ⟨_,rfl,wpAny_letOwnedTupleGo_zip (s:={ s with heap:=h' }) Z'.zip fun h2 z2 s2=>?_⟩;obtain ⟨d1,d2,d3,d4,d5,d6,d7,d8,d9,d10⟩:=D.all
  have lt:∀ b∈[z,ti,aA,i1,i2],s.heap.objs.size≠b:=fun b hb=>by
   have ob:∃ o,s.heap.get? b=some o:=by
    simp only [List.mem_cons,List.not_mem_nil,or_false] at hb;obtain ⟨zz,its,a,b',kp⟩:=Z;rcases hb with rfl | rfl | rfl | rfl | rfl
    ·exact ⟨_,zz⟩
    ·exact ⟨_,its⟩
    ·exact ⟨_,kp⟩
    ·exact ⟨_,t1.obj.choose_spec.1⟩
    ·exact ⟨_,t2.obj.choose_spec.1⟩
   obtain ⟨o,e⟩:=ob;exact kl (iq e)
  have pair:IsPair h2 s.heap.objs.size u1 u2:=s2.extBut _ _ (lt z (by simp)) hp
  have J:L2.Inv X pins σ (upd H s.heap.objs.size (.tup [x,y])) { s with heap:=h2,toks:=s.toks }:=Inv.a9w (ch:=[z,ti,aA,i1,i2]) I hf (fun b u hb e=>by
   simp only [List.mem_cons,List.not_mem_nil,or_false,not_or] at hb;exact s2.extBut _ _ hb.1 (kp b u hb.1 hb.2.2.1 hb.2.2.2.1 hb.2.2.2.2 e)) (ic _) ⟨by show 2<=sizeLine; rw [sizeLine_eq]; decide,[u1,u2],.cons ru1 (.cons ru2 .nil),⟨_,pair,rfl,rfl,0,rfl⟩⟩
  refine ⟨.ref s.heap.objs.size,_,J,rfl,⟨s.heap.objs.size,x,y,I.hok.fresh (ic _),rfl,rfl,fun cx h=>by rw [h.inj I q1]; exact e1,fun gX h=>by rw [h.inj I q2]; exact e2⟩,?_,fun b hb=>?_⟩
  ·obtain ⟨_,its,a,b,kk⟩:=Z';exact ⟨⟨z2,s2.extBut _ _ d1 its,a,b,s2.extBut _ _ d2 kk⟩,fP.to fun o q=>s2.extBut _ _ d3 q,fq.to fun o q=>s2.extBut _ _ d4 q⟩
  ·rw [gw (Ne.symm (lt b hb))]; exact (hf b hb).1
 done:=by
  intro X hP hw hK hc i pins s σ H E I hf ⟨Z,t1,t2⟩ ⟨xs,ys,q1,q2,e⟩;subst hP hw hK;obtain ⟨its1,v1,r1⟩:=q1.row I;obtain ⟨aD,v2,r2⟩:=q2.row I;have f1:∀ b∈[z,ti,aA,i1,i2],a1≠b:=fun b hb=>q1.far I (hf b hb);have f2:∀ b∈[z,ti,aA,i1,i2],a2≠b:=fun b hb=>q2.far I (hf b hb);refine a5x (I.ok.hd hc) D Z t1 t2 r1 r2 ⟨f2 z (by simp),f2 aA (by simp),f2 i1 (by simp),f2 i2 (by simp)⟩ (f1 z (by simp)) ?_ fun h' kp=>⟨rfl,Inv.a9k (t':=s.toks) (ch:=[z,ti,aA,i1,i2]) I hf fun b u hb e=>?_⟩
  ·have l1:=v1.length;have l2:=v2.length;rcases e with e | e
   ·exact .inl (by simp; omega)
   ·exact .inr (by simp; omega)
  ·simp only [List.mem_cons,List.not_mem_nil,or_false,not_or] at hb;exact kp b u hb.1 hb.2.2.1 hb.2.2.2.1 hb.2.2.2.2 e
 self:=fun _ _ _ _ _ ⟨Z,_⟩ h=>wpAny_pyIter_zip Z.zip h
theorem a8v (n:Nat):Far (n+4) (n+2) (n+3) n (n+1):=⟨by
 have h1:n+4≠n+2:=by omega
 have h2:n+4≠n+3:=by omega
 have h3:n+4≠n:=by omega
 have h4:n+4≠n+1:=by omega
 have h5:n+2≠n+3:=by omega
 have h6:n+2≠n:=by omega
 have h7:n+2≠n+1:=by omega
 have h8:n+3≠n:=by omega
 have h9:n+3≠n+1:=by omega
 have h10:n≠n+1:=by omega
 exact jN.mpr ⟨by simp only [List.mem_cons,List.not_mem_nil,or_false,not_or]; exact ⟨h1,h2,h3,h4⟩,jN.mpr ⟨by simp only [List.mem_cons,List.not_mem_nil,or_false,not_or]; exact ⟨h5,h6,h7⟩,jN.mpr ⟨by simp only [List.mem_cons,List.not_mem_nil,or_false,not_or]; exact ⟨h8,h9⟩,jN.mpr ⟨by simp only [List.mem_cons,List.not_mem_nil,or_false]; exact h10,jN.mpr ⟨by simp,.nil⟩⟩⟩⟩⟩⟩
noncomputable def iZp (K:PySem.W.Frag) (ta:TA):TI:=fun σ H R=>ta σ H fun vs H1=>∃ k1 k2 a1 a2 xs ys,vs=[.ref a1,.ref a2]/\Sq k1 K H1 a1 xs/\Sq k2 K H1 a2 ys/\R (Itz K k1 k2 a1 a2) H1
section
variable {X:Cx} {B:Bas} {a b:Expr} {m m1 m2:M T} {pos p:Pos} {elts:List Expr} {x1:Nat} {aM:Pos}
theorem adw {ta:TA} (hg:Gl X "zip") (hm:X.mg "zip" = none) (ha:PA X [a,b] ta) (hs:starEach [a,b] X.env=[(false,eval a X.env),(false,eval b X.env)]:=by rfl) (aR:starEach [b] X.env=[(false,eval b X.env)]:=by rfl) :
  PI X (.Tuple elts x1 aM) (.Call (.Name "zip" p) [a,b] [] pos) (iZp X.K ta):=by
 intro pins s σ H R I h;refine Call_ (Mg I hg hm boot_zip (lG (thn (ha pos pins s σ H _ I h) fun us s1 z0=>?_) (by rw [hs,aR]) (by rw [aR]; rfl)));obtain ⟨vs,H1,I1,r1,q1⟩:=z0;obtain ⟨k1,k2,a1,a2,xs,ys,e,w1,w2,q⟩:=q1;subst e;cases r1 with
 | cons r rr =>
  cases rr with
  | cons r' rr =>
   cases rr;cases r;cases r';obtain ⟨its1,v1,r1⟩:=w1.row I1;obtain ⟨aD,v2,r2⟩:=w2.row I1;refine a4z r1 r2 fun h' Z t1 t2 kp=>wpAny_pyIter_zip Z.zip ?_;have D:Far (s1.heap.objs.size+4) (s1.heap.objs.size+2) (s1.heap.objs.size+3) s1.heap.objs.size (s1.heap.objs.size+1):=a8v s1.heap.objs.size;refine ⟨_,_,_,_,H1,rfl,I1.kept (t':=s1.toks) kp,a6c D,⟨Z,t1,t2⟩,fun b hb=>?_,q⟩
   have hle:s1.heap.objs.size<=b:=by
    simp only [List.mem_cons,List.not_mem_nil,or_false] at hb;rcases hb with rfl | rfl | rfl | rfl | rfl
    ·exact lW _ 4
    ·exact lW _ 2
    ·exact lW _ 3
    ·exact ic _
    ·exact lW _ 1
   exact I1.a9c hle (I1.hok.fresh hle)
theorem W2 {ts:List T} {s s':Sta} (h:a79 m1 m2 s=some (ts,s')):∃ t u s1 xs ys,m1 s=some (t,s1)/\m2 s1=some (u,s')/\J4 t=some xs/\J4 u=some ys/\xs.length<lim/\ys.length<lim/\ts=a5p xs ys:=by
 unfold a79 at h;split at h
 ·rename_i t s1 e1;split at h
  ·rename_i u s2 e2;split at h
   ·rename_i xs ys e3 e4;split at h
    ·rename_i hl; cases h; exact ⟨t,u,s1,xs,ys,e1,e2,e3,e4,hl.1,hl.2,rfl⟩
    ·cases h
   ·cases h
  ·cases h
 ·cases h
theorem abk:∀ st ts aa,a79 m1 m2 st=some (ts,aa)->ts.length<=sizeLine:=fun st ts aa e=>by
 obtain ⟨t,u,s1,xs,ys,_,_,_,_,l1,_,rfl⟩:=W2 e;unfold a5p;rw [hZ,List.length_zip];have:=lg;omega
theorem a5f {xs ys:List T} {i:Nat} {t:T} (h:(a5p xs ys)[i]? = some t):∃ x y,xs[i]? = some x/\ys[i]? = some y/\t=.tup [x,y]:=by
 unfold a5p at h;rw [jD] at h;obtain ⟨p,e,rfl⟩:=iO.mp h;obtain ⟨e1,e2⟩:=List.getElem?_zip_eq_some.mp e;exact ⟨p.1,p.2,e1,e2,rfl⟩
theorem Yu {K:PySem.W.Frag} {S:Hp} {as:List Addr} {v:V} {t:T} {xs:List T} (r:Rep K S as v t) (e:J4 t=some xs):∃ k a vs,v=.ref a/\Sq k K S a vs/\qb K S as vs xs/\(k=true/\t=.lst xs\/k=false/\t=.tup xs):=by
 cases r with
 | @lst a vs ts g1 g2=>simp only [J4] at e; cases e; exact ⟨true,a,vs,rfl,g1,g2,.inl ⟨rfl,rfl⟩⟩
 | @tup a vs ts g1 g2=>simp only [J4] at e; cases e; exact ⟨false,a,vs,rfl,g1,g2,.inr ⟨rfl,rfl⟩⟩
 | _=>simp only [J4,reduceCtorEq] at e
theorem Sq.mono {k:Bool} {K:PySem.W.Frag} {S H:Hp} {a:Addr} {vs:List V} (e:Same S H) (h:Sq k K S a vs):Sq k K H a vs:=by
 cases k with
 | true=>exact jw e h
 | false=>exact m6 e h
theorem a06 {K:PySem.W.Frag} {S:Hp} {as:List Addr} {a:Addr} {t:T} {xs:List T} {k:Bool} (r:Rep K S as (.ref a) t) (e:k=true/\t=.lst xs\/k=false/\t=.tup xs):∃ vs,Sq k K S a vs/\qb K S as vs xs:=by
 rcases e with ⟨rfl,rfl⟩ | ⟨rfl,rfl⟩
 ·cases r with
  | lst g1 g2=>exact ⟨_,g1,g2⟩
 ·cases r with
  | tup g1 g2=>exact ⟨_,g1,g2⟩
theorem ae7 (hg:Gl X "zip") (hm:X.mg "zip" = none) (h1:PE X a (tOf X.K B m1)) (h2:PE X b (tOf X.K B m2)) (hs:starEach [a,b] X.env=[(false,eval a X.env),(false,eval b X.env)]:=by rfl) (aR:starEach [b] X.env=[(false,eval b X.env)]:=by rfl) :
  PI X (.Tuple elts x1 aM) (.Call (.Name "zip" p) [a,b] [] pos) (iOf X.K B (a79 m1 m2)):=by
 intro pins s σ H R I hw;refine adw (ta:=J3 (tOf X.K B m1) (J3 (tOf X.K B m2) a3q)) hg hm (lu h1 (lu h2 su (by rw [aR]; rfl)) (by rw [hs,aR])) hs aR pins s σ H R I ?_;obtain ⟨st,ps,S,as,Rl,ts,aa,e,hz,q⟩:=hw;obtain ⟨t,u,s1,xs,ys,e1,e2,e3,e4,l1,l2,rfl⟩:=W2 e;refine ⟨st,ps,S,as,Rl,t,s1,e1,fun v H1 S1 af R1=>⟨s1,_,S1,af,R1,u,aa,e2,fun v2 H2 S2 aB R2=>?_⟩⟩;obtain ⟨k1,a1,vs1,rfl,w1,p1,c1⟩:=Yu R2.top2 e3;obtain ⟨k2,a2,vs2,rfl,w2,p2,c2⟩:=Yu R2.top e4;refine ⟨k1,k2,a1,a2,vs1,vs2,rfl,w1.mono R2.sub,w2.mono R2.sub,q _ H2 S2 aB [(.ref a2,u),(.ref a1,t)] R2 fun S3 aK H3 hp hh=>?_⟩;obtain ⟨us1,y1,z1⟩:=a06 (hp (.ref a1,t) (by simp)) c1;obtain ⟨us2,y2,z2⟩:=a06 (hp (.ref a2,u) (by simp)) c2;refine ⟨fun i tt et=>?_,fun i hi=>⟨us1,us2,y1.mono hh,y2.mono hh,?_⟩⟩
 ·obtain ⟨x,y,f1,f2,rfl⟩:=a5f et;obtain ⟨vx,gx,rx⟩:=z1.get f1;obtain ⟨vy,gy,ry⟩:=z2.get f2;refine ⟨⟨us1,us2,vx,vy,y1.mono hh,y2.mono hh,gx,gy⟩,fun v H' z0=>?_⟩;obtain ⟨pp,x',y',hn,hv,hH,b1,b2⟩:=z0;have c1:=b1 _ (y1.mono hh);have c2:=b2 _ (y2.mono hh);rw [gx] at c1; rw [gy] at c2;cases c1; cases c2;subst hv hH;have x:=Ext.laid hh hn (.tup [vx,vy]);exact ⟨_,x,.tup (SqT.of dj) (.cons (rx.mono x.s nol) (.cons (ry.mono x.s nol) .nil))⟩
 ·rw [z1.length,z2.length];unfold a5p at hi;rw [hZ,List.length_zip] at hi;omega
end
section
variable {X:Cx}
variable {B:Bas} {o e:Expr} {m1 m2:M T} {apos ay:Pos}
end
theorem Uv (n d:Nat) (o:Option Int):sIx n d o=HT.sIx n d o:=by cases o <;> rfl
inductive oOf (K:PySem.W.Frag) (B:Bas) (m:M (Option Int)) (σ:L2.St) (H:Hp) (Q:Option Int->Hp->Prop):Prop
 | mk (st:Sta) (ps:List (V × T)) (S:Hp) (as:List Addr) (R:Rel K B st σ H ps S as) (o:Option Int) (aa:Sta) (e:m st=some (o,aa)) (q:∀ H' S' av,Rel K B aa σ H' ps S' av->Q o H')
section
variable {X:Cx} {B:Bas} {a e:Expr} {m:M T} {ml mh:M (Option Int)} {lo hi:Option Expr} {pos p2:Pos}
theorem Ak:PO X none (oOf X.K B ou):=fun pins s σ H Q I ⟨st,ps,S,as,R,o,aa,e,q⟩=>a9e pins s σ H Q I (by cases e; exact q H S as R)
theorem Af (h:PE X e (tOf X.K B m)):PO X (some e) (oOf X.K B (qe m)):=fun pins s σ H Q I z9=>a9x h pins s σ H Q I (by
 obtain ⟨st,ps,S,as,R,o,aa,eo,q⟩:=z9;unfold qe at eo;split at eo
 ·rename_i i s1 e1;cases eo;refine ⟨st,ps,S,as,R,.int i,_,e1,fun v H1 S1 af R1=>?_⟩;cases R1.top;exact ⟨i,rfl,q H1 S1 af R1.drop⟩
 ·cases eo)
theorem Y6 {s s':Sta} {v:T} (h:Ao m ml mh s=some (v,s')):∃ t s1 l s2 u,m s=some (t,s1)/\ml s1=some (l,s2)/\mh s2=some (u,s')/\ab6 l u t=some v:=by
 unfold Ao at h;split at h
 ·rename_i t s1 e1;split at h
  ·rename_i l s2 e2;split at h
   ·rename_i u s3 e3;split at h
    ·rename_i w e4; cases h; exact ⟨t,s1,l,s2,u,e1,e2,e3,e4⟩
    ·cases h
   ·cases h
  ·cases h
 ·cases h
theorem qb.takes {K:PySem.W.Frag} {S:Hp} {as:List Addr}:∀ (n:Nat) {vs:List V} {ts:List T},qb K S as vs ts->qb K S as (vs.take n) (ts.take n)
 | 0,_,_,_=>.nil
 | _+1,_,_,.nil=>.nil
 | n+1,_,_,.cons h r=>.cons h (qb.takes n r)
theorem Nk {K:PySem.W.Frag} {S:Hp} {as:List Addr} {vs:List V} {ts:List T} (r:qb K S as vs ts) (lo hi:Option Int):qb K S as (Zn vs lo hi) (Od ts lo hi):=by
 unfold Zn Od;rw [Uv,Uv,r.length];exact qb.takes _ (r.drop _)
theorem Ja (ha:PE X a (tOf X.K B m)) (hl:PO X lo (oOf X.K B ml)) (hh:PO X hi (oOf X.K B mh)):PE X (.Subscript a (.Slice lo hi none p2) pos) (tOf X.K B (Ao m ml mh)) :=
 (Je Z5 ha hl hh).imp fun σ H Q z9=>by
  obtain ⟨st,ps,S,as,R,t,aa,e,q⟩:=z9;obtain ⟨t1,s1,l,s2,u,e1,e2,e3,e4⟩:=Y6 e;refine ⟨st,ps,S,as,R,t1,s1,e1,fun v H1 S1 af R1=>⟨s1,_,S1,af,R1,l,s2,e2,fun H2 S2 aB R2=>⟨s2,_,S2,aB,R2,u,aa,e3,fun H3 S3 aK R3=>?_⟩⟩⟩;have top:=R3.top;cases top with
  | @lst b vs ts g1 g2 =>
   simp only [ab6] at e4; cases e4;refine ⟨b,vs,rfl,jw R3.sub g1,fun p hp=>?_⟩;have x:=Ext.laid R3.sub hp (.lst (Zn vs l u));exact q _ _ _ _ ((R3.drop.ext x).push (.lst (SqL.of dj) ((Nk g2 l u).mono x.s nol)))
  | _=>exact j8 e4
end
section
variable {prog:Program} {w:World} {A:Around} {E:Value->Shared->Prop} {s:Shared}
theorem Qs {sl:Addr} {t:Tok} {n:Nat} {Q:Int × Int × Nat->Shared->Prop} (hs:s.heap.IsSliceOf sl .none .none (.int (-1) t)) (h:Q ((n:Int) - 1,-1,n) s):wpAny (model prog w) A (Builtin.Slice.sliceApplied (.ref sl) (pure (n:Int))) Q E s:=by
 obtain ⟨os,g1,g2,g3⟩:=id hs
 have ea:Builtin.Slice.sliceAdjust none none (-1) (n:Int)=((n:Int) - 1,-1):=by
  unfold Builtin.Slice.sliceAdjust;simp
 have en:Builtin.Slice.slicePlaces ((n:Int) - 1) (-1) (-1)=n:=by
  unfold Builtin.Slice.slicePlaces;have h1:¬ ((-1:Int) > 0):=by decide
  rw [hV h1];split
  ·first
   | (simp; done)
   | (simp; omega)
  ·omega
 unfold Builtin.Slice.sliceApplied Builtin.Slice.sliceFields;refine hJ (hJ (iH g1 g3 (x:=.none) rfl (hJ (iH g1 g3 (x:=.none) rfl (hJ (iH g1 g3 (x:=.int (-1) t) rfl (ia ?_)))))));refine hJ (HT.Cz (.int (-1) t) ?_);refine (show wpAny _ _ (if ((-1:Int)==0)=true then _ else _) _ _ s from ?_);rw [hV (by decide)];refine hJ (HT.Cz .none (hJ (HT.Cz .none (hJ (ia ?_)))));refine (show wpAny _ _ (match Builtin.Slice.sliceAdjust none none (-1) (n:Int) with | (lo,hi)=>pure (lo,(-1:Int),Builtin.Slice.slicePlaces lo hi (-1))) _ _ s from ?_);rw [ea];refine (show wpAny _ _ (pure ((n:Int) - 1,(-1:Int),Builtin.Slice.slicePlaces ((n:Int) - 1) (-1) (-1))) _ _ s from ?_);rw [en];exact ia h
theorem ad9 {α β:Type} {f g:α->Option β}:∀ {l:List α},(∀ a∈l,f a=g a)->l.filterMap f=l.filterMap g
 | [],_=>rfl
 | a::l,h=>by rw [kR,kR,h a ie,ad9 fun b hb=>h b (ij _ hb)]
theorem a1e (xs:Array Value):((List.range xs.size).filterMap fun (m:Nat)=>xs[(((xs.size:Nat):Int) - 1+(m:Int) * (-1)).toNat]?)=xs.toList.reverse:=by
 have e:∀ m∈List.range xs.size,xs[(((xs.size:Nat):Int) - 1+(m:Int) * (-1)).toNat]? = some (xs.toList.reverse.getD m .none):=fun m hm=>by
  have hm:=lE.mp hm;have e1:(((xs.size:Nat):Int) - 1+(m:Int) * (-1)).toNat=xs.size - 1 - m:=by omega
  rw [e1,jS,List.getElem?_reverse (by rw [jQ]; exact hm),mH,jQ,Array.getElem?_eq_getElem (by omega)];rfl
 rw [ad9 e];rw [show (fun (x:Nat)=>some (xs.toList.reverse.getD x Value.none))=some ∘ fun x=>xs.toList.reverse.getD x .none from rfl,List.filterMap_eq_map];apply List.ext_getElem
 ·simp
 ·intro i h1 h2;simp [List.getD_eq_getElem?_getD,List.getElem?_eq_getElem h2]
theorem Wn {t sl:Addr} {k:Tok} {items:Array Value} {Q:Value->Shared->Prop} (ht:IsTup s.heap t items) (hs:s.heap.IsSliceOf sl .none .none (.int (-1) k))
  (h:Q (.ref s.heap.objs.size) { s with heap:=s.heap.push { cls:=.type "tuple",data:=.seq items.toList.reverse.toArray } }) (bB:items.size<=sizeLine):wpAny (model prog w) A (getItem (.ref t) (.ref sl)) Q E s:=by
 have hz:sizeOk (.seq items.toList.reverse.toArray):=by
  show items.toList.reverse.toArray.size<=sizeLine;rw [iB,ke,jQ]; exact bB
 obtain ⟨os,g1,g2,g3⟩:=id hs;have ty:s.TypeIs (.ref sl) "slice" := ⟨os,g1,g2⟩;unfold getItem
 try with_reducible refine ku ?_
 first | refine hJ (ia ?_) | skip
 refine hJ (mE ht.typeIs (by decide) (hJ (kA (name:=Str.ofString "__getitem__") ht.typeIs kL
  (kB kL ht.typeIs entry_tuple_getitem ?_ (args_tuple_getitem _ _)))))
 refine (show wpAny _ _ (Builtin.Tuple.tupleItemsOf (.ref t) >>= _) _ _ s from hJ (tupleItemsOf_ ht (hJ (lK ty ?_))));rw [hU (by decide)];refine hJ (Qs hs ?_);refine (show wpAny _ _ (if ((((items.size:Nat):Int) - 1)==0&&(-1:Int)==1&&items.size==items.size)=true then _ else _) _ _ s from ?_);rw [hV (by rw [show ((-1:Int)==1)=false from rfl,Bool.and_false,Bool.false_and]; exact kJ),a1e]
 first
  | exact hJ (m:=Builtin.Tuple.tupleExact _) (jP (ia ⟨_,rfl,ia h⟩) hz)
  | exact hJ (m:=Builtin.Tuple.tupleExact _) (jP (hJ (ia (ia ⟨_,rfl,ia h⟩))) hz)
  | exact hJ (hJ (m:=Builtin.Tuple.tupleExact _) (jP (ia (ia ⟨_,rfl,ia h⟩)) hz))
  | exact hJ (hJ (m:=Builtin.Tuple.tupleExact _) (jP (ia ⟨_,rfl,ia h⟩) hz))
end
section
variable {X:Cx} {B:Bas} {e:Expr} {te:TE} {m m1 m2:M T} {pos p p2 p3 p4:Pos} {j:Nat}
def afd (K:PySem.W.Frag):V->Hp->VK->Prop:=fun x H Q=>∃ a xs,x=.ref a/\((SqL K H a xs/\∀ p,H p=none->Q (.ref p) (upd H p (.lst xs.reverse)))\/(SqT K H a xs/\∀ p,H p=none->Q (.ref p) (upd H p (.tup xs.reverse))))
theorem aan:PE X (.UnaryOp .USub (.Constant (.int 1) j p4) p3) (tC (.int (-1))):=(aah a7p a8c).imp fun σ H Q q=>⟨1,rfl,q⟩
theorem aaw (he:PE X e te):PE X (.Subscript e (.Slice none none (some (.UnaryOp .USub (.Constant (.int 1) j p4) p3)) p2) pos) (fun σ H Q=>te σ H fun x H1=>afd X.K x H1 Q):=by
 intro pins s σ H Q I h;refine Subscript_ (thn (he pins s σ H _ I h) fun v s1 z0=>?_);obtain ⟨x,H1,I1,r1,q1⟩:=z0;refine wpAny_Slice ?_;rw [evalPart_none];refine ia (ia ?_);rw [evalPart_some];refine thn (aan pins s1 σ H1 (fun v H2=>v=.int (-1)/\H2=H1) I1 ⟨rfl,rfl⟩) fun vk s2 z0=>?_;obtain ⟨y,H2,I2,r2,ey,eH⟩:=z0;subst ey eH;obtain ⟨t,rfl⟩:=r2;obtain ⟨a,xs,rfl,hx⟩:=q1;cases r1;have I4:L2.Inv X pins σ H2 { s2 with heap:=s2.heap.push { cls:=.type "slice",data:=.fields #[.none,.none,.int (-1) t] } }:=I2.kept (t':=s2.toks) fun b ob q=>ix _ q;rcases hx with ⟨hx,q⟩ | ⟨hx,q⟩
 ·obtain ⟨its,r,ht,hz⟩:=I4.list hx;have hlen:=r.length;refine tail_any (ops:=[.ref a,.ref s2.heap.objs.size]) (T := "list") ht.isList.typeIs slot_list_getitem.lookup ?_ (by with_unfolding_all rfl);refine wpAny_getItem_list_slice ht.isList (mF ..) .none .none (.int (-1) t) (by decide) ?_ (by rw [iB] <;> omega);rw [PySem.W.krv_pick];refine ⟨.ref _,_,I4.laid (t':=s2.toks) (o:=.lst xs.reverse) (fun b ob q=>ix _ q) (ic _) ?_,rfl,q _ (I4.hok.fresh (ic _))⟩;exact ⟨by rw [ke]; exact hz,_,0,by simpa using r.reverse,iI _ rfl⟩
 ·obtain ⟨its,r,ht,hz⟩:=I4.tuple hx;have hlen:=r.length;refine tail_any (ops:=[.ref a,.ref s2.heap.objs.size]) (T := "tuple") ht.typeIs PyProof.Rows.slot_tuple_getitem.lookup ?_ (by with_unfolding_all rfl);refine Wn ht (mF ..) ?_ (by rw [iB] <;> omega);refine ⟨.ref _,_,I4.laid (t':=s2.toks) (o:=.tup xs.reverse) (fun b ob q=>ix _ q) (ic _) ?_,rfl,q _ (I4.hok.fresh (ic _))⟩;exact ⟨by rw [ke]; exact hz,its.reverse,r.reverse,a3z.new _ its.reverse.toArray⟩
theorem a9m (ha:PE X e (tOf X.K B m)):PE X (.Subscript e (.Slice none none (some (.UnaryOp .USub (.Constant (.int 1) j p4) p3)) p2) pos) (tOf X.K B (mUn abf m)) :=
 (aaw ha).imp fun σ H Q z9=>by
  obtain ⟨st,ps,S,as,R,t,aa,e,q⟩:=z9;obtain ⟨t1,e1,e3⟩:=a0o e;refine ⟨st,ps,S,as,R,t1,aa,e1,fun v H1 S1 af R1=>?_⟩;have top:=R1.top;cases top with
  | @lst a vs ts g1 g2 =>
   simp only [abf] at e3; cases e3;refine ⟨a,vs,rfl,.inl ⟨jw R1.sub g1,fun p hp=>?_⟩⟩;have x:=Ext.laid R1.sub hp (.lst vs.reverse);exact q _ _ _ _ ((R1.drop.ext x).push (.lst (SqL.of dj) (g2.reverse.mono x.s nol)))
  | @tup a vs ts g1 g2 =>
   simp only [abf] at e3; cases e3;refine ⟨a,vs,rfl,.inr ⟨m6 R1.sub g1,fun p hp=>?_⟩⟩;have x:=Ext.laid R1.sub hp (.tup vs.reverse);exact q _ _ _ _ ((R1.drop.ext x).push (.tup (SqT.of dj) (g2.reverse.mono x.s nol)))
  | _=>exact j8 e3
theorem J7 {x:Str} {i:Int} (hg:Gl X x) (h:∃ tk,X.mg x=some (.int i tk)) (hd:(x==("__debug__" : Str))=false:=by decide):PE X (.Name x pos) (tOf X.K B (ak (.int i))):=by
 obtain ⟨tk,h⟩:=h;exact Gq (v:=.int i) (a1q hg h (show RelV (.int i) _ from ⟨tk,rfl⟩) hd) fun _ _=>.int i
theorem Xw {i:Nat} {k:M T} {s s':Sta} {t:T} (h:zj i k s=some (t,s')):Az i s=true/\∃ j xs f n,k s=some (.int j,s')/\s'.env[i]? = some (some (.lst xs,f))/\ixI xs.length j=some n/\xs[n]? = some t:=by
 unfold zj at h;split at h
 ·rename_i hd;refine ⟨hd,?_⟩;split at h
  ·rename_i j s1 e1;split at h
   ·rename_i xs f e2;split at h
    ·rename_i u e3;cases h;obtain ⟨n,h1,h2⟩:=kO.mp e3;exact ⟨j,xs,f,n,e1,e2,h1,h2⟩
    ·cases h
   ·cases h
  ·cases h
 ·cases h
theorem Jg (i:Nat) {o k:Expr} {mk:M T} (ho:PE X o (Y8 i)) (hk:PE X k (tOf X.K B mk)) (hs:Nv k):PE X (.Subscript o k pos) (tOf X.K B (zj i mk)):=(a9h Td ho hk hs).imp fun σ H Q z9=>by
 obtain ⟨st,ps,S,as,R,t,aa,e,q⟩:=z9;obtain ⟨hd,j,xs,f,n,e1,e2,e3,e4⟩:=Xw e;obtain ⟨bb,f0,e0⟩:=En hd;obtain ⟨p0,vs0,s0,_⟩:=R.listAt e0;refine ⟨_,s0,st,ps,S,as,R,.int j,aa,e1,fun u H2 S2 aB R2=>?_⟩;cases R2.top;obtain ⟨p1,vs1,s1,rd1,h4⟩:=R2.listAt e2;rw [s0] at s1; cases s1;obtain ⟨z,hz,rz⟩:=h4.get e4;refine ⟨p0,vs1,j,z,rfl,rfl,rd1,?_,q z H2 S2 aB (R2.drop.push rz)⟩;rw [Lp,<- h4.length] at e3;unfold atI; rw [e3]; exact hz
theorem Ml {a:Expr} {pc:Pos} (hg:Gl X "isinstance") (hm:X.mg "isinstance" = none) (bV:Gl X "str") (b7:X.mg "str" = none) (ha:PE X a (tOf X.K B m)) (he:starEach [a,.Name "str" pc] X.env=(false,eval a X.env)::starEach [.Name "str" pc] X.env:=by rfl) :
  PE X (.Call (.Name "isinstance" p) [a,.Name "str" pc] [] pos) (tOf X.K B (gq isStr (aj m cj))):=by
 rw [show isStr=_ from funext a4k];exact V7 (cn := "str") hg hm bV b7 a2i (fun t ty h=>by cases t <;> cases h <;> rfl) ha (by decide) (by decide) he
end
end C
end
section
end
section
namespace C
open PySem PySem.Spec L2
def Held (K:PySem.W.Frag) (u:Value) (t:T):Prop:=∃ v,RelV v u/\∀ S as,Rep K S as v t
def w6 (K:PySem.W.Frag) (us:List Value) (ts:List T):Prop:=∃ vs,Vals vs us/\∀ S as,qb K S as vs ts
section
variable {K:PySem.W.Frag}
theorem Held.str {x:Str} {tk:Tok}:Held K (.str x tk) (.str x):=⟨.str x,⟨tk,rfl⟩,fun _ _=>.str x⟩
theorem w6.nil:w6 K [] []:=⟨[],.nil,fun _ _=>.nil⟩
theorem w6.cons {u:Value} {t:T} {us:List Value} {ts:List T} (h:Held K u t) (hs:w6 K us ts):w6 K (u::us) (t::ts):=by
 obtain ⟨v,r,e⟩:=h;obtain ⟨vs,rs,es⟩:=hs;exact ⟨v::vs,.cons r rs,fun S as=>.cons (e S as) (es S as)⟩
theorem Held.tup {a:Addr} {us:List Value} {n:Nat} {sl:Array (Option Value)} {ts:List T} (h:K.lookup a=some ⟨.type "tuple",none,.seq us.toArray n,sl⟩) (hz:us.length<=1000) (hs:w6 K us ts):Held K (.ref a) (.tup ts):=by
 obtain ⟨vs,rs,es⟩:=hs;refine ⟨.ref a,rfl,fun S as=>.tup (.inr ⟨_,us.toArray,n,h,rfl,rfl,rfl,?_,?_⟩) (es S as)⟩
 ·rw [iB,sizeLine_eq]; omega
 ·exact rs
end
section
variable {X:Cx} {B:Bas} {pos:Pos}
theorem Ji {x:Str} {t:T} (hg:Gl X x) (h:∃ u,X.mg x=some u/\Held X.K u t) (hd:(x==("__debug__" : Str))=false:=by decide):PE X (.Name x pos) (tOf X.K B (ak t)):=by
 obtain ⟨u,h,v,r,e⟩:=h;exact Gq (v:=v) (a1q hg h r hd) e
end
end C
end
section
namespace C
open PySem PySem.Spec PyProof.Rows
section
variable {prog:Program} {w:World} {A:Around} {E:Value->Shared->Prop} {s:Shared}
end
section
variable {prog:Program} {w:World} {A:Around} {R:Result->Shared->Prop} {I:Addr} {fp wr:List Addr} {G:Array GenState->Array GenState->Prop} {n:Nat} {P:Nat->Value->Prop} {St:Nat->Shared->Prop}
end
section
variable {prog:Program} {w:World} {A:Around} {E:Value->Shared->Prop} {s:Shared}
end
section
variable {prog:Program} {w:World} {A:Around} {E:Value->Shared->Prop} {s:Shared}
end
section
variable {prog:Program} {w:World} {A:Around} {E:Value->Shared->Prop} {s:Shared}
end
section
variable {prog:Program} {w:World} {A:Around} {E:Value->Shared->Prop} {s:Shared} {I a:Addr} {i n ep:Nat} {o:Obj} {es:Array (Int × Value)} {t:SetTable} {Q:Option Value->Shared->Prop}
end
section
variable {prog:Program} {w:World} {A:Around} {E:Value->Shared->Prop} {s:Shared} {I a q:Addr} {i n ep:Nat} {o:Obj} {es:Array (Int × Value)} {t:SetTable} {Q:Option Value->Shared->Prop} {ps:List Nat}
end
section
variable {prog:Program} {w:World} {A:Around} {E:Value->Shared->Prop} {s:Shared} {I a q:Addr} {n ep:Nat} {o:Obj} {es:Array (Int × Value)} {t:SetTable} {ps:List Nat}
end
section
variable {prog:Program} {w:World} {A:Around} {E:Value->Shared->Prop} {s:Shared} {a:Addr} {o:Obj} {l:List Str}
end
section
variable {prog:Program} {w:World} {A:Around} {E:Value->Shared->Prop} {s:Shared} {a:Addr} {o:Obj} {l:List Str}
end
end C
end
section
namespace C
open PySem PySem.Spec PyProof.Rows L2
section
variable {X:Cx} {B:Bas} {e:Expr} {m1:M T} {p1 p2 p3 p4:Pos}
end
open AutoSeq1 (wpAny_loadPart') -- here
open MeetsSeq MeetsSeq2 MeetsSeq3 -- here
section
variable {prog:Program} {w:World}
end
section
variable {X:Cx} {pins:List (Addr × Obj)} {σ:L2.St} {H S:Hp} {s:Shared} {as:List Addr}
end
end C
end
section
namespace C
open PySem PySem.Spec PyProof.Rows L2
theorem aas {K:PySem.W.Frag} {F:Fn} {H:Hp} {a:Addr} {ns:List Int} (hS:SqL K H a (ns.map V.int)) (hE:∃ st,F [.lst (ns.map T.int)] []=some (.bl true,st)):spF K 1 F [.ref a] H (fun v _=>v=.bl true) fun _ _ _=>False:=by
 obtain ⟨st,hF⟩:=hE
 have d0:∀ (S:Hp) (l:List Int),qb K S [] (l.map V.int) (l.map T.int):=fun S l=>by
  induction l with
  | nil=>exact .nil
  | cons x l ih=>exact .cons (.int x) ih
 let S:Hp:=fun p=>if p=a then H p else none
 have sa:S a=H a:=hU rfl
 have sub:Same S H:=fun p u h=>by
  by_cases e:p=a
  ·subst e; rw [<- sa]; exact h
  ·have:S p=none:=hV e;rw [this] at h; cases h
 have sq:SqL K S a (ns.map V.int):=by
  rcases hS with h | h
  ·refine .inl ?_;unfold Rd at h ⊢;rw [sa]; exact h
  ·exact .inr h
 refine ⟨S,[],[],[.lst (ns.map T.int)],.bl true,st,sub,⟨rfl,.nil,fun n so e=>by simp at e⟩,.cons (.lst sq (d0 S ns)) .nil,rfl,hF,fun v H' S' av _ _ _ r=>?_⟩;cases r;rfl
end C
end
section
namespace C
open PySem
abbrev FnX:=List T->List SO->Option ((T ⊕ T) × List SO)
abbrev SX:=Sta->Option ((Flow ⊕ T) × Sta)
def lx (u:S):SX:=fun s=>match u s with
 | some (fl,s1)=>some (.inl fl,s1)
 | none=>none
def zu (a b:SX):SX:=fun s=>match a s with
 | some (.inl .next,s1)=>b s1
 | r=>r
noncomputable def xIf (c:M Bool) (a b:SX):SX:=fun s=>match c s with
 | some (true,s1)=>a s1
 | some (false,s1)=>b s1
 | none=>none
def Km (m:M T):SX:=fun s=>match m s with
 | some (t,s1)=>some (.inr t,s1)
 | none=>none
noncomputable def uw (n:Nat) (b:SX):FnX:=fun ts sto=>match b ⟨ts.map (fun t=>some (t,false))++List.replicate (n - ts.length) none,sto⟩ with
 | some (.inl (.ret t),s)=>some (.inl t,s.sto)
 | some (.inl .next,s)=>some (.inl .non,s.sto)
 | some (.inr t,s)=>some (.inr t,s.sto)
 | _=>none
def norm (F:FnX):Fn:=fun ts sto=>match F ts sto with
 | some (.inl t,s)=>some (t,s)
 | _=>none
end C
end
section
namespace My
open PySem PySem.W PySem.Calls PyProof.Rows PySem.Spec
abbrev vB:List Value:=[.type "ValueError",.type "Exception",.type "BaseException",.type "object"]
theorem afr {K:Frag} {h:Heap} {D:Addr} {newId:String} (X:K.In h) (q:excIn K D vB newId=true):OwnTail h vB (.ref D::vB):=by
 refine tail_of_in X ?_;unfold excIn at q;unfold tailIn;split at q
 ·rename_i dd cd sl ho;split at q
  ·simp only [Bool.and_eq_true] at q;dsimp only;rw [ho];dsimp only;rw [q.1.2,q.2];have z:tailIn K vB vB=true:=by unfold tailIn; rfl
   rw [z];simp
  ·cases q
 ·cases q
abbrev Za (C t:Addr):Obj:={ cls:=.ref C,data:=.fields #[.ref t,.none,.none,.none,.bool false,.none] }
abbrev a7u (vs:List Value):Obj:={ cls:=.type "tuple",data:=.seq vs.toArray }
section
variable {prog:Program} {w:World} {A:Around} {E:Value->Shared->Prop} {s:Shared} {h₀:Heap} {L:Addr} {m:Str->Option Value} {news:List (Addr × Obj)} {K:Frag}
variable {nm q:Str} {C D Na:Addr} {bs:List Value} {hdct:Bool} {sn:List Str} {sub:List Value} {ab:Bool} {col:Option Bool} {dd:Option Addr} {k0 k1 k2 k3 k5:Option Value}
theorem La {h:Heap} {g:Array GenState} {d:Drawn} {t:Nat} {os:OsState} {rest:List Value} {fI:Addr} {R:Fin->Shared->Prop} (X:K.In h)
  (hC:h.get? C=some (excClassObj nm q C Na bs (.ref D::vB) hdct sn sub ab col dd k0 k1 k2 k3 k5 "ValueError.__new__")) (T:OwnTail h vB (.ref D::vB))
  (hi:findIn K (.ref C) "__init__" = some (some (.ref fI))) (hf:typeIn K (.ref fI)=some (.type "function"))
  (hq:wpAny (model prog w) A (call (.ref fI) (.ref (h.objs.size+1)::rest)) (fun r s'=>r=.none/\R (.done (.ret (.ref (h.objs.size+1)))) s') E ⟨(h.push (a7u rest)).push (Za C h.objs.size),g,d,t,os⟩) (bU:rest.length<=sizeLine) :
  wpAny (model prog w) A (Builtin.«type.__call__» ⟨.ref C::rest,[]⟩) R E ⟨h,g,d,t,os⟩:=by
 have Fv:=PySem.F.excBase_ValueError;have hv:vB.contains (.type "ValueError")=true:=by decide
 repeat (first | with_reducible refine lz hC ?_ | with_reducible refine wpAny_madeBy_exc hC ?_ | wp_step)
 refine codeAny_call_builtin_code (Code.quiet_builtin _ Fv.quiet) (wpAny_check_new_subU Fv hv T hC ?_);refine codeAny_exc_new_subU Fv hv Fv T hC ?_ bU;show wpAny _ _ _ _ _ _;have kp:∀ b o,h.get? b=some o->((h.push (a7u rest)).push (Za C h.objs.size)).get? b=some o:=fun b o e=>ix _ (ix _ e);have X1:=X.keeps kp;have dY:((h.push (a7u rest)).push (Za C h.objs.size)).get? (h.objs.size+1)=some (Za C h.objs.size):=by heap_get
 have gI:(Value.ref C :: .ref D::vB).contains (.ref C)=true:=by simp
 have gB:=kp _ _ hC;unfold isInstance
 repeat (first | with_reducible refine lz dY ?_ | (with_reducible refine wpAny_isSubtype_exc gB ?_; rw [gI]) | wp_step)
 show wpAny _ _ (typeLookup (.ref C) _) _ _ _;refine looks_findIn X1 hi _ _ _ _ (fun _ _ e=>e) ?_;refine ku (hJ ?_);refine bind_fn X1 _ hf _ _ _ _ (fun _ _ e=>e) ?_;refine hJ (iT hq (fun r s' hr=>?_) fun _ _ x=>x);obtain ⟨rfl,hQ⟩:=hr
 wp_walk
 exact hQ
end
end My
end
section
namespace My
open PySem PySem.W PySem.Calls PyProof.Rows PySem.Spec Builtin.ObjectAttr
abbrev a4j (C t dx:Addr):Obj:={ cls:=.ref C,dict:=some dx,data:=.fields #[.ref t,.none,.none,.none,.bool false,.none] }
theorem afa (self:Value):refuseLoop self "__setattr__" vB=pure ():=by kernel_rfl
section
variable {prog:Program} {w:World} {A:Around} {E:Value->Shared->Prop} {s:Shared} {h₀:Heap} {L:Addr} {m:Str->Option Value} {news:List (Addr × Obj)} {K:Frag} {x C D t:Addr} {cd:ClassData} {name:Str} {v:Value} {g:Obj->List (Addr × Obj)}
end
section
variable {prog:Program} {w:World} {A:Around} {E:Value->Shared->Prop} {s:Shared} {K:Frag} {x C:Addr} {ox:Obj} {od:Option Obj} {name:Str} {v:Value} {expr:Bool}
end
section
variable {prog:Program} {w:World} {A:Around} {E:Value->Shared->Prop} {s:Shared} {K:Frag} {x C:Addr} {ox od:Obj} {name:Str} {tk:Tok} {v:Value} {fill expr:Bool}
end
end My
end
section
namespace L2
open PySem PySem.Spec PyProof.Rows
abbrev a3r (C dx:Addr) (vs:Array Value):Obj:={ cls:=.ref C,dict:=some dx,data:=.fields vs }
structure XAt (h:Heap) (e C dx T:Addr) (fl:Value):Prop where
 ne:T≠e
 at_:∃ vs,h.get? e=some (a3r C dx vs)/\vs[1]? = some (.ref T)
 tb:∃ o ts,h.get? T=some o/\o.data=.fields ts/\ts[3]? = some fl
structure Kp (fs ch:List Addr) (h h':Heap):Prop where
 keep:∀ b o,h.get? b=some o->b∉fs->b∉ch->h'.get? b=some o
 slot:∀ b o,h.get? b=some o->b∉ch->∃ sl,h'.get? b=some { o with slots:=sl }
 there:∀ b o,h.get? b=some o->∃ o',h'.get? b=some o'
 size:h.objs.size<=h'.objs.size
theorem Kp.trans {fs ch:List Addr} {h h1 h2:Heap} (a:Kp fs ch h h1) (b:Kp fs ch h1 h2):Kp fs ch h h2 where
 keep:=fun c o q n m=>b.keep c o (a.keep c o q n m) n m
 slot:=fun c o q m=>by
  obtain ⟨sl,e1⟩:=a.slot c o q m;obtain ⟨sl',e2⟩:=b.slot c _ e1 m;exact ⟨sl',e2⟩
 there:=fun c o q=>by
  obtain ⟨o',e1⟩:=a.there c o q;exact b.there c o' e1
 size:=ip a.size b.size
theorem Kp.mono {fs ch cY ch':List Addr} {h h':Heap} (a:Kp fs ch h h') (hf:∀ b∈fs,b∈cY) (hc:∀ b∈ch,b∈ch'):Kp cY ch' h h' where
 keep:=fun c o q n m=>a.keep c o q (fun z=>n (hf _ z)) fun z=>m (hc _ z)
 slot:=fun c o q m=>a.slot c o q fun z=>m (hc _ z)
 there:=a.there
 size:=a.size
theorem Kp.slots {fs:List Addr} {h h':Heap} (x:Heap.SlotsOnly fs h h'):Kp fs [] h h' where
 keep:=fun b o q n _=>(x.2.1 b n).trans q
 slot:=fun b o q _=>x.2.2 b o q
 there:=fun b o q=>let ⟨sl,e⟩:=x.2.2 b o q; ⟨_,e⟩
 size:=kU x.1.symm
theorem Kp.pushed {fs ch:List Addr} {h:Heap} (o:Obj):Kp fs ch h (h.push o) where
 keep:=fun b u q _ _=>ix _ q
 slot:=fun b u q _=>⟨u.slots,ix _ q⟩
 there:=fun b u q=>⟨u,ix _ q⟩
 size:=by rw [jU]; exact Nat.le_succ _
theorem Kp.field {fs:List Addr} {h:Heap} {e:Addr} {o:Obj} {vs:Array Value} (he:h.get? e=some o) (hd:o.data=.fields vs) (f:Array Value->Array Value):Kp fs [e] h (h.update e (Obj.mapFields f)) where
 keep:=fun b u q _ m=>by rw [jv _ _ (fun z=>m (by simp [z]))]; exact q
 slot:=fun b u q m=>⟨u.slots,by rw [jv _ _ (fun z=>m (by simp [z]))]; exact q⟩
 there:=fun b u q=>by
  by_cases z:e=b
  ·subst z; exact ⟨_,km _ he (lT (kE hd f))⟩
  ·exact ⟨u,by rw [jv _ _ z]; exact q⟩
 size:=kU (Heap.size_after_update ..).symm
section
variable {M:Model} {A:Around} {E:Value->Shared->Prop} {s:Shared} {base:Heap} {env:Env} {outer:List Env} {L e C dx T:Addr} {fl:Value} {vs:Array Value} {Q:Unit->Shared->Prop}
theorem Ht {head:Value} {hn:Bool} (hfr:A.frames=some (env::outer)) (hl:s.heap.FunFrames base (env::outer)) (hf:env.frame=some L) (he:s.heap.get? e=some (a3r C dx vs)) (h1:1<vs.size)
  (cC:e∉frs (env::outer))
  (h:∀ h' T,s.heap.objs.size<=T->Kp (frs (env::outer)) [e] s.heap h'->XAt h' e C dx T (rawInt L)->Q () { s with heap:=h' }) :
  wpAny M A (frameOf env >>= fun a=>entryPlaceOf L hn >>= fun pl=>EntryCells.newEntry head a .none (rawInt L) .none pl >>= fun b=>setField (.ref e) 1 b) Q E s:=by
 refine hJ (wpAny_frameOf_fun hfr hl hf fun cQ hs=>?_);refine hJ (wpAny_entryPlaceOf fun pl aN=>?_);unfold EntryCells.newEntry newFields;have e1:cQ.get? e=some (a3r C dx vs):=(hs.2.1 e cC).trans he;refine hJ (jP ?_ (aN.sizeOk5 _ _ _ _ _));refine kF (ix _ e1) rfl h1 ?_;have ne:cQ.objs.size≠e:=kl (iq e1);refine h _ cQ.objs.size (kU hs.1.symm) ?_ ⟨ne,⟨vs.setIfInBounds 1 (.ref cQ.objs.size),?_,by simp [h1]⟩,?_⟩
 ·exact (((Kp.slots hs).mono (ch':=[e]) (fun _ z=>z) (fun _ z=>nomatch z)).trans (Kp.pushed _)).trans (Kp.field (ix _ e1) rfl _)
 ·exact km _ (ix _ e1) rfl
 ·refine ⟨_,_,(jv _ _ (Ne.symm ne)).trans (iI _ rfl),rfl,?_⟩;rcases aN with rfl | ⟨_,_,_,_,_,_,_,rfl⟩ <;> simp
theorem Xh (hfr:A.frames=some (env::outer)) (hl:s.heap.FunFrames base (env::outer)) (hf:env.frame=some L) (he:s.heap.get? e=some (a3r C dx vs)) (h1:vs[1]? = some .none) (cC:e∉frs (env::outer))
  (h:∀ h' T,s.heap.objs.size<=T->Kp (frs (env::outer)) [e] s.heap h'->XAt h' e C dx T (rawInt L)->Q () { s with heap:=h' }):wpAny M A (noteFrame (.ref e) env) Q E s:=by
 unfold noteFrame;simp only [hf];refine hJ (iH he rfl h1 ?_);rw [hV (by decide)];exact Ht hfr hl hf he (kG.mp h1).1 cC h
theorem Xl (hf:env.frame=some L) (x:XAt s.heap e C dx T (rawInt L)) (h:Q () s):wpAny M A (noteFrame (.ref e) env) Q E s:=by
 obtain ⟨ne,⟨vs,he,h1⟩,o,ts,hT,hd,h3⟩:=x;unfold noteFrame;simp only [hf];refine hJ (iH he rfl h1 ?_);rw [hU (show (Value.ref T != Value.none)=true from by simp)];refine hJ (iH hT hd h3 ?_);rw [hU (show (rawInt L==rawInt L)=true from by simp)];exact ia h
theorem Qa (hfr:A.frames=some (env::outer)) (hl:s.heap.FunFrames base (env::outer)) (hf:env.frame=some L) (x:XAt s.heap e C dx T .none) (cC:e∉frs (env::outer)) (fY:T∉frs (env::outer))
  (h:∀ h' T',s.heap.objs.size<=T'->Kp (frs (env::outer)) [e,T] s.heap h'->XAt h' e C dx T' (rawInt L)->Q () { s with heap:=h' }):wpAny M A (noteFrame (.ref e) env) Q E s:=by
 obtain ⟨ne,⟨vs,he,h1⟩,o,ts,hT,hd,h3⟩:=x;have k1:Kp (frs (env::outer)) [T] s.heap (s.heap.update T (Obj.mapFields (·.setIfInBounds 3 Value.none))):=Kp.field hT hd _;unfold noteFrame;simp only [hf];refine hJ (iH he rfl h1 ?_);rw [hU (show (Value.ref T != Value.none)=true from by simp)];refine hJ (iH hT hd h3 ?_);rw [hV (show ¬ ((Value.none==rawInt L)=true) from by simp [rawInt])];refine hJ (kF hT hd (kG.mp h3).1 ?_);have cy:(s.heap.update T (Obj.mapFields (·.setIfInBounds 3 Value.none))).get? e=some (a3r C dx vs):=(jv _ _ ne).trans he;refine Ht (base:=base) hfr (hl.of_keeps fun b u q nf=>?_) hf cy (kG.mp h1).1 cC fun h' T' hz k2 x=>h h' T' (ip k1.size hz) ((k1.mono (fun _ z=>z) (by simp)).trans (k2.mono (fun _ z=>z) (by simp))) x;refine ⟨u,?_,rfl⟩;have:T≠b:=fun z=>by subst z; rw [hT] at q; cases q; exact nf ts hd
 rw [jv _ _ this]; exact q
theorem Ez (x:XAt s.heap e C dx T fl) (h:∀ h',Kp [] [T] s.heap h'->XAt h' e C dx T .none->Q () { s with heap:=h' }):wpAny M A (setFlight (.ref e) none) Q E s:=by
 obtain ⟨ne,⟨vs,he,h1⟩,o,ts,hT,hd,h3⟩:=x;have z3:=(kG.mp h3).1;unfold setFlight;refine hJ (iH he rfl h1 ?_);rw [hU (show (Value.ref T != Value.none)=true from by simp)];refine kF hT hd z3 (h _ (Kp.field hT hd _) ⟨ne,⟨vs,(jv _ _ ne).trans he,h1⟩,_,_,km _ hT (lT (kE hd _)),kE hd _,by simp [z3]⟩)
end
end L2
end
section
namespace My
open PySem PySem.W PySem.Calls PyProof.Rows PySem.Spec Builtin.ObjectAttr
section
variable {prog:Program} {w:World} {A:Around} {E:Value->Shared->Prop} {s:Shared} {K:Frag} {x C D t:Addr} {cd:ClassData} {name:Str} {v:Value}
theorem a4m {Q:Unit->Shared->Prop} (X:K.In s.heap) (hx:s.heap.get? x=some (Za C t))
  (hs:findIn K (.ref C) "__setattr__" = some (some (.builtin "object.__setattr__"))) (hc:clsIn K C=some cd) (hm:cd.mro=.ref C :: .ref D::vB) (hd:cd.hasDict=true)
  (ho:mroIn K C (.type "object")=some true) (ha:findIn K (.ref C) name=some none)
  (h:∀ h',(∀ b o,b≠x->s.heap.get? b=some o->h'.get? b=some o)->h'.get? x=some (a4j C t s.heap.objs.size)->h'.get? s.heap.objs.size=some (dictOf [⟨PyData.keyHash w.params name,.str name (s.toks+1),v⟩] 1)->Q () { s with heap:=h',toks:=s.toks+2 }) :
  wpAny (model prog w) A (setAttr (.ref x) name v) Q E s:=by
 have I:InstAt s.heap x (Za C t) C none:=⟨hx,rfl,rfl,trivial⟩;refine set_plain X I hs ?_;have SF:=PySem.F.store_object;have sub:Looks (model prog w) s.heap (isInstance (.ref x) (.type "object")) true:=I.type.andThen (looks_mroIn X ho);refine codeAny_call_builtin SF.slot.plain SF.entry (@check_slot (model prog w) _ _ _ "object.__setattr__" "object" "__setattr__" (.ref x) [.str name s.toks,v] [] _ SF.kind SF.split sub (SF.args (.ref x) (.str name s.toks) v) ?_);have gh:Looks (model prog w) s.heap (mroOf (.ref C)) cd.mro:=(looks_clsIn X hc).andThen .now;rw [osa_eq,refuse_eq];refine hJ (hJ (I.type _ _ _ _ (fun _ _ e=>e) (hJ (gh _ _ _ _ (fun _ _ e=>e) ?_))));rw [hm,refuseLoop_ref,refuseLoop_ref,afa];refine ia (hJ (I.type _ _ _ _ (fun _ _ e=>e) (hJ (looks_findIn X ha _ _ _ _ (fun _ _ e=>e) (hJ (ia ?_))))));dsimp only;refine hJ (ia (hJ (hJ (wpAny_loadPart hx (hJ (looks_clsIn X hc _ _ _ _ (fun _ _ e=>e) ?_))))));rw [hd];show wpAny _ _ (alloc { cls:=.type "dict",data:=.dict #[] } >>= fun dx=>update x (fun o=>{ o with dict:=some dx }) >>= fun _=>dictMade (.ref C) x dx) _ _ _;have lx:x<s.heap.objs.size:=iq hx;have g1:=ix (h:=s.heap) (dictOf [] 0) hx;have g2:((s.heap.push (dictOf [] 0)).update x (fun o=>{ o with dict:=some s.heap.objs.size })).get? x=some (a4j C t s.heap.objs.size):=km _ g1 rfl;have g3:((s.heap.push (dictOf [] 0)).update x (fun o=>{ o with dict:=some s.heap.objs.size })).get? s.heap.objs.size=some (dictOf [] 0):=(jv _ _ (iQ lx)).trans (iI _ rfl);refine hJ (wpAny_alloc (hJ (wpAny_update g1 ?_)));refine ia (a:=some s.heap.objs.size) (hJ (ia (hJ ?_)));unfold nsSet;refine hJ (hJ (wpAny_askSetting (ia (hJ (wpAny_mkText (hJ (wpAny_loadPart g3 ?_)))))));have c:aRefKeyMayBeTheName name [].toArray=false:=by rw [aRefKeyMayBeTheName_at]; simp
 show wpAny _ _ (if aRefKeyMayBeTheName name [].toArray=true then _ else _) _ _ _;rw [c];refine wpAny_updatePart g3 ?_;have g4:=km (Obj.putName name (PyData.keyHash w.params name) (.str name (s.toks+1)) v) g3 (by rw [putName_dict]; rfl);refine hJ (wpAny_lookBehind g4 (pastItsLine_dict (by rw [iB,sizeLine_eq]; show 1<=_; decide)) ?_);refine ia (h _ (fun b o nb q=>?_) ?_ ?_)
 ·have l:=iq q;rw [jv _ _ (kl l),jv _ _ (Ne.symm nb)];exact ix _ q
 ·rw [jv _ _ (kl lx)]; exact g2
 ·exact g4
end
end My
end
section
namespace L2
open PySem PySem.Spec PyProof.Rows
structure XC (K:PySem.W.Frag) (C D fI:Addr) (f:Str):Prop where
 lk:∃ nm q Na bs sn sub ab col dd k0 k1 k2 k3 k5,K.lookup C=some (excClassObj nm q C Na bs (.ref D::My.vB) true sn sub ab col dd k0 k1 k2 k3 k5 "ValueError.__new__")
 base:PySem.W.excIn K D My.vB "ValueError.__new__" = true
 init:PySem.W.findIn K (.ref C) "__init__" = some (some (.ref fI))
 fn:PySem.W.isFn K (.ref fI)=true
 sa:PySem.W.findIn K (.ref C) "__setattr__" = some (some (.builtin "object.__setattr__"))
 ob:PySem.W.mroIn K C (.type "object")=some true
 na:PySem.W.findIn K (.ref C) f=some none
 kp:PySem.W.keepIn K (.ref C)=true
def ae9 (e C t:Addr):HO:=.ext fun h=>h.get? e=some (My.Za C t)
def a0v (e C t dx:Addr):HO:=.ext fun h=>h.get? e=some (My.a4j C t dx)
noncomputable def Fx (dx:Addr) (f:Str) (v:V):HO:=.ext fun h=>∃ hs tk u,RelV v u/\h.get? dx=some (PySem.W.dictOf [⟨hs,.str f tk,u⟩] 1)
theorem a7a {P:Program} {w:World} {H:Hp} {h:Heap} {a:Addr} {o:Obj} (e:h.get? a=some o):vq P w H h a (.ext fun h=>h.get? a=some o):=⟨e,⟨_,e⟩,fun _ _ q k=>k _ q⟩
theorem a4d {P:Program} {w:World} {H:Hp} {h:Heap} {dx:Addr} {f:Str} {v:V} {hs:Int} {tk:Tok} {u:Value} (r:RelV v u) (e:h.get? dx=some (PySem.W.dictOf [⟨hs,.str f tk,u⟩] 1)):vq P w H h dx (Fx dx f v) :=
 ⟨⟨hs,tk,u,r,e⟩,⟨_,e⟩,fun _ _ ⟨a,b,c,r,q⟩ k=>⟨a,b,c,r,k _ q⟩⟩
section
variable {X:Cx} {pins:List (Addr × Obj)} {σ:St} {H:Hp} {s:Shared} {e C D fI t:Addr} {f:Str} {v:V} {u:Value} {A:Around} {E:Value->Shared->Prop}
theorem Inv.adu {h':Heap} {dx:Addr} {o p:HO} {t':Nat} (I:Inv X pins σ H s) (he:Mut (H e)) (hz:s.heap.objs.size<=dx) (k:∀ b u,b≠e->s.heap.get? b=some u->h'.get? b=some u) (fE:∃ u,h'.get? e=some u)
  (n1:∀ H',vq X.prog X.w H' h' e o) (n2:∀ H',vq X.prog X.w H' h' dx p):Inv X pins σ (upd (upd H dx p) e o) { s with heap:=h',toks:=t' }:=by
 have fx:H dx=none:=I.hok.fresh hz;have ne:dx≠e:=fun z=>by subst z; rw [fx] at he; exact he
 have nb:∀ b,H b=none->b≠e:=fun b n z=>by subst z; rw [n] at he; exact he
 have ns:∀ b u,s.heap.get? b=some u->b≠dx:=fun b u q z=>by subst z; exact absurd (iD (iq q) hz) (jM _)
 have nm:∀ b u,H b=some u->¬ Mut (some u)->b≠e/\b≠dx:=fun b u q n=>⟨fun z=>by subst z; rw [q] at he; exact n he,fun z=>by subst z; rw [fx] at q; cases q⟩;have up:∀ b,b≠e->b≠dx->upd (upd H dx p) e o b=H b:=fun b n m=>by rw [gw n,gw m]
 refine I.un (t':=t') ⟨fun b u q n _ _=>k b u (nb b n) q,fun b u q n _ _=>⟨u.slots,k b u (nb b n) q⟩,fun b u q n _=>by rw [up b (nb b n) (ns b u q)]; exact n,fun b u q _=>?_,
  fun b xs q=>?_,fun b u xs q=>?_,fun b ps q=>⟨#[],?_⟩⟩ fun b u q=>?_
 ·by_cases z:b=e
  ·subst z; exact fE
  ·exact ⟨u,k b u z q⟩
 ·obtain ⟨a,c⟩:=nm b _ q fun z=>z;rw [up b a c]; exact q
 ·obtain ⟨a,c⟩:=nm b _ q fun z=>z;rw [up b a c]; exact q
 ·obtain ⟨a,c⟩:=nm b _ q fun z=>z;rw [up b a c,q]; simp
 ·by_cases z:b=e
  ·subst z; rw [dj] at q; cases q; exact n1 _
  ·rw [gw z] at q
   by_cases y:b=dx
   ·subst y; rw [dj] at q; cases q; exact n2 _
   ·rw [gw y] at q;refine (I.hok b u q).stay (fun c w hc r=>k c w ?_ r) (fun c r=>?_) fun c xs r=>?_
    ·rcases hc with hc | hc
     ·rw [hc]; exact z
     ·exact (nm c _ hc fun z=>z).1
    ·obtain ⟨a,d⟩:=nm c _ r fun z=>z;rw [up c a d]; exact r
    ·obtain ⟨a,d⟩:=nm c _ r fun z=>z;rw [up c a d]; exact r
theorem a1z {Q:Unit->Shared->Prop} (c:XC X.K C D fI f) (I:Inv X pins σ H s) (e0:H e=some (ae9 e C t)) (r:RelV v u)
  (h:∀ s' dx,H dx=none->dx≠e->Inv X pins σ (upd (upd H dx (Fx dx f v)) e (a0v e C t dx)) s'->Q () s'):wpAny (model X.prog X.w) A (setAttr (.ref e) f u) Q E s:=by
 obtain ⟨nm,q,Na,bs,sn,sub,ab,col,dd,k0,k1,k2,k3,k5,lk⟩:=c.lk;have hx:s.heap.get? e=some (My.Za C t):=(I.hok e _ e0).1;refine My.a4m (cd:={ name:=nm,bases:=bs,mro:=.ref C :: .ref D::My.vB,ns:=Na,qualname:=q,hasDict:=true,slotNames:=sn,subclasses:=sub,abstract:=ab,collection:=col,hasDel:=false }) I.kIn hx c.sa (by unfold PySem.W.clsIn; rw [lk]) rfl rfl c.ob c.na fun h' k g1 g2=>h _ s.heap.objs.size (I.hok.fresh (ic _)) (kl (iq hx)) ?_;exact I.adu (by rw [e0]; exact True.intro) (ic _) k ⟨_,g1⟩ (fun _=>a7a g1) fun _=>a4d r g2
end
noncomputable def afi (C:Addr) (f:Str) (ta tv:TE):TS:=fun D σ H=>tv σ H fun v H1=>ta σ H1 fun x H2=>∃ e t,x=.ref e/\H2 e=some (ae9 e C t)/\∀ dx,H2 dx=none->dx≠e->D.nx σ (upd (upd H2 dx (Fx dx f v)) e (a0v e C t dx))
noncomputable def Ox (C:Addr) (f:Str):Sp:=fun vs H Q _=>∃ e t v,vs=[.ref e,v]/\H e=some (ae9 e C t)/\∀ dx,H dx=none->dx≠e->Q .non (upd (upd H dx (Fx dx f v)) e (a0v e C t dx))
section
variable {X:Cx} {o value:Expr} {ta tv:TE} {f:Str} {pos pos':Pos} {C D fI:Addr}
theorem a8o (c:XC X.K C D fI f) (ha:PE X o ta) (hv:PE X value tv) (hs:swapsWith value (some (.Attribute o f pos')) pos.line X.env=pure false):PS X (.Assign [.Attribute o f pos'] value pos) (afi C f ta tv):=by
 intro pins s σ H D I h;refine plainObj_wpAny_Assign_Attribute (thn (hv pins s σ H _ I h) fun u s1 ⟨y,H1,I1,ry,q⟩=>thn (ha pins s1 σ H1 _ I1 q) fun ov s2 ⟨x,H2,I2,rx,e,t,ex,e0,q2⟩=>?_) hs;subst ex;obtain rfl:ov=Value.ref e:=rx;exact a1z c I2 e0 ry fun s3 dx h1 h2 I3=>⟨σ,_,I3,q2 dx h1 h2⟩
end
section
variable {P:Program} {w:World} {K:PySem.W.Frag} {mg:Str->Option Value} {base:Heap}
theorem aav {qual p f:Str} {st:Stmt} {C D fI:Addr} {fd:FuncData} {q1 q2 q3 q4:Pos} (c:XC K C D fI f) (F:Fun K "__init__" qual st fI fd) (S:Bx ["self",p] ["self",p] (j5 st))
  (hb:xu st=[.Assign [.Attribute (.Name "self" q1) f q2] (.Name p q3) q4]) (h1:(j5 st).names.lookup ("self" : Str)=some .local) (h2:(j5 st).names.lookup p=some .local) (hp:("self" : Str)≠p) (hd:(p==("__debug__" : Str))=false) (bz:(p==("__classdict__" : Str))=false)
  (dk:∀ env:Env,swapsWith (.Name p q3) (some (.Attribute (.Name "self" q1) f q2)) q4.line env=pure false) :
  Du P w K mg base CX0 1 fI fd ["self",p] (Ox C f):=by
 refine F.ok S (fun vs H Q E ⟨e,t,v,h,_⟩=>by rw [h]; rfl) fun aC A outer s H vs Q E hr ⟨e,t,v,h,h0,h3⟩=>?_;subst h;rw [hb];refine ⟨_,Sg (a8o (C:=C) (D:=D) (fI:=fI) c (a0n (i:=0) rfl (.inl h1)) (a0n (i:=1) rfl (.inl h2) hd bz) (dk _)),?_⟩;exact ⟨v,rfl,.ref e,rfl,e,t,rfl,h0,h3⟩
end
section
variable {X:Cx} {pins:List (Addr × Obj)} {σ:St} {H:Hp} {s:Shared} {C D fI:Addr} {f p:Str} {v:V} {u:Value} {E:Value->Shared->Prop} {fd:FuncData}
theorem a9d {Q:Value->Shared->Prop} (c:XC X.K C D fI f) (F:Du X.prog X.w X.K X.mg X.base CX0 1 fI fd ["self",p] (Ox C f)) (hr:Cj 2 X.A) (hb:Binds X.K fd ["self",p] []) (I:Inv X pins σ H s) (r:RelV v u)
  (h:∀ s' e t dx,H e=none->H dx=none->dx≠e->s.heap.objs.size<=e->Inv X pins σ (upd (upd H dx (Fx dx f v)) e (a0v e C t dx)) s'->Q (.ref e) s'):wpAny (model X.prog X.w) X.A (call (.ref C) [u]) Q E s:=by
 obtain ⟨nm,q,Na,bs,sn,sub,ab,col,dd,k0,k1,k2,k3,k5,lk⟩:=c.lk;have hC:=I.kIn _ _ lk;have f1:=tc_lookup;have f2:=tc_bind (.ref C);have I1:Inv X pins σ H { s with heap:=s.heap.push (My.a7u [u]) }:=I.kept (t':=s.toks) fun b o z=>ix _ z;have z1:(s.heap.push (My.a7u [u])).objs.size=s.heap.objs.size+1:=jU ..
 have g1:((s.heap.push (My.a7u [u])).push (My.Za C s.heap.objs.size)).get? (s.heap.objs.size+1)=some (My.Za C s.heap.objs.size):=by
  rw [<- z1]; exact iI _ rfl
 have I2:Inv X pins σ (upd H (s.heap.objs.size+1) (ae9 (s.heap.objs.size+1) C s.heap.objs.size)) { s with heap:=(s.heap.push (My.a7u [u])).push (My.Za C s.heap.objs.size) } :=
  I1.laid (t':=s.toks) (fun b o z=>ix _ z) (by show (s.heap.push (My.a7u [u])).objs.size<=_; rw [z1]; exact ic _) (a7a g1)
 have hE:H (s.heap.objs.size+1)=none:=I.hok.fresh (Nat.le_succ _);have r2:Vals [V.ref (s.heap.objs.size+1),v] [Value.ref (s.heap.objs.size+1),u]:=.cons rfl (.cons r .nil);obtain ⟨hh,g,d,tk,os⟩:=s;have hT:(⟨hh,g,d,tk,os⟩:Shared).TypeIs (.ref C) "type" := ⟨_,hC,rfl⟩;refine wpAny_call (codeAny_of_tree ?_);show wpAny _ _ (callAny (.ref C) _) _ _ _
 repeat (any_goals (first | assumption | with_reducible refine lz hC ?_ | wp_step))
 refine ⟨rfl,?_⟩
 refine codeAny_call_builtin_at (Code.quiet_builtin _ (by decide +kernel)) entry_typeCall (wpAny_check_type_call_sub hC (My.La I.kIn hC (My.afr I.kIn c.base) c.init (jI.mp c.fn) (wpAny_call (kK
  (F.run _ X.stack _ _ ⟨[Value.ref (hh.objs.size+1),u],[]⟩ [Value.ref (hh.objs.size+1),u] _ (fun w H'=>w=.non/\∃ dx,H dx=none/\dx≠hh.objs.size+1/\H'=upd (upd H dx (Fx dx f v)) (hh.objs.size+1) (a0v (hh.objs.size+1) C hh.objs.size dx)) (fun _ _ _=>False) (hr.make C [u] []) (I2.env0.make C [u] [])
   (hb _ [Value.ref (hh.objs.size+1),u] I2.kIn rfl) r2 ⟨_,_,v,rfl,dj,fun dx h1 h2=>⟨rfl,dx,by rw [gw h2] at h1; exact h1,h2,?_⟩⟩) fun r s' hq=>?_)) (by show 1<=sizeLine; rw [sizeLine_eq]; decide)))
 ·funext b
  by_cases e1:b=hh.objs.size+1
  ·subst e1; rw [dj,dj]
  ·rw [gw e1,gw e1]
   by_cases e2:b=dx
   ·subst e2; rw [dj,dj]
   ·rw [gw e2,gw e2,gw e1]
 ·cases r with
  | error e=>exact False.elim hq
  | ok fl =>
   cases fl with
   | ret u' =>
    obtain ⟨v',H',I3,rv,⟨ev,dx,h1,h2,e3⟩⟩:=I2.after hq;subst ev;subst e3;exact ⟨rv,h s' _ _ dx hE h1 h2 (Nat.le_succ _) I3⟩
   | next=>exact False.elim hq
   | brk=>exact False.elim hq
   | cont=>exact False.elim hq
end
noncomputable def CXx (P:Program) (w:World):CXT:=fun outer H s E e s'=>∃ a C dx T H',e=.ref a/\s.heap.objs.size<=a/\s.heap.objs.size<=T/\XAt s'.heap a C dx T .none/\H' a=none/\H' T=none /\
 s'.os=s.os/\AllBare s'.gens/\Un (frs outer) [] H H' s.heap s'.heap/\HOk P w H' s'.heap/\E (.ref C) (some dx) H'
section
variable {X:Cx} {pins:List (Addr × Obj)} {σ:St} {H:Hp} {s:Shared}
theorem Inv.noted {h':Heap} {ch:List Addr} (I:Inv X pins σ H s) (k:Kp (frs X.stack) ch s.heap h') (hn:∀ b∈ch,H b=none)
  (aV:∀ b∈ch,(b∈X.ex\/X.s₀.heap.objs.size<=b)/\b≠X.env.locals/\(∀ x c,X.env.cells.lookup x=some c->c≠b)/\∀ p∈X.pn++pins,p.1≠b):Inv X pins σ H { s with heap:=h' }:=by
 refine I.step (g':=s.gens) (d':=s.drawn) (t':=s.toks) (ch:=ch) aV (fun b o hL hb hc e n=>k.keep b o e (fun z=>(ir.mp (I.Ra b z)).elim hL hb) hc) (fun b o _ _ hc e _=>k.slot b o e hc) (fun _ _ _ _ n=>n)
  (fun b o _ e=>k.there b o e) (fun _ _ e=>e) (fun _ _ _ e=>e) (fun b ps e=>⟨#[],by rw [e]; simp⟩) (fun m hm=>?_) (fun b u e=>?_) I.bare
 ·obtain ⟨o,es,ep,ho,r⟩:=hm;obtain ⟨sl,q⟩:=k.slot _ o ho fun z=>(aV _ z).2.1 rfl;exact ⟨_,es,ep,q,r⟩
 ·have tr:∀ c x,H c=some x->c∉frs X.stack/\c∉ch:=fun c x q=>⟨(fun z=>by rw [I.Rv c z] at q; cases q),(fun z=>by rw [hn c z] at q; cases q)⟩;refine (I.hok b u e).stay (fun c v hc q=>?_) (fun _ q=>q) fun _ _ q=>q;rcases hc with hc | hc
  ·subst hc; exact k.keep c v q (tr c u e).1 (tr c u e).2
  ·exact k.keep c v q (tr c _ hc).1 (tr c _ hc).2
theorem Inv.Fq {e:Addr} {o:Obj} {vs:Array Value} (I:Inv X pins σ H s) (he:s.heap.get? e=some o) (hd:o.data=.fields vs):e≠X.env.locals/\(∀ x c,X.env.cells.lookup x=some c->c≠e)/\e∉frs X.stack:=by
 refine ⟨fun z=>?_,fun x c q z=>?_,fun z=>?_⟩
 ·obtain ⟨m,⟨o',es,ep,a5,bS,_⟩,_⟩:=I.loc;rw [<- z,he] at a5; cases a5; rw [bS] at hd; cases hd
 ·obtain ⟨v,o',a5,bS⟩:=I.cell x c q;rw [z,he] at a5; cases a5; rw [bS] at hd; cases hd
 ·obtain ⟨_,o',a5,hnf⟩:=I.stack.mem z;rw [he] at a5; cases a5; exact hnf vs hd
end
section
variable {P:Program} {w:World} {K:PySem.W.Frag} {mg:Str->Option Value} {base:Heap} {N:List Str} {qual:Str} {scope:Scope} {f:Addr} {cd:Value} {A:Around} {outer:List Env} {s₀ s:Shared} {H₀ H:Hp} {E:XK} {pins:List (Addr × Obj)} {σ:St} {e C dx:Addr} {vs:Array Value}
theorem a4p (I:Inv (Qc (CXx P w) P w K mg base N qual scope f cd A outer s₀ H₀ E) pins σ H s) (he:s.heap.get? e=some (a3r C dx vs)) (h1:vs[1]? = some .none) (hn:H e=none) (hz:s₀.heap.objs.size<=e) (hE:E (.ref C) (some dx) H) :
  (Qc (CXx P w) P w K mg base N qual scope f cd A outer s₀ H₀ E).xe (.ref e) s:=by
 have I0:=I.Fy (pins':=[]) (fun p hp=>nomatch hp);have ne:=I0.Fq he rfl;show wpAny _ _ (leaving _ _) _ _ _;unfold leaving;refine hJ (Xh (L:=s₀.heap.objs.size) (base:=base) I0.ok.frames I0.stack rfl he h1 ne.2.2 fun h' T hT k x=>?_)
 have I1:=I0.noted k (fun b hb=>by rw [ik.mp hb]; exact hn) fun b hb=>by
  obtain rfl:=ik.mp hb;exact ⟨.inr hz,ne.1,ne.2.1,fun p hp=>nomatch hp⟩
 have eY:H T=none:=I0.hok.fresh hT;obtain ⟨oT,tsT,gT,dT,_⟩:=x.tb;have neT:=I1.Fq (s:={ s with heap:=h' }) gT dT;have sz:s₀.heap.objs.size<=T:=ip I0.sz hT;refine Ez (s:={ s with heap:=h' }) x fun h2 k2 x2=>?_
 have I2:=I1.noted (h':=h2) (k2.mono (fun _ z=>nomatch z) (fun _ z=>z)) (fun b hb=>by rw [ik.mp hb]; exact eY) fun b hb=>by
  obtain rfl:=ik.mp hb;exact ⟨.inr sz,neT.1,neT.2.1,fun p hp=>nomatch hp⟩
 exact ⟨e,C,dx,T,H,rfl,hz,sz,x2,hn,eY,I2.os,I2.bare,I2.base,I2.hok,hE⟩
end
section
variable {X:Cx} {pins:List (Addr × Obj)} {σ:St} {H:Hp} {s:Shared} {e:Addr}
theorem Inv.aae {φ:Heap->Prop} (I:Inv X pins σ (upd H e (.ext φ)) s) (hn:H e=none):Inv X pins σ H s:=by
 have ne:∀ b u,upd H e (.ext φ) b=some u->(∀ ψ,u≠.ext ψ)->b≠e/\H b=some u:=fun b u q n=>by
  by_cases z:b=e
  ·subst z; rw [dj] at q; cases q; exact absurd rfl (n _)
  ·rw [gw z] at q; exact ⟨z,q⟩
 have fr:∀ b,upd H e (.ext φ) b=none->H b=none:=fun b q=>by
  by_cases z:b=e
  ·subst z; exact hn
  ·rw [gw z] at q; exact q
 refine I.step (g':=s.gens) (d':=s.drawn) (t':=s.toks) (h':=s.heap) (ch:=[]) (fun _ z=>nomatch z) (fun b o _ _ _ q _=>q) (fun b o _ _ _ q _=>⟨o.slots,q⟩) (fun b o _ _ n=>fr b n) (fun b o _ q=>⟨o,q⟩)
  (fun b xs q=>(ne b _ q (fun _=>by intro z; cases z)).2) (fun b o u q=>(ne b _ q (fun _=>by intro z; cases z)).2) (fun b ps q=>⟨#[],by rw [(ne b _ q (fun _=>by intro z; cases z)).2]; simp⟩) (fun _ hm=>hm) (fun b u q=>?_) I.bare
 have z:b≠e:=fun z=>by subst z; rw [hn] at q; cases q
 refine (I.hok b u (by rw [gw z]; exact q)).stay (fun _ _ _ r=>r) (fun c r=>(ne c _ r (fun _=>by intro z; cases z)).2) fun c xs r=>(ne c _ r (fun _=>by intro z; cases z)).2
end
def XW (X:Cx) (E:XK):Prop:=∀ (pins:List (Addr × Obj)) (σ:St) (H:Hp) (s:Shared) (e C dx:Addr) (vs:Array Value),Inv X pins σ H s->s.heap.get? e=some (a3r C dx vs)->vs[1]? = some .none->H e=none->X.s₀.heap.objs.size<=e->E (.ref C) (some dx) H->X.xe (.ref e) s
theorem ad4 {P:Program} {w:World} {K:PySem.W.Frag} {mg:Str->Option Value} {base:Heap} {N:List Str} {qual:Str} {scope:Scope} {f:Addr} {cd:Value} {A:Around} {outer:List Env} {s₀:Shared} {H₀:Hp} {E:XK} :
  XW (Qc (CXx P w) P w K mg base N qual scope f cd A outer s₀ H₀ E) E:=fun _ _ _ _ _ _ _ _ I he h1 hn hz hE=>a4p I he h1 hn hz hE
section
variable {M:Model} {A:Around} {E:Value->Shared->Prop} {env:Env}
variable {nm q:Str} {C N:Addr} {bs bm:List Value} {hdct:Bool} {sn:List Str} {sub:List Value} {ab:Bool} {col:Option Bool} {dd:Option Addr} {k0 k1 k2 k3 k5:Option Value} {newId:String}
theorem a2x {s:Shared} {x:Sem Value} {Q:Flow->Shared->Prop} (aP:bm.contains (.type "BaseException")=true) (hh:A.handled=none)
  (h:wpAny M A x (fun v s1=>∃ e dx vs,v=.ref e/\s1.heap.get? C=some (excClassObj nm q C N bs bm hdct sn sub ab col dd k0 k1 k2 k3 k5 newId)/\s1.heap.get? e=some (a3r C dx vs)/\vs[1]? = some .none/\E (.ref e) s1) E s) :
  wpAny M A (raiseStmt env (some x) none) Q E s:=by
 have fU:(Value.ref C::bm).contains (.type "BaseException")=true:=by rw [List.contains_cons,aP,Bool.or_true]
 unfold raiseStmt;refine hJ (iT h (fun v s1 h1=>?_) fun _ _ x=>x);obtain ⟨e,dx,vs,rfl,hC,he,hv,hE⟩:=h1;obtain ⟨hp,g,d,tk,os⟩:=s1
 repeat (first | with_reducible refine lz he ?_ | with_reducible refine lz hC ?_ | (with_reducible refine wpAny_isSubtype_exc hC ?_; rw [fU]) | wp_step)
 rw [hv];exact ia (ia (wpAny_raiseNew_none hh hE))
end
noncomputable def sRz (C:Addr) (f:Str) (E:XK) (te:TE):TS:=fun _ σ H=>te σ H fun v H1=>∀ dx,H1 dx=none->E (.ref C) (some dx) (upd H1 dx (Fx dx f v))
section
variable {X:Cx} {E:XK} {C D fI:Addr} {f p x:Str} {fd:FuncData} {arg:Expr} {te:TE} {np ay pos:Pos}
theorem a6n (W:XW X E) (c:XC X.K C D fI f) (F:Du X.prog X.w X.K X.mg X.base CX0 1 fI fd ["self",p] (Ox C f)) (hr:Cj 2 X.A) (hb:Binds X.K fd ["self",p] []) (hg:Gl X x) (hm:X.mg x=some (.ref C)) (ha:PE X arg te)
  (aX:(x==("__debug__" : Str))=false:=by decide) (he:starEach [arg] X.env=[(false,eval arg X.env)]:=by rfl) :
  PS X (.Raise (some (.Call (.Name x np) [arg] [] ay)) none pos) (sRz C f E te):=by
 intro pins s σ H Dn I h;obtain ⟨nm,q,Na,bs,sn,sub,ab,col,dd,k0,k1,k2,k3,k5,lk⟩:=c.lk;rw [arm_exec_Raise];refine hJ (kT ?_);show wpAny _ _ (raiseStmt X.env (some (eval (.Call (.Name x np) [arg] [] ay) X.env >>= fun v=>standAt pos >>= fun _=>pure v)) none) _ _ _;refine a2x (C:=C) (nm:=nm) (q:=q) (N:=Na) (bs:=bs) (bm:=.ref D::My.vB) (hdct:=true) (sn:=sn) (sub:=sub) (ab:=ab) (col:=col) (dd:=dd) (k0:=k0) (k1:=k1) (k2:=k2) (k3:=k3) (k5:=k5) (newId := "ValueError.__new__") (by simp) hr.hd ?_;refine hJ (iT (Q:=fun v s1=>∃ e dx vs,v=.ref e/\s1.heap.get? C=some (excClassObj nm q C Na bs (.ref D::My.vB) true sn sub ab col dd k0 k1 k2 k3 k5 "ValueError.__new__")/\s1.heap.get? e=some (a3r C dx vs)/\vs[1]? = some .none/\X.xe (.ref e) s1) ?_ (fun v s1 h1=>hJ (kT (ia h1))) fun _ _ z=>z);refine kW (O9 I hg hm ?_ aX);refine lI (h₀:=X.base) I.ok.mod.kin c.kp (thn (lu ha su (by rw [he]; rfl) ay pins s σ H (fun vs H1=>match vs with | [v]=>∀ dx,H1 dx=none->E (.ref C) (some dx) (upd H1 dx (Fx dx f v)) | _=>False) I h) fun us s1 ⟨vs,H1,I1,r,q⟩=>⟨I1.kIn,?_⟩) he rfl
 obtain ⟨v,ev,hE⟩:∃ v,vs=[v]/\∀ dx,H1 dx=none->E (.ref C) (some dx) (upd H1 dx (Fx dx f v)):=by
  match vs,q with
  | [v],q=>exact ⟨v,rfl,q⟩
 subst ev;obtain ⟨u,eu,rv⟩:=r.one;subst eu
 exact a9d c F hr hb I1 rv fun s' e t dx h1 h2 h3 h4 I2=>by
  have e0:upd H1 dx (Fx dx f v) e=none:=by rw [gw (Ne.symm h3)]; exact h1
  have cy:s'.heap.get? e=some (My.a4j C t dx):=(I2.hok e _ dj).1;have I3:=I2.aae e0;exact ⟨e,dx,_,rfl,I3.kIn _ _ lk,cy,rfl,W pins σ _ s' e C dx _ I3 cy rfl e0 (ip I1.sz h4) (hE dx h2)⟩
end
def Off (X:Cx) (pins:List (Addr × Obj)) (b:Addr):Prop:=(b∈X.ex\/X.s₀.heap.objs.size<=b)/\b≠X.env.locals/\(∀ x c,X.env.cells.lookup x=some c->c≠b)/\∀ p∈X.pn++pins,p.1≠b
section
variable {X:Cx} {pins:List (Addr × Obj)} {σ:St} {H:Hp} {s:Shared}
theorem Inv.off {b:Addr} (I:Inv X pins σ H s) (h:s.heap.objs.size<=b):Off X pins b:=by
 refine ⟨.inr (ip I.sz h),fun z=>?_,fun x c q z=>?_,fun p hp z=>?_⟩
 ·subst z; exact absurd (iD I.lt h) (jM _)
 ·obtain ⟨v,o,ho,_⟩:=I.cell x c q;subst z; exact absurd (iD (iq ho) h) (jM _)
 ·have:=(I.pin p hp).1;rw [z] at this;exact absurd (iD (iq this) h) (jM _)
def XP (X:Cx) (CX:CXT) (pins:List (Addr × Obj)) (σ:St) (E:XK) (e:Value) (s':Shared):Prop:=∃ H1 s1,Inv X pins σ H1 s1/\CX X.stack H1 s1 E e s'
structure Lies (X:Cx) (pins:List (Addr × Obj)) (σ:St) (H:Hp) (s:Shared) (a C dx T:Addr):Prop where
 inv:Inv X pins σ H s
 at_:XAt s.heap a C dx T .none
 ha:H a=none
 hT:H T=none
 oa:Off X pins a
 oT:Off X pins T
theorem XP.lies {E:XK} {e:Value} (h:XP X (CXx X.prog X.w) pins σ E e s):∃ a C dx T H',e=.ref a/\Lies X pins σ H' s a C dx T/\E (.ref C) (some dx) H':=by
 obtain ⟨H1,s1,I,a,C,dx,T,H',rfl,za,zT,x,na,nT,os,ba,un,hok,hE⟩:=h;exact ⟨a,C,dx,T,H',rfl,⟨I.call' (ch:=[]) os un hok ba (fun b z=>nomatch z),x,na,nT,I.off za,I.off zT⟩,hE⟩
end
section
variable {X:Cx} {CX:CXT} {k:Nat} {f:Addr} {fd:FuncData} {ps:List Str} {sp:Sp} {x:Str} {p pos:Pos} {e:Expr} {es:List Expr} {t:TA}
end
section
variable {X:Cx} {pins:List (Addr × Obj)} {σ:St} {H:Hp} {s:Shared} {a:Addr}
end
def XCl (K:PySem.W.Frag) (C:Addr) (bm:List Value):Prop:=bm.contains (.type "BaseException")=true/\∃ nm q Na bs hdct sn sub ab col dd k0 k1 k2 k3 k5,K.lookup C=some (excClassObj nm q C Na bs bm hdct sn sub ab col dd k0 k1 k2 k3 k5 "ValueError.__new__")
section
variable {M:Model} {A:Around} {E:Value->Shared->Prop} {K:PySem.W.Frag} {C C1 C2 C3:Addr} {bm ft gC fA:List Value} {Q:Bool->Shared->Prop}
end
section
variable {X:Cx} {pins:List (Addr × Obj)} {σ:St} {H:Hp} {s:Shared} {a C dx T:Addr}
end
section
variable {X:Cx} {rest:List ExceptHandler} {C C1 C2 C3:Addr} {bm ft gC fA:List Value} {t:Addr->TS} {x1 x2 x3:Str} {p1 p2 p3 pt pos:Pos} {nm:Option Str} {body:List Stmt} {ec:Nat}
end
section
variable {X:Cx} {pins:List (Addr × Obj)} {σ:St} {H:Hp} {s:Shared} {a C dx T:Addr}
theorem Lies.note {A:Around} {E:Value->Shared->Prop} {Q:Unit->Shared->Prop} (hst:X.stack=X.env::X.outer) (hfr:X.env.frame=some X.env.locals) (hA:A.frames=some X.stack) (L:Lies X pins σ H s a C dx T) (h:∀ s' T',Lies X pins σ H s' a C dx T'->Q () s') :
  wpAny (model X.prog X.w) A (noteFrame (.ref a) X.env) (fun _ s2=>wpAny (model X.prog X.w) A (setFlight (.ref a) none) Q E s2) E s:=by
 obtain ⟨ne,⟨vs,ga,v1⟩,o,ts,gT,dT,t3⟩:=id L.at_;have n1:=L.inv.Fq ga rfl;have n2:=L.inv.Fq gT dT;have fr:=L.inv.stack;rw [hst] at hA n1 n2 fr;refine Qa (L:=X.env.locals) (base:=X.base) hA fr hfr L.at_ n1.2.2 n2.2.2 fun h' T' bQ k x=>?_;rw [<- hst] at k
 have I1:=L.inv.noted k (fun b hb=>by
  rcases ir.mp hb with rfl | hb
  ·exact L.ha
  ·rw [ik.mp hb]; exact L.hT) (fun b hb=>by
  rcases ir.mp hb with rfl | hb
  ·exact L.oa
  ·rw [ik.mp hb]; exact L.oT)
 refine Ez (s:={ s with heap:=h' }) x fun h2 k2 x2=>h _ T' ⟨I1.noted (h':=h2) (k2.mono (fun _ z=>nomatch z) (fun _ z=>z)) (fun b hb=>by rw [ik.mp hb]; exact L.inv.hok.fresh bQ) (fun b hb=>by rw [ik.mp hb]; exact L.inv.off bQ),x2,L.ha,L.inv.hok.fresh bQ,L.oa,L.inv.off bQ⟩
end
section
variable {X:Cx} {rest:List ExceptHandler} {C C1:Addr} {bm ft:List Value} {t:Addr->TS} {x1 n:Str} {p1 pos:Pos} {gK:Stmt} {eS:List Stmt} {ts:TS} {i:Nat}
end
abbrev TB:=Ends->XK->St->Hp->Prop
section
variable {X:Cx} {body:List Stmt} {h₀:ExceptHandler} {hs:List ExceptHandler} {C:Addr} {tb:TB} {th:Addr->TS} {pos:Pos}
end
end L2
end
section
namespace C
open PySem PySem.Spec PyProof.Rows L2
def agk (K:PySem.W.Frag) (B:Bas) (Cl:Addr) (f:Str) (E:XK) (D:Ends) (ps:List (V × T)):Flow ⊕ T->Sta->Prop
 | .inl fl,aa=>Fin K B D ps fl aa
 | .inr t,aa=>∀ v dx ag H' S' av,Rel K B aa ag H' ((v,t)::ps) S' av->S' dx=some (Fx dx f v)->E (.ref Cl) (some dx) H'
noncomputable def Le (K:PySem.W.Frag) (B:Bas) (Cl:Addr) (f:Str) (E:XK) (s:SX):TS:=fun D σ H=>∃ st ps S as,Rel K B st σ H ps S as/\∃ fl aa,s st=some (fl,aa)/\agk K B Cl f E D ps fl aa
theorem Ext.beside {S H:Hp} {p:Addr} (h:Same S H) (n:H p=none) (o:HO):Ext S H S (upd H p o) :=
 ⟨Same.refl _,Same.upd n o,fun b u q=>by rw [gw (o8 (h _ _ q) n)]; exact h _ _ q,fun _ q=>.inl q⟩
section
variable {K:PySem.W.Frag} {B:Bas} {st:Sta} {σ ag:L2.St} {H S:Hp} {ps:List (V × T)} {as:List Addr}
end
section
variable {X:Cx} {B:Bas} {c:Expr} {pos:Pos} {u v:SX} {Cl:Addr} {f:Str} {E:XK}
theorem uz {st:Stmt} {w:S} (h:PS X st (sOf X.K B w)):PS X st (Le X.K B Cl f E (lx w)):=h.imp fun D σ H z9=>by
 obtain ⟨st,ps,S,as,R,fl,aa,e,q⟩:=z9;unfold lx at e;cases z:w st with
 | none=>rw [z] at e; cases e
 | some p=>obtain ⟨cL,s'⟩:=p; rw [z] at e; cases e; exact ⟨st,ps,S,as,R,cL,_,z,q⟩
theorem Bt {st:List Stmt} {w:S} (h:PSs X st (sOf X.K B w)):PSs X st (Le X.K B Cl f E (lx w)):=fun pins s σ H D I z9=>by
 obtain ⟨st,ps,S,as,R,fl,aa,e,q⟩:=z9;unfold lx at e;cases z:w st with
 | none=>rw [z] at e; cases e
 | some p=>obtain ⟨cL,s'⟩:=p; rw [z] at e; cases e; exact h pins s σ H D I ⟨st,ps,S,as,R,cL,_,z,q⟩
theorem uy {st:Stmt} (h1:PS X st (Le X.K B Cl f E u)):PSs X [st] (Le X.K B Cl f E u):=Sg h1
theorem a6i {st aa:Sta} {fl:Flow ⊕ T} (h:zu u v st=some (fl,aa)):(∃ s1,u st=some (.inl .next,s1)/\v s1=some (fl,aa))\/(u st=some (fl,aa)/\fl≠.inl .next):=by
 unfold zu at h;split at h
 ·rename_i s1 e; exact .inl ⟨s1,e,h⟩
 ·rename_i r hn;refine .inr ⟨h,fun z=>?_⟩;subst z;exact hn _ h
theorem j7 {st:Stmt} {rest:List Stmt} (h1:PS X st (Le X.K B Cl f E u)) (h2:PSs X rest (Le X.K B Cl f E v)):PSs X (st::rest) (Le X.K B Cl f E (zu u v)):=(Uw h1 h2).imp fun D σ H z9=>by
 obtain ⟨st,ps,S,as,R,fl,aa,e,q⟩:=z9;rcases a6i e with ⟨s1,e1,e2⟩ | ⟨e1,hn⟩
 ·exact ⟨st,ps,S,as,R,.inl .next,s1,e1,fun ag H' S' av R'=>⟨s1,ps,S',av,R',fl,aa,e2,q⟩⟩
 ·refine ⟨st,ps,S,as,R,fl,aa,e1,?_⟩;cases fl with
  | inr t=>exact q
  | inl fl =>
   cases fl with
   | next=>exact absurd rfl hn
   | ret t=>exact q
   | brk=>exact q
   | cont=>exact q
theorem Q9 {c1:M Bool} {sa sb:List Stmt} (hc:PT X c (cOf X.K B c1)) (ha:PSs X sa (Le X.K B Cl f E u)) (hb:PSs X sb (Le X.K B Cl f E v)):PS X (.If c sa sb pos) (Le X.K B Cl f E (xIf c1 u v)):=(ady hc ha hb).imp fun D σ H z9=>by
 obtain ⟨st,ps,S,as,R,fl,aa,e,q⟩:=z9;unfold xIf at e;split at e
 ·rename_i s1 e1;exact ⟨st,ps,S,as,R,true,s1,e1,fun H1 S1 af R1=>a1l ⟨s1,ps,S1,af,R1,fl,aa,e,q⟩⟩
 ·rename_i s1 e1;exact ⟨st,ps,S,as,R,false,s1,e1,fun H1 S1 af R1=>Zw ⟨s1,ps,S1,af,R1,fl,aa,e,q⟩⟩
 ·cases e
theorem a4o {D fI:Addr} {p x:Str} {fd:FuncData} {arg:Expr} {m:M T} {np ay:Pos} (W:XW X E) (c:XC X.K Cl D fI f) (F:Du X.prog X.w X.K X.mg X.base CX0 1 fI fd ["self",p] (Ox Cl f)) (hr:Cj 2 X.A) (hb:Binds X.K fd ["self",p] []) (hg:Gl X x) (hm:X.mg x=some (.ref Cl)) (ha:PE X arg (tOf X.K B m))
  (aX:(x==("__debug__" : Str))=false:=by decide) (he:starEach [arg] X.env=[(false,eval arg X.env)]:=by rfl) :
  PS X (.Raise (some (.Call (.Name x np) [arg] [] ay)) none pos) (Le X.K B Cl f E (Km m)):=(a6n W c F hr hb hg hm ha aX he).imp fun D σ H z9=>by
 obtain ⟨st,ps,S,as,R,fl,aa,e,q⟩:=z9;unfold Km at e;split at e
 ·rename_i t s1 e1;cases e;exact ⟨st,ps,S,as,R,t,_,e1,fun v H1 S1 af R1 dx hn=>q v dx σ _ _ af (R1.ext (Ext.laid R1.sub hn _)) dj⟩
 ·cases e
end
def ah1 (K:PySem.W.Frag) (B:Bas) (Cl:Addr) (f:Str) (ae:List SO) (Q:VK) (E:XK):T ⊕ T->Prop
 | .inl t=>∀ v H' S' av,ad3 B S' av H'->Same S' H'->Hq K S' av H' ae->Rep K S' av v t->Q v H'
 | .inr t=>∀ v dx H' S' av,ad3 B S' av H'->Same S' H'->Hq K S' av H' ae->Rep K S' av v t->S' dx=some (Fx dx f v)->E (.ref Cl) (some dx) H'
noncomputable def spX (K:PySem.W.Frag) (ar:Nat) (Cl:Addr) (f:Str) (F:FnX):Sp:=fun vs H Q E=>∃ S as sto ts r ae,Same S H/\Hq K S as H sto/\qb K S as vs ts/\ts.length=ar/\F ts sto=some (r,ae)/\ah1 K ⟨S,as,H⟩ Cl f ae Q E r
section
variable {P:Program} {w:World} {K:PySem.W.Frag} {mg:Str->Option Value} {base:Heap}
theorem Vx {x qual:Str} {st:Stmt} {a Cl:Addr} {f:Str} {fd:FuncData} {N ps:List Str} {k:Nat} {b:SX} (F:Fun K x qual st a fd) (Sc:Bx N ps (j5 st)) (hN:ps.length<=N.length)
  (hb:∀ (aC:Value) (A:Around) (outer:List Env) (s:Shared) (H:Hp) (E:XK) (B:Bas),Cj k (A.deeper (envOfC qual (j5 st) s.heap.objs.size a aC)) ->
   PSs (Qc (CXx P w) P w K mg base N qual (j5 st) a aC A outer s H E) (xu st) (Le K B Cl f E b)):Du P w K mg base (CXx P w) (k+1) a fd ps (spX K ps.length Cl f (uw N.length b)):=by
 obtain ⟨oc,od,kV,doc,pm,an,aC,ct,bI,rfl,lk,bz⟩:=F.ex;refine abh lk bz Sc (fun vs H Q E ⟨S,as,sto,ts,t,ae,h1,h2,h3,h4,_⟩=>by rw [h3.length,h4]) fun A outer s H vs Q E hr h=>?_;obtain ⟨S,as,sto,ts,r,ae,h1,h2,h3,h4,h5,q⟩:=h;refine ⟨_,hb aC A outer s H E ⟨S,as,H⟩ hr,?_⟩;have R:Rel K ⟨S,as,H⟩ ⟨ts.map (fun t=>some (t,false))++List.replicate (N.length - ts.length) none,sto⟩ (L2.start N vs) H [] S as:=Qw h1 h2 h3 (by rw [h4]; exact hN);unfold uw at h5;split at h5
 ·rename_i t' s' e;cases h5;exact ⟨_,[],S,as,R,.inl (.ret _),s',e,fun v ag H' S' av R'=>q v H' S' av R'.grow R'.sub R'.sto R'.top⟩
 ·rename_i s' e;cases h5;exact ⟨_,[],S,as,R,.inl .next,s',e,fun ag H' S' av R'=>q .non H' S' av R'.grow R'.sub R'.sto .non⟩
 ·rename_i t' s' e;cases h5;exact ⟨_,[],S,as,R,.inr _,s',e,fun v dx ag H' S' av R' hd=>q v dx H' S' av R'.grow R'.sub R'.sto R'.top hd⟩
 ·cases h5
theorem aa2 {a Cl:Addr} {f:Str} {fd:FuncData} {ps:List Str} {k:Nat} {F:FnX} (G:Du P w K mg base (CXx P w) k a fd ps (spX K ps.length Cl f F)):Du P w K mg base CX0 k a fd ps (spF K ps.length (norm F)):=by
 refine ⟨fun vs H Q E ⟨S,as,sto,ts,t,ae,h1,h2,h3,h4,_⟩=>by rw [h3.length,h4],fun A outer s H args us vs Q E hr he hb hv h=>?_⟩;obtain ⟨S,as,sto,ts,t,ae,h1,h2,h3,h4,h5,q⟩:=h;unfold norm at h5;split at h5
 ·rename_i t1 s1 e;cases h5;refine kK (G.run A outer s H args us vs Q (fun _ _ _=>False) hr he hb hv ⟨S,as,sto,ts,.inl _,_,h1,h2,h3,h4,e,q⟩) fun r s' hq=>?_;cases r with
  | ok fl=>cases fl <;> exact hq
  | error e =>
   obtain ⟨_,_,_,_,_,_,_,_,_,_,_,_,_,_,_,z⟩:=hq;exact z
 ·cases h5
end
section
variable {X:Cx} {B:Bas} {e:Expr} {es:List Expr} {ms:M (List T)} {pos p q1 q2 aM:Pos} {k:Nat} {a Cl:Addr} {f x:Str} {fd:FuncData} {pn:List Str} {F:FnX} {h₀:ExceptHandler} {hs:List ExceptHandler} {th:Addr->TS} {i j:Nat} {hv:T->Option T}
end
end C
end
section
namespace L2
open PySem PySem.Spec PyProof.Rows
structure XG (K:PySem.W.Frag) (C:Addr) (f:Str):Prop where
 ga:PySem.W.findIn K (.ref C) "__getattribute__" = some (some (.builtin "BaseException.__getattribute__"))
 gt:PySem.W.findIn K (.ref C) "__getattr__" = some none
 bx:PySem.W.mroIn K C (.type "BaseException")=some true
 dc:PySem.W.hasDictIn K C=true
 na:PySem.W.findIn K (.ref C) f=some none
 cl:PySem.W.findIn K (.ref C) "__class__" = some (some (.builtin "object.__class__"))
 cg:PySem.W.specialIn K (.builtin "object.__class__") "__get__" = some (some (.builtin "getset_descriptor.__get__"))
 ct:PySem.W.takesIn K (.builtin "object.__class__")=some true
 ob:PySem.W.mroIn K C (.type "object")=some true
 ve:PySem.W.kitOne K (.ref C) (.type "ValueError")=some true
section
variable {X:Cx} {e:Expr} {C:Addr} {f:Str} {i:Nat} {pos p:Pos}
end
end L2
namespace C
open PySem PySem.Spec PyProof.Rows L2
section
variable {K:PySem.W.Frag} {B:Bas} {f:Str} {i j:Nat} {hv:T->Option T} {th:Addr->TS} {Cl:Addr} {te:TE}
end
structure XR (P:Program) (w:World) (K:PySem.W.Frag) (mg:Str->Option Value) (base:Heap) (x:Str) (Cl:Addr) (f p:Str):Prop where
 ex:∃ D fI fd,XC K Cl D fI f/\Du P w K mg base CX0 1 fI fd ["self",p] (Ox Cl f)/\Binds K fd ["self",p] []
 m:mg x=some (.ref Cl)
def Av (P:Program) (w:World) (K:PySem.W.Frag) (mg:Str->Option Value) (base:Heap) (x:Str) (n:Nat) (ps:List Str) (Cl:Addr) (f:Str) (F:FnX):Prop :=
 ∃ (a:Addr) (fd:FuncData),Du P w K mg base (CXx P w) n a fd ps (spX K ps.length Cl f F)/\Binds K fd ps []/\PySem.W.keepIn K (.ref a)=true/\mg x=some (.ref a)
theorem Av.norm {P:Program} {w:World} {K:PySem.W.Frag} {mg:Str->Option Value} {base:Heap} {x:Str} {n:Nat} {ps:List Str} {Cl:Addr} {f:Str} {F:FnX} (D:Av P w K mg base x n ps Cl f F):qd P w K mg base x n ps (C.norm F) :=
 let ⟨a,fd,h1,h2,h3,h4⟩:=D; ⟨a,fd,aa2 h1,h2,h3,h4⟩
def agt (K:PySem.W.Frag) (mg:Str->Option Value) (x:Str) (Cl:Addr) (bm:List Value):Prop:=XCl K Cl bm/\mg x=some (.ref Cl)
section
variable {X:Cx} {B:Bas} {e:Expr} {es:List Expr} {ms:M (List T)} {pos p q1 q2 aM:Pos} {k:Nat} {Cl:Addr} {f x:Str} {pn:List Str} {F:FnX} {h₀:ExceptHandler} {hs:List ExceptHandler} {th:Addr->TS} {i j:Nat} {hv:T->Option T}
theorem Oo {E:XK} {pr:Str} {arg:Expr} {m:M T} {np ay:Pos} (R:XR X.prog X.w X.K X.mg X.base x Cl f pr) (W:XW X E) (hr:Cj 2 X.A) (hg:Gl X x) (ha:PE X arg (tOf X.K B m))
  (aX:(x==("__debug__" : Str))=false:=by decide) (he:starEach [arg] X.env=[(false,eval arg X.env)]:=by rfl) :
  PS X (.Raise (some (.Call (.Name x np) [arg] [] ay)) none pos) (Le X.K B Cl f E (Km m)):=by
 obtain ⟨⟨D,fI,fd,h1,h2,h3⟩,m⟩:=R;exact a4o W h1 h2 hr h3 hg m ha aX he
end
end C
end
section
namespace C
open PySem
noncomputable def qg:Nat->M Bool->SX->SX
 | 0,_,_=>fun _=>none
 | n+1,c,b=>fun s=>match c s with
  | some (false,s1)=>some (.inl .next,s1)
  | some (true,s1)=>match b s1 with
   | some (.inl .next,s2)=>qg n c b s2
   | some (.inl .cont,s2)=>qg n c b s2
   | some (.inl .brk,s2)=>some (.inl .next,s2)
   | some (.inl (.ret v),s2)=>some (.inl (.ret v),s2)
   | some (.inr v,s2)=>some (.inr v,s2)
   | none=>none
  | none=>none
end C
end
section
namespace L2
open PySem PySem.Spec PyProof.Rows
section
variable {P:Program} {w:World} {K:PySem.W.Frag} {mg:Str->Option Value} {base:Heap} {N:List Str} {qual:Str} {scope:Scope} {f:Addr} {cd:Value} {A:Around} {outer:List Env} {s₀:Shared} {H₀:Hp} {E:XK}
theorem m9:Passes (CXx P w) (Qc (CXx P w) P w K mg base N qual scope f cd A outer s₀ H₀ E) E:=by
 intro pins σ H s e s' I h;have I0:=I.Fy (pins':=[]) (fun p hp=>nomatch hp);obtain ⟨a,C,dx,T,H',rfl,L,hE⟩:=XP.lies (X:=Qc (CXx P w) P w K mg base N qual scope f cd A outer s₀ H₀ E) ⟨H,s,I0,h⟩;show wpAny _ _ (leaving _ _) _ _ _;unfold leaving;refine hJ (L.note rfl rfl L.inv.ok.frames fun s2 T' L2=>?_);have za:s₀.heap.objs.size<=a:=L2.oa.1.elim (fun z=>nomatch z) id;have zT:s₀.heap.objs.size<=T':=L2.oT.1.elim (fun z=>nomatch z) id;exact ⟨a,C,dx,T',H',rfl,za,zT,L2.at_,L2.ha,L2.hT,L2.inv.os,L2.inv.bare,L2.inv.base,L2.inv.hok,hE⟩
end
end L2
namespace C
open PySem PySem.Spec PyProof.Rows L2
section
variable {X:Cx} {B:Bas} {c e:Expr} {es:List Expr} {ms:M (List T)} {pos p q1 aM:Pos} {u:SX} {Cl a:Addr} {f x y:Str} {E:XK} {fd:FuncData} {pn:List Str} {F:FnX} {k i:Nat}
theorem Wo {n:Nat} {mc:M Bool} {b:SX} {s s':Sta} {fl:Flow ⊕ T} (h:qg (n+1) mc b s=some (fl,s')):(∃ s1,mc s=some (false,s1)/\fl=.inl .next/\s'=s1) \/
  ∃ s1 fb s2,mc s=some (true,s1)/\b s1=some (fb,s2)/\(match fb with | .inl .next=>qg n mc b s2=some (fl,s') | .inl .cont=>qg n mc b s2=some (fl,s') | .inl .brk=>fl=.inl .next/\s'=s2 | .inl (.ret v)=>fl=.inl (.ret v)/\s'=s2 | .inr v=>fl=.inr v/\s'=s2):=by
 rw [qg] at h;dsimp only at h;split at h
 ·rename_i s1 e1; cases h; exact .inl ⟨_,e1,rfl,rfl⟩
 ·rename_i s1 e1;split at h
  ·rename_i s2 e2; exact .inr ⟨s1,.inl .next,s2,e1,e2,h⟩
  ·rename_i s2 e2; exact .inr ⟨s1,.inl .cont,s2,e1,e2,h⟩
  ·rename_i s2 e2; cases h; exact .inr ⟨s1,.inl .brk,_,e1,e2,rfl,rfl⟩
  ·rename_i v s2 e2; cases h; exact .inr ⟨s1,.inl (.ret v),_,e1,e2,rfl,rfl⟩
  ·rename_i v s2 e2; cases h; exact .inr ⟨s1,.inr v,_,e1,e2,rfl,rfl⟩
  ·cases h
 ·cases h
theorem Wk (n:Nat) {mc:M Bool} {body:List Stmt} (hp:PassesOwn (model X.prog X.w) X.A X.env X.xe) (hc:PT X c (cOf X.K B mc)) (hb:PSs X body (Le X.K B Cl f E u)):PS X (.While c body [] pos) (Le X.K B Cl f E (qg n mc u)):=(Wb hp hc hb).imp fun D σ H z9=>by
 obtain ⟨st,ps,S,as,R,fl,aa,e,q⟩:=z9;refine ⟨fun k σ H=>∃ aG Si aE,Rel X.K B aG σ H ps Si aE/\qg k mc u aG=some (fl,aa),⟨n,st,S,as,R,e⟩,?_⟩;rintro k bG H2 ⟨aG,Si,aE,Ri,ei⟩;cases k with
 | zero=>rw [qg] at ei; cases ei
 | succ k =>
  rcases Wo ei with ⟨s1,e1,rfl,rfl⟩ | ⟨s1,fb,s2,e1,e2,er⟩
  ·exact ⟨aG,ps,Si,aE,Ri,false,_,e1,fun H3 S3 aK R3=>Zw (q bG H3 S3 aK R3)⟩
  ·refine ⟨aG,ps,Si,aE,Ri,true,s1,e1,fun H3 S3 aK R3=>a1l ⟨fun ag H'=>∃ aG Si aE,Rel X.K B aG ag H' ps Si aE/\qg k mc u aG=some (fl,aa),fun ag H' h=>⟨k,jZ _,h⟩,s1,ps,S3,aK,R3,fb,s2,e2,?_⟩⟩;cases fb with
   | inr v =>
    obtain ⟨rfl,rfl⟩:=er;exact fun w dx ag H' S' av R' hd=>q w dx ag H' S' av R' hd
   | inl fb =>
    cases fb with
    | next=>exact fun ag H' S' av R'=>⟨s2,S',av,R',er⟩
    | cont=>exact fun ag H' S' av R'=>⟨s2,S',av,R',er⟩
    | brk =>
     obtain ⟨rfl,rfl⟩:=er;exact fun ag H' S' av R'=>q ag H' S' av R'
    | ret v =>
     obtain ⟨rfl,rfl⟩:=er;exact fun v ag H' S' av R'=>q v ag H' S' av R'
end
end C
end
section
namespace L2
open PySem PySem.Spec PyProof.Rows
section
variable {X:Cx} {pins:List (Addr × Obj)} {σ:St} {H:Hp} {s:Shared} {e:Addr}
end
section
variable {X:Cx} {C D fI:Addr} {f p x:Str} {fd:FuncData} {arg:Expr} {te:TE} {np ay pos:Pos}
end
section
variable {X:Cx} {e:Expr} {C:Addr} {f:Str} {te:TE} {pos p:Pos}
end
end L2
namespace C
open PySem PySem.Spec PyProof.Rows L2
section
variable {X:Cx} {B:Bas} {Cl D fI:Addr} {f p x:Str} {fd:FuncData} {arg:Expr} {m:M T} {np ay pos:Pos}
end
section
variable {K:PySem.W.Frag} {B:Bas} {f:Str} {i j:Nat} {th:Addr->TS} {Cl:Addr}
end
section
variable {X:Cx} {B:Bas} {e:Expr} {es:List Expr} {ms:M (List T)} {pos p q1 q2 aM:Pos} {k:Nat} {a Cl:Addr} {f x:Str} {fd:FuncData} {pn:List Str} {F:FnX} {h₀:ExceptHandler} {hs:List ExceptHandler} {th:Addr->TS} {i j:Nat}
end
end C
end
section
namespace C
open PySem
noncomputable def Fw (i:Nat) (m:M T):M T:=fun s=>if Az i s then (match m s with
 | some (.lst ys,s1)=>match s1.env[i]? with
  | some (some (.lst xs,_))=>if xs.length+ys.length<lim then some (.lst (xs++ys),s1) else none
  | _=>none
 | _=>none) else none
noncomputable def Ir (i:Nat) (lo hi:M (Option Int)):M T:=fun s=>if Az i s then (match lo s with
 | some (l,s1)=>match hi s1 with
  | some (h,s2)=>match s2.env[i]? with
   | some (some (.lst xs,_))=>some (.lst (Od xs l h),s2)
   | _=>none
  | none=>none
 | none=>none) else none
noncomputable def yp:T->T->Option T
 | .str sep,.lst ts=>match Ug ts with
  | some l=>if (l.map (·.length)).sum+l.length * sep.length<lim then some (.str (Str.join sep l)) else none
  | none=>none
 | _,_=>none
noncomputable def afu (k:List Key):List (List Key × T)->Option T
 | []=>none
 | (q,t)::r=>if q=k then some t else afu k r
end C
end
section
namespace C
open PySem PySem.W PyProof.Rows
def aea (lo hi:Option Int):T->Option T
 | .tup xs=>some (.tup (Od xs lo hi))
 | _=>none
noncomputable def yr (m:M T) (lo hi:M (Option Int)):M T:=fun s=>match m s with
 | some (t,s1)=>match lo s1 with
  | some (l,s2)=>match hi s2 with
   | some (h,s3)=>match aea l h t with
    | some u=>some (u,s3)
    | none=>none
   | none=>none
  | none=>none
 | none=>none
end C
end
section
namespace C
open PySem
end C
end
section
namespace C
open PySem PySem.Spec PyProof.Rows L2
section
variable {K:PySem.W.Frag} {S S':Hp} {as:List Addr}
end
section
variable {X:Cx} {scope:Scope} {N:List Str} {B:Bas} {nv:Nat} {aw:List Nat} {g:G} {c:M Bool} {e:M T} {tg iter elt:Expr} {ifs:List Expr} {pos:Pos} {i:Nat}
end
section
end
section
variable {K:PySem.W.Frag} {B:Bas} {st:Sta} {σ:L2.St} {H S:Hp} {ps:List (V × T)} {as:List Addr}
end
section
variable {X:Cx} {B:Bas} {a b c e o k d:Expr} {m mo mk md mv:M T} {pos p:Pos}
end
section
variable {K:PySem.W.Frag} {S:Hp} {as:List Addr}
end
section
variable {X:Cx} {B:Bas} {a b e:Expr} {m m2:M T} {pos p1:Pos} {es:List Expr} {ms:M (List T)}
theorem Rel.base {K:PySem.W.Frag} {B:Bas} {st:Sta} {σ:L2.St} {H S:Hp} {ps:List (V × T)} {as:List Addr} (r:Rel K B st σ H ps S as):Rel K ⟨S,as,B.H⟩ st σ H ps S as :=
 ⟨r.sub,⟨Same.refl _,nol,fun p o h1 h2 h3=>by
  change S p=none at h2
  have b2:B.S p=none:=by
   cases q:B.S p with
   | none=>rfl
   | some u=>have:=r.grow.same _ _ q; rw [h2] at this; cases this
  have b3:p∉B.as:=fun q=>by obtain ⟨l,e⟩:=r.grow.more; exact h3 (by show p∈as; rw [e]; exact kq _ q)
  exact ⟨(r.grow.keep p o h1 b2 b3).1,h2,h3⟩⟩,fun i t f e=>by
   obtain ⟨v,h1,h2,h3⟩:=r.slots i t f e;exact ⟨v,h1,h2,fun q=>by obtain ⟨p,ep,o⟩:=h3 q; exact ⟨p,ep,o.own,o.out,o.nas,o.new⟩⟩,r.apart,r.sto,r.pend,r.len⟩
end
end C
end
section
namespace C
open PySem L2
section
variable {K:PySem.W.Frag} {S S':Hp} {as:List Addr}
end
section
variable {X:Cx} {B:Bas} {e:Expr}
end
section
variable {X:Cx} {B:Bas} {e:Expr}
end
end C
end
section
namespace C
open PySem PySem.Spec PyProof.Rows L2
section
variable {X:Cx} {B:Bas} {a b c e o k d:Expr} {m mo mk md mv:M T} {pos p:Pos}
theorem qb.erase {K:PySem.W.Frag} {S:Hp} {as:List Addr}:∀ {vs:List V} {ts:List T} (n:Nat),qb K S as vs ts->qb K S as (vs.eraseIdx n) (ts.eraseIdx n)
 | _,_,_,.nil=>.nil
 | _,_,0,.cons _ r=>r
 | _,_,n+1,.cons h r=>.cons h (qb.erase n r)
end
section
variable {X:Cx} {B:Bas} {m gU gW:M T}
end
section
variable {K:PySem.W.Frag} {S:Hp} {as:List Addr}
end
section
variable {X:Cx} {pins:List (Addr × Obj)} {σ:L2.St} {H:Hp} {s:Shared} {a b:Addr} {u:Value} {v:V} {A:Around} {E:Value->Shared->Prop}
end
section
variable {X:Cx} {B:Bas} {o k e:Expr} {es:List Expr} {mo mk mv:M T} {ms:M (List T)} {td ty:TE} {i:Expr} {pos pos' p2:Pos} {j:Nat}
end
section
variable {X:Cx} {B:Bas} {a b c e:Expr} {m:M T} {pos p:Pos} {u v:S}
end
end C
end
section
namespace HT
open PySem PyProof.Rows
section
variable {prog:Program} {w:World} {A:Around} {E:Value->Shared->Prop} {s:Shared}
theorem G5 {t sl:Addr} {items:Array Value} {vl vu:Value} {lo hi:Option Int} {Q:Value->Shared->Prop} (ht:IsTup s.heap t items) (hs:s.heap.IsSliceOf sl vl vu .none) (pl:IsPart vl lo) (pu:IsPart vu hi)
  (hw:sIx items.size 0 lo=0/\sIx items.size items.size hi=items.size) (h:Q (.ref t) s):wpAny (model prog w) A (getItem (.ref t) (.ref sl)) Q E s:=by
 obtain ⟨os,cb,hcs,hds⟩:=id hs;have eM:s.TypeIs (.ref sl) "slice" := ⟨os,cb,hcs⟩;unfold getItem
 try with_reducible refine ku ?_
 first | refine hJ (ia ?_) | skip
 refine hJ (mE ht.typeIs (by decide) ?_)
 refine hJ (kA (name:=Str.ofString "__getitem__") ht.typeIs kL
  (kB kL ht.typeIs entry_tuple_getitem ?_ (args_tuple_getitem _ _)))
 show wpAny _ _ (Builtin.Tuple.tupleItemsOf (.ref t) >>= _) _ _ s;refine hJ (tupleItemsOf_ ht ?_);refine hJ (lK eM ?_);rw [hU (by decide)];refine hJ (Dt hs pl pu ?_)
 have dU:(((sIx items.size 0 lo:Nat):Int)==0&&(1:Int)==1&&(sIx items.size items.size hi - sIx items.size 0 lo)==items.size)=true:=by
  rw [hw.1,hw.2]; simp
 show wpAny _ _ (if (((sIx items.size 0 lo:Nat):Int)==0&&(1:Int)==1&&(sIx items.size items.size hi - sIx items.size 0 lo)==items.size)=true then _ else _) _ _ s;rw [hU dU];refine hJ (hJ (lK ht.typeIs (ia ?_)));rw [hU (by decide)];exact hJ (wpAny_rule (hJ (ia (ia ⟨_,rfl,ia h⟩))))
end
end HT
namespace C
open PySem PySem.Spec PyProof.Rows L2
section
variable {X:Cx} {B:Bas} {a:Expr} {m:M T} {ml mh:M (Option Int)} {lo hi:Option Expr} {pos p2:Pos}
def ah9 (K:PySem.W.Frag):V->Option Int->Option Int->Hp->VK->Prop:=fun x lo hi H Q=>∃ a xs,x=.ref a/\SqT K H a xs /\
 (HT.sIx xs.length 0 lo=0/\HT.sIx xs.length xs.length hi=xs.length)/\Q x H
theorem aar:SlR X (ah9 X.K):=by
 intro pins s σ H x v vl vu lo hi sl Q I rx hs pl pu h;obtain ⟨a,xs,rfl,hx,hw,q⟩:=h;cases rx;obtain ⟨its,r,ht,hz⟩:=I.tuple hx;have hlen:its.toArray.size=xs.length:=by rw [iB]; exact r.length.symm
 refine ⟨"tuple",_,PyProof.Rows.slot_tuple_getitem.lookup,ht.typeIs,?_⟩;exact HT.G5 ht hs pl pu (by rw [hlen]; exact hw) ⟨.ref a,H,I,rfl,q⟩
theorem Um {s s':Sta} {v:T} (h:yr m ml mh s=some (v,s')):∃ t s1 l s2 u,m s=some (t,s1)/\ml s1=some (l,s2)/\mh s2=some (u,s')/\aea l u t=some v:=by
 unfold yr at h;split at h
 ·rename_i t s1 e1;split at h
  ·rename_i l s2 e2;split at h
   ·rename_i u s3 e3;split at h
    ·rename_i w e4; cases h; exact ⟨t,s1,l,s2,u,e1,e2,e3,e4⟩
    ·cases h
   ·cases h
  ·cases h
 ·cases h
theorem Jl (ha:PE X a (tOf X.K B m)) (hl:PO X lo (oOf X.K B ml)) (hh:PO X hi (oOf X.K B mh)):PE X (.Subscript a (.Slice lo hi none p2) pos) (tOf X.K B (yr m ml mh)) :=
 (Je (a7q.or aar) ha hl hh).imp fun σ H Q z9=>by
  obtain ⟨st,ps,S,as,R,t,aa,e,q⟩:=z9;obtain ⟨t1,s1,l,s2,u,e1,e2,e3,e4⟩:=Um e;refine ⟨st,ps,S,as,R,t1,s1,e1,fun v H1 S1 af R1=>⟨s1,_,S1,af,R1,l,s2,e2,fun H2 S2 aB R2=>⟨s2,_,S2,aB,R2,u,aa,e3,fun H3 S3 aK R3=>?_⟩⟩⟩;have top:=R3.top;cases top with
  | @tup b vs ts g1 g2 =>
   simp only [aea] at e4;cases e4
   by_cases hw:HT.sIx vs.length 0 l=0/\HT.sIx vs.length vs.length u=vs.length
   ·refine .inr ⟨b,vs,rfl,m6 R3.sub g1,hw,?_⟩
    have ec:Od ts l u=ts:=by
     unfold Od;rw [Uv,Uv,<- g2.length,hw.1,hw.2,kP,lX,g2.length,lS]
    exact q _ _ _ _ (R3.drop.push (by rw [ec]; exact R3.top))
   ·refine .inl ⟨b,vs,rfl,m6 R3.sub g1,hw,fun p hp=>?_⟩;have x:=Ext.laid R3.sub hp (.tup (Zn vs l u));exact q _ _ _ _ ((R3.drop.ext x).push (.tup (SqT.of dj) ((Nk g2 l u).mono x.s nol)))
  | _=>simp only [aea,reduceCtorEq] at e4
end
end C
end
section
namespace C
open PySem PySem.Spec
section
variable {prog:Program} {w:World} {A:Around} {E:Value->Shared->Prop} {s:Shared} {it l:Addr} {xs:Array Value}
end
end C
end
section
namespace C
open PySem PySem.Spec PyProof.Rows L2
section
variable {X:Cx} {B:Bas} {a b e e1 e2:Expr} {m m1 m2:M T} {pos p1 p2 p3 p4:Pos} {lo hi:Option Expr} {ml mh:M (Option Int)}
theorem Sx {i:Nat} {s s':Sta} {t:T} (h:Fw i m s=some (t,s')):Az i s=true/\∃ xs f ys,m s=some (.lst ys,s')/\s'.env[i]? = some (some (.lst xs,f))/\xs.length+ys.length<lim/\t=.lst (xs++ys):=by
 unfold Fw at h;split at h
 ·rename_i hd;refine ⟨hd,?_⟩;split at h
  ·rename_i ys s1 e1;split at h
   ·rename_i xs f e2;split at h
    ·rename_i hl;cases h;exact ⟨xs,f,ys,e1,e2,hl,rfl⟩
    ·cases h
   ·cases h
  ·cases h
 ·cases h
theorem Zr (i:Nat) (hi:PE X a (Y8 i)) (hb:PE X b (tOf X.K B m)):PE X (.BinOp a .Add b pos) (fOf X.K B (Fw i m)):=(a8i Ys hi hb).imp fun σ H Q z9=>by
 obtain ⟨st,ps,S,as,R,t,aa,ev,q⟩:=z9;obtain ⟨hd,xs,f,ys,e1,e2,hl,rfl⟩:=Sx ev;obtain ⟨bb,f0,e0⟩:=En hd;obtain ⟨p0,vs0,s0,_⟩:=R.listAt e0;refine ⟨_,s0,st,ps,S,as,R,.lst ys,aa,e1,fun u H2 S2 aB R2=>?_⟩;have tp:=R2.top;cases tp with
 | @lst c vs ts g1 g2 =>
  obtain ⟨q1,vs1,s1,rd1,h4⟩:=R2.listAt e2;rw [s0] at s1; cases s1;refine ⟨p0,c,vs1,vs,rfl,rfl,rd1,jw R2.sub g1,?_,fun l eT=>?_⟩
  ·rw [h4.length,g2.length]; exact ip (iK hl) lg
  ·obtain ⟨bD,sD,nD,no⟩:=R2.fresh eT;exact q l _ S2 aB (R2.drop.ae3 bD sD nD (fun j w e1 e2=>no j w e1 e2)) ⟨⟨vs1++vs,dj,h4.append g2⟩,sD,nD,bD⟩ (fun j w e1 e2=>no j w e1 e2)
theorem Xd {i:Nat} {s s':Sta} {t:T} (h:Ir i ml mh s=some (t,s')):Az i s=true/\∃ l s1 u xs f,ml s=some (l,s1)/\mh s1=some (u,s')/\s'.env[i]? = some (some (.lst xs,f))/\t=.lst (Od xs l u):=by
 unfold Ir at h;split at h
 ·rename_i hd;refine ⟨hd,?_⟩;split at h
  ·rename_i l s1 e1;split at h
   ·rename_i u s2 e2;split at h
    ·rename_i xs f e3;cases h;exact ⟨l,s1,u,xs,f,e1,e2,e3,rfl⟩
    ·cases h
   ·cases h
  ·cases h
 ·cases h
theorem a4i (i:Nat) (ha:PE X a (Y8 i)) (hl:PO X lo (oOf X.K B ml)) (hh:PO X hi (oOf X.K B mh)):PE X (.Subscript a (.Slice lo hi none p2) pos) (tOf X.K B (Ir i ml mh)) :=
 (Je (Z5.or a7q) ha hl hh).imp fun σ H Q z9=>by
  obtain ⟨st,ps,S,as,R,t,aa,ev,q⟩:=z9;obtain ⟨hd,l,s1,u,xs,f,e1,e2,e3,rfl⟩:=Xd ev;obtain ⟨bb,f0,e0⟩:=En hd;obtain ⟨p0,vs0,s0,_⟩:=R.listAt e0;refine ⟨_,s0,st,_,S,as,R,l,s1,e1,fun H2 S2 aB R2=>⟨s1,_,S2,aB,R2,u,aa,e2,fun H3 S3 aK R3=>?_⟩⟩;obtain ⟨q1,vs1,s1',rd1,h4⟩:=R3.listAt e3;rw [s0] at s1'; cases s1';refine .inl ⟨p0,vs1,rfl,rd1,fun p hp=>?_⟩;have x:=Ext.laid R3.sub hp (.lst (Zn vs1 l u));exact q _ _ _ _ ((R3.ext x).push (.lst (SqL.of dj) ((Nk h4 l u).mono x.s nol)))
end
section
variable {X:Cx} {B:Bas} {a:Expr} {m:M T} {pos p:Pos} {elts:List Expr} {x1:Nat} {aM:Pos}
end
end C
end
section
namespace C
open PySem L2
section
variable {X:Cx} {B:Bas} {a b tg:Expr} {m1 m2:M T} {pos p:Pos}
end
end C
end
section
namespace C
open PySem
noncomputable def a4w (f:Str) (t:T):List (Str × T)->List (Str × T)
 | []=>[(f,t)]
 | (k,x)::r=>if k=f then (k,t)::r else (k,x)::a4w f t r
noncomputable def Ue (C:Nat) (n:Nat) (sto:List SO):Option (List (Str × T)):=match sto[n]? with
 | some (.ins D fs)=>if D=C then some fs else none
 | _=>none
noncomputable def Lf (C:Nat) (f:Str) (o:M T):M T:=fun s=>match o s with
 | some (.obj n,s1)=>match Ue C n s1.sto with
  | some fs=>match fs.lookup f with
   | some t=>some (t,s1)
   | none=>none
  | none=>none
 | _=>none
noncomputable def Bh (C:Nat) (f:Str) (o v:M T):S:=fun s=>match v s with
 | some (t,s1)=>match o s1 with
  | some (.obj n,s2)=>match Ue C n s2.sto with
   | some fs=>if fs.length<100 then some (.next,{ s2 with sto:=s2.sto.set n (.ins C (a4w f t fs)) }) else none
   | none=>none
  | _=>none
 | none=>none
noncomputable def Uj (C:Nat) (F:Fn) (a:M (List T)):M T:=fun s=>match a s with
 | some (ts,s1)=>match F (.obj s1.sto.length::ts) (s1.sto++[.ins C []]) with
  | some (.non,sto)=>some (.obj s1.sto.length,{ s1 with sto:=sto })
  | _=>none
 | none=>none
noncomputable def a9o (n:Nat) (g:G) (c:M Bool) (e:M T):Nat->Nat->Sta->List T->Option (List T × Sta)
 | 0,_,_,_=>none
 | k+1,i,s,acc=>match s.sto[n]? with
  | some (.lst xs)=>match xs[i]? with
   | none=>some (acc,s)
   | some t=>match g t s with
    | some s1=>match c s1 with
     | some (true,s2)=>match e s2 with
      | some (u,s3)=>if acc.length<lim then a9o n g c e k (i+1) (jt s3) (acc++[u]) else none
      | none=>none
     | some (false,s2)=>a9o n g c e k (i+1) (jt s2) acc
     | none=>none
    | none=>none
  | _=>none
end C
namespace C
open PySem
end C
end
section
namespace C
open PySem PySem.Spec PyProof.Rows L2
theorem Hf {Cl n:Nat} {sto:List SO} {fs:List (Str × T)} (h:Ue Cl n sto=some fs):sto[n]? = some (.ins Cl fs):=by
 unfold Ue at h;split at h
 ·rename_i D cY e
  by_cases z:D=Cl
  ·rw [hU z] at h; cases h; rw [<- z]; exact e
  ·rw [hV z] at h; cases h
 ·cases h
theorem a65 {Cl:Nat} {f:Str} {o:M T} {s s':Sta} {t:T} (h:Lf Cl f o s=some (t,s')):∃ n fs,o s=some (.obj n,s')/\s'.sto[n]? = some (.ins Cl fs)/\fs.lookup f=some t:=by
 unfold Lf at h;split at h
 ·rename_i n s1 e1;split at h
  ·rename_i fs e2;split at h
   ·rename_i t' e3;cases h; exact ⟨n,fs,e1,Hf e2,e3⟩
   ·cases h
  ·cases h
 ·cases h
theorem Tv {Cl:Nat} {f:Str} {o v:M T} {s s':Sta} {fl:Flow} (h:Bh Cl f o v s=some (fl,s')):∃ t s1 n s2 fs,v s=some (t,s1)/\o s1=some (.obj n,s2)/\s2.sto[n]? = some (.ins Cl fs)/\fs.length<100/\fl=.next/\s' = { s2 with sto:=s2.sto.set n (.ins Cl (a4w f t fs)) }:=by
 unfold Bh at h;split at h
 ·rename_i t s1 e1;split at h
  ·rename_i n s2 e2;split at h
   ·rename_i fs e3;obtain ⟨hl,h⟩:=Bw h;cases h; exact ⟨t,s1,n,s2,fs,e1,e2,Hf e3,hl,rfl,rfl⟩
   ·cases h
  ·cases h
 ·cases h
theorem a0y {Cl:Nat} {F:Fn} {a:M (List T)} {s s':Sta} {t:T} (h:Uj Cl F a s=some (t,s')):∃ ts s1 sto,a s=some (ts,s1)/\F (.obj s1.sto.length::ts) (s1.sto++[.ins Cl []])=some (.non,sto)/\t=.obj s1.sto.length/\s' = { s1 with sto:=sto }:=by
 unfold Uj at h;split at h
 ·rename_i ts s1 e1;split at h
  ·rename_i sto e2;cases h; exact ⟨ts,s1,sto,e1,e2,rfl,rfl⟩
  ·cases h
 ·cases h
section
variable {K:PySem.W.Frag} {S:Hp} {as:List Addr}
theorem Vn.get {f:Str} {vs:List (Str × V)} {ts:List (Str × T)} (h:Vn K S as vs ts):(∀ t,ts.lookup f=some t->∃ v,vs.lookup f=some v/\Rep K S as v t)/\(ts.lookup f=none->vs.lookup f=none):=by
 induction h with
 | nil=>exact ⟨fun t z=>(by cases z),fun _=>rfl⟩
 | @cons k v t vs ts r _ ih =>
  rw [kZ,kZ];cases hk:f==k with
  | true=>exact ⟨fun u z=>(by cases z; exact ⟨v,rfl,r⟩),fun z=>(by cases z)⟩
  | false=>exact ih
theorem Vn.length {vs:List (Str × V)} {ts:List (Str × T)} (h:Vn K S as vs ts):vs.length=ts.length:=by
 induction h with
 | nil=>rfl
 | cons _ _ ih=>exact iX (· + 1) ih
theorem Vn.put {f:Str} {v:V} {t:T} (r:Rep K S as v t) {vs:List (Str × V)} {ts:List (Str × T)} (h:Vn K S as vs ts):Vn K S as (Nr f v vs) (a4w f t ts):=by
 induction h with
 | nil=>exact .cons r .nil
 | @cons k v' t' vs ts r' h' ih =>
  rw [show Nr f v ((k,v')::vs)=(if k=f then (k,v)::vs else (k,v')::Nr f v vs) from rfl,show a4w f t ((k,t')::ts)=(if k=f then (k,t)::ts else (k,t')::a4w f t ts) from rfl]
  by_cases hk:k=f
  ·rw [hU hk,hU hk]; exact .cons r h'
  ·rw [hV hk,hV hk]; exact .cons r' ih
end
section
variable {X:Cx} {B:Bas} {o e v:Expr} {es:List Expr} {mo mv m1:M T} {ms:M (List T)} {pos p apos:Pos} {Cl:Addr} {f m x:Str} {k:Nat} {g:Addr} {fd:FuncData} {pn:List Str} {F:Fn}
theorem Gw (c:Cls X.K Cl) (n:Ft X.K Cl f) (ho:PE X o (tOf X.K B mo)) (hb:attributeBase o f X.env (eval o X.env)=eval o X.env:=by rfl):PE X (.Attribute o f pos) (tOf X.K B (Lf Cl f mo)):=(ad5 ho hb).imp fun σ H Q z9=>by
 obtain ⟨st,ps,S,as,R,t,aa,e,q⟩:=z9;obtain ⟨k,fs,e1,e2,e3⟩:=a65 e;refine ⟨st,ps,S,as,R,_,aa,e1,fun v H1 S1 af R1=>?_⟩;have t1:=R1.top;cases t1 with
 | @obj _ a ha =>
  obtain ⟨a',h1,_,dx,vs,h3,h4⟩:=R1.sto.at' k _ e2;rw [ha] at h1; cases h1;obtain ⟨w,hw,rw'⟩:=(h4.get (f:=f)).1 t e3;exact ⟨a,Cl,dx,vs,w,rfl,h3,c,n,hw,q w H1 S1 af (R1.drop.push rw')⟩
theorem Kq {pos':Pos} (c:Cls X.K Cl) (n:Ft X.K Cl f) (ho:PE X o (tOf X.K B mo)) (hv:PE X v (tOf X.K B mv)) (hs:swapsWith v (some (.Attribute o f pos')) pos.line X.env=pure false:=by rfl):PS X (.Assign [.Attribute o f pos'] v pos) (sOf X.K B (Bh Cl f mo mv)):=(abw ho hv hs).imp fun D σ H z9=>by
 obtain ⟨st,ps,S,as,R,fl,aa,e,q⟩:=z9;obtain ⟨t,s1,k,s2,fs,e1,e2,e3,hl,rfl,rfl⟩:=Tv e;refine ⟨st,ps,S,as,R,t,s1,e1,fun v H1 S1 af R1=>⟨s1,_,S1,af,R1,_,s2,e2,fun x H2 S2 aB R2=>?_⟩⟩;have t1:=R2.top;cases t1 with
 | @obj _ a ha =>
  obtain ⟨a',h1,_,dx,vs,h3,h4⟩:=R2.sto.at' k _ e3;rw [ha] at h1; cases h1;exact ⟨a,Cl,dx,vs,rfl,h3,c,n,by rw [h4.length]; omega,q _ _ S2 aB (R2.drop.drop.Ot e3 ha ⟨dx,_,dj,h4.put R2.top2⟩)⟩
structure a9l (P:Program) (w:World) (K:PySem.W.Frag) (mg:Str->Option Value) (base:Heap) (Cl:Addr) (m:Str) (k:Nat) (ps:List Str) (F:Fn):Prop where
 ex:∃ g fd,Meth K Cl m g/\Du P w K mg base CX0 k g fd ps (spF K ps.length F)/\Binds K fd ps []
 c:Cls K Cl
theorem a9l.mono {P:Program} {w:World} {K:PySem.W.Frag} {mg:Str->Option Value} {base:Heap} {Cl:Addr} {m:Str} {j k:Nat} {ps:List Str} {F:Fn} (h:a9l P w K mg base Cl m j ps F) (l:j<=k):a9l P w K mg base Cl m k ps F:=by
 obtain ⟨⟨g,fd,a,b,d⟩,c⟩:=h;exact ⟨⟨g,fd,a,b.mono l,d⟩,c⟩
structure adx (P:Program) (w:World) (K:PySem.W.Frag) (mg:Str->Option Value) (base:Heap) (x:Str) (Cl:Addr) (k:Nat) (ps:List Str) (F:Fn):Prop where
 ex:∃ g fd,Mk K Cl g/\Du P w K mg base CX0 k g fd ps (spF K ps.length F)/\Binds K fd ps []
 m:mg x=some (.ref Cl)
theorem adx.mono {P:Program} {w:World} {K:PySem.W.Frag} {mg:Str->Option Value} {base:Heap} {x:Str} {Cl:Addr} {j k:Nat} {ps:List Str} {F:Fn} (h:adx P w K mg base x Cl j ps F) (l:j<=k):adx P w K mg base x Cl k ps F:=by
 obtain ⟨⟨g,fd,a,b,d⟩,c⟩:=h;exact ⟨⟨g,fd,a,b.mono l,d⟩,c⟩
theorem ab5 (h:adx X.prog X.w X.K X.mg X.base x Cl k pn F) (hr:Cj (k+1) X.A) (hg:Gl X x) (ha:PA X (e::es) (aOf X.K B ms)) (hl:∀ st ts aa,ms st=some (ts,aa)->ts.length+1=pn.length) (aX:(x==("__debug__" : Str))=false:=by decide)
  (he:starEach (e::es) X.env=(false,eval e X.env)::starEach es X.env:=by rfl) (aN:(backTo pos (starEach es X.env)).any (·.1)=false:=by rfl) :
  PE X (.Call (.Name x p) (e::es) [] pos) (tOf X.K B (Uj Cl F ms)):=by
 obtain ⟨⟨g,fd,hM,G,hb⟩,hm⟩:=h;refine (a9p hM G hr hg hm hb .nil ad0 ha aX he aN).imp fun σ H Q z0=>?_;obtain ⟨st,ps,S,as,R,t,aa,e,q⟩:=z0;obtain ⟨ts,s1,sto,e1,e2,rfl,rfl⟩:=a0y e;refine ⟨st,ps,S,as,R,ts,s1,e1,fun us H1 S1 af R1 rs y dx hy hd ne=>?_⟩;have R2:=R1.ext (Ext.beside R1.sub hd (.own y));have fJ:upd H1 dx (.own y) y=none:=by rw [gw (Ne.symm ne)]; exact hy
 have R3:=R2.newObj (ob:=.ins Cl dx []) (so:=.ins Cl []) fJ ⟨dx,[],dj,.nil⟩;show spF X.K pn.length F (.ref y::(us++[])) _ _ E0;rw [iU];refine ⟨S1,af++[y],s1.sto++[.ins Cl []],.obj s1.sto.length::ts,.non,sto,R3.sub,R3.sto,.cons R3.top (rs.mono (Same.refl _) ⟨[y],rfl⟩),hl _ _ _ e1,e2,fun v H3 S3 aK g sub so r=>?_⟩;cases r;exact ⟨rfl,q _ H3 S3 aK (R3.call g sub so)⟩
end
section
variable {X:Cx} {B:Bas} {tg iter:Expr} {mo:M T} {g:G} {u:S} {body:List Stmt} {pos:Pos}
end
section
variable {X:Cx} {scope:Scope} {N:List Str}
inductive CIO (K:PySem.W.Frag) (B:Bas) (n:Nat) (g:G) (c:M Bool) (e:M T) (us:List T) (env:List Slot) (s2:Sta) (σ:L2.St) (pp:List (V × T)) (D:Addr) (i m:Nat) (ag:L2.St) (H':Hp):Prop where
 | mk (aG:Sta) (Si:Hp) (aE:List Addr) (acc:List T) (aH:List V) (Ri:Rel K ⟨Si,aE,H'⟩ aG ag H' [] Si aE) (no:Ur aG) (Ro:Rel K B ⟨env,aG.sto⟩ σ H' pp Si aE) (hD:H' D=some (.lst aH)) (sD:Si D=none) (nD:D∉aE) (rA:qb K Si aE aH acc) (ei:a9o n g c e m i aG acc=some (us,s2)):CIO K B n g c e us env s2 σ pp D i m ag H'
variable {B:Bas} {nv:Nat} {aw:List Nat} {g:G} {mo:M T} {c:M Bool} {e:M T} {tg iter elt:Expr} {ifs:List Expr} {pos:Pos}
end
end C
end
section
namespace L2
open PySem PySem.Spec
open Sem (wp)
open Builtin
end L2
namespace C
open PySem PySem.Spec PyProof.Rows L2
section
variable {X:Cx} {B:Bas} {a b c e o k d v:Expr} {m m1 m2 mo mk md mv:M T} {pos p apos:Pos} {i:Nat}
end
section
variable {prog:Program} {w:World} {A:Around} {E:Value->Shared->Prop} {s:Shared}
end
section
variable {X:Cx} {B:Bas} {e l:Expr} {es elts:List Expr} {mo:M T} {ms:M (List T)} {body:List Stmt} {pos p q1 aM apos ay:Pos} {x1:Nat} {Cl:Addr} {f x:Str} {E:XK} {pn:List Str} {F:FnX} {k:Nat} {g:G} {u:S}
end
end C
end
section
namespace C
open PySem L2
section
variable {X:Cx} {B:Bas} {pos:Pos}
theorem aa5 {ms:M (List T)} {n:Nat} (h:∀ st ts aa,ms st=some (ts,aa)->ts.length=n):∀ st ts aa,ms st=some (ts,aa)->ts.length+1=n+1:=fun st ts aa e=>iX (· + 1) (h st ts aa e)
end
end C
end
section
namespace C
open PySem
abbrev MX:=Sta->Option ((T ⊕ T) × Sta)
abbrev MXs:=Sta->Option ((List T ⊕ T) × Sta)
def Fg (m:M T):MX:=fun s=>match m s with
 | some (t,s1)=>some (.inl t,s1)
 | none=>none
noncomputable def j9 (F:FnX) (a:M (List T)):MX:=fun s=>match a s with
 | some (ts,s1)=>match F ts s1.sto with
  | some (r,st)=>some (r,{ s1 with sto:=st })
  | none=>none
 | none=>none
def pq:MXs:=fun s=>some (.inl [],s)
noncomputable def iz (m:MX) (l:MXs):MXs:=fun s=>match m s with
 | some (.inl t,s1)=>(match l s1 with
  | some (.inl ts,s2)=>some (.inl (t::ts),s2)
  | some (.inr x,s2)=>some (.inr x,s2)
  | none=>none)
 | some (.inr x,s1)=>some (.inr x,s1)
 | none=>none
noncomputable def oh (C:Nat) (m:Str) (F:FnX) (o:M T) (a:MXs):MX:=fun s=>match o s with
 | some (.obj n,s1)=>(match Ue C n s1.sto with
  | some fs=>if fs.lookup m=none then (match a s1 with
   | some (.inl ts,s2)=>(match F (.obj n::ts) s2.sto with
    | some (r,st)=>some (r,{ s2 with sto:=st })
    | none=>none)
   | some (.inr x,s2)=>some (.inr x,s2)
   | none=>none) else none
  | none=>none)
 | _=>none
noncomputable def Kw (i:Nat) (m:MX):SX:=fun s=>match m s with
 | some (.inl t,s1)=>some (.inl .next,jz i t false s1)
 | some (.inr x,s1)=>some (.inr x,s1)
 | none=>none
noncomputable def Bo (m:MX):SX:=fun s=>match m s with
 | some (.inl _,s1)=>some (.inl .next,s1)
 | some (.inr x,s1)=>some (.inr x,s1)
 | none=>none
noncomputable def P0 (m:MX):SX:=fun s=>match m s with
 | some (.inl t,s1)=>some (.inl (.ret t),s1)
 | some (.inr x,s1)=>some (.inr x,s1)
 | none=>none
end C
end
section
namespace C
open PySem PySem.Spec PyProof.Rows L2
def FinE (K:PySem.W.Frag) (B:Bas) (Cl:Addr) (f:Str) (E:XK) (σ:L2.St) (ps:List (V × T)) (Q:VK):T ⊕ T->Sta->Prop
 | .inl t,aa=>∀ v H' S' av,Rel K B aa σ H' ((v,t)::ps) S' av->Q v H'
 | .inr t,aa=>∀ v dx H' S' av,Rel K B aa σ H' ((v,t)::ps) S' av->S' dx=some (Fx dx f v)->E (.ref Cl) (some dx) H'
noncomputable def Ky (K:PySem.W.Frag) (B:Bas) (Cl:Addr) (f:Str) (E:XK) (m:MX):TE:=fun σ H Q=>∃ st ps S as,Rel K B st σ H ps S as/\∃ r aa,m st=some (r,aa)/\FinE K B Cl f E σ ps Q r aa
def FinA (K:PySem.W.Frag) (B:Bas) (Cl:Addr) (f:Str) (E:XK) (σ:L2.St) (ps:List (V × T)) (Q:List V->Hp->Prop):List T ⊕ T->Sta->Prop
 | .inl ts,aa=>∀ vs H' S' av,Rel K B aa σ H' ps S' av->qb K S' av vs ts->Q vs H'
 | .inr t,aa=>∀ v dx H' S' av,Rel K B aa σ H' ((v,t)::ps) S' av->S' dx=some (Fx dx f v)->E (.ref Cl) (some dx) H'
noncomputable def abe (K:PySem.W.Frag) (B:Bas) (Cl:Addr) (f:Str) (E:XK) (m:MXs):TA:=fun σ H Q=>∃ st ps S as,Rel K B st σ H ps S as/\∃ r aa,m st=some (r,aa)/\FinA K B Cl f E σ ps Q r aa
section
variable {X:Cx} {B:Bas} {e o:Expr} {es:List Expr} {m:M T} {mo:M T} {mx:MX} {ms:M (List T)} {bN:MXs} {pos p q1 aM apos:Pos} {Cl a:Addr} {f x y mn:Str} {E:XK} {fd:FuncData} {pn:List Str} {F:FnX} {k i:Nat} {Co:Addr}
theorem Ay (h:PE X e (tOf X.K B m)):PE X e (Ky X.K B Cl f E (Fg m)):=h.imp fun σ H Q z9=>by
 obtain ⟨st,ps,S,as,R,r,aa,ev,q⟩:=z9;unfold Fg at ev;split at ev
 ·rename_i t s1 e1; cases ev; exact ⟨st,ps,S,as,R,t,_,e1,q⟩
 ·cases ev
theorem Yc {st aa:Sta} {r:T ⊕ T} (h:j9 F ms st=some (r,aa)):∃ ts s1 sto,ms st=some (ts,s1)/\F ts s1.sto=some (r,sto)/\aa = { s1 with sto:=sto }:=by
 unfold j9 at h;split at h
 ·rename_i ts s1 e1;split at h
  ·rename_i r sto e2; cases h; exact ⟨ts,s1,sto,e1,e2,rfl⟩
  ·cases h
 ·cases h
theorem o7 (hx:Passes (CXx X.prog X.w) X E) (D:Av X.prog X.w X.K X.mg X.base x k pn Cl f F) (hr:Cj k X.A) (hg:Gl X x)
  (ha:PA X (e::es) (aOf X.K B ms)) (hl:∀ st ts aa,ms st=some (ts,aa)->ts.length=pn.length) (aX:(x==("__debug__" : Str))=false:=by decide)
  (he:starEach (e::es) X.env=(false,eval e X.env)::starEach es X.env:=by rfl) (aN:(backTo pos (starEach es X.env)).any (·.1)=false:=by rfl) :
  PE X (.Call (.Name x p) (e::es) [] pos) (Ky X.K B Cl f E (j9 F ms)):=by
 obtain ⟨a,fd,h1,h2,h3,h4⟩:=D;refine (a00 h1 hr hg h4 h3 h2 .nil hx ha aX he aN).imp fun σ H Q z0=>?_;obtain ⟨st,ps,S,as,R,r,aa,ev,q⟩:=z0;obtain ⟨ts,s1,sto,e1,e2,rfl⟩:=Yc ev;refine ⟨st,ps,S,as,R,ts,s1,e1,fun vs H1 S1 af R1 rs=>?_⟩;show spX _ _ _ _ _ (vs++[]) _ _ _;rw [iU];refine ⟨S1,af,s1.sto,ts,r,sto,R1.sub,R1.sto,rs,hl _ _ _ e1,e2,?_⟩;cases r with
 | inl t=>exact fun v H2 S2 aB g sub so r=>q v H2 S2 aB ((R1.call g sub so).push r)
 | inr t=>exact fun v dx H2 S2 aB g sub so r hd=>q v dx H2 S2 aB ((R1.call g sub so).push r) hd
theorem qw:PA X [] (abe X.K B Cl f E pq):=su.imp fun σ H Q z9=>by
 obtain ⟨st,ps,S,as,R,r,aa,ev,q⟩:=z9;cases ev;exact q [] H S as R .nil
theorem j6 (ha:PE X e (Ky X.K B Cl f E mx)) (hr:PA X es (abe X.K B Cl f E bN)) (hs:starEach (e::es) X.env=(false,eval e X.env)::starEach es X.env:=by rfl):PA X (e::es) (abe X.K B Cl f E (iz mx bN)) :=
 (lu ha hr hs).imp fun σ H Q z9=>by
  obtain ⟨st,ps,S,as,R,r,aa,ev,q⟩:=z9;unfold iz at ev;split at ev
  ·rename_i t s1 e1;split at ev
   ·rename_i ts s2 e2;cases ev;exact ⟨st,ps,S,as,R,_,s1,e1,fun v H1 S1 af R1=>⟨s1,_,S1,af,R1,_,_,e2,fun vs H2 S2 aB R2 rs=>q (v::vs) H2 S2 aB R2.drop (.cons R2.top rs)⟩⟩
   ·rename_i x s2 e2;cases ev;exact ⟨st,ps,S,as,R,_,s1,e1,fun v H1 S1 af R1=>⟨s1,_,S1,af,R1,_,_,e2,fun w dx H2 S2 aB R2 hd=>q w dx H2 S2 aB (R2.drop.drop.push R2.top) hd⟩⟩
   ·cases ev
  ·rename_i x s1 e1;cases ev;exact ⟨st,ps,S,as,R,_,_,e1,q⟩
  ·cases ev
structure Ve (P:Program) (w:World) (K:PySem.W.Frag) (mg:Str->Option Value) (base:Heap) (Co:Addr) (m:Str) (k:Nat) (ps:List Str) (Cl:Addr) (f:Str) (F:FnX):Prop where
 ex:∃ g fd,Meth K Co m g/\Du P w K mg base (CXx P w) k g fd ps (spX K ps.length Cl f F)/\Binds K fd ps []
 c:Cls K Co
theorem M7 {st aa:Sta} {r:T ⊕ T} (h:oh Co mn F mo bN st=some (r,aa)):∃ n s1 fs ra s2,mo st=some (.obj n,s1)/\s1.sto[n]? = some (.ins Co fs)/\fs.lookup mn=none/\bN s1=some (ra,s2)/\(match ra with
  | .inl ts=>∃ sto,F (.obj n::ts) s2.sto=some (r,sto)/\aa = { s2 with sto:=sto }
  | .inr x=>r=.inr x/\aa=s2):=by
 unfold oh at h;split at h
 ·rename_i n s1 e1;split at h
  ·rename_i fs e2;split at h
   ·rename_i e3;split at h
    ·rename_i ts s2 e4;split at h
     ·rename_i r sto e5; cases h; exact ⟨n,s1,fs,_,s2,e1,Hf e2,e3,e4,sto,e5,rfl⟩
     ·cases h
    ·rename_i x s2 e4; cases h; exact ⟨n,s1,fs,_,_,e1,Hf e2,e3,e4,rfl,rfl⟩
    ·cases h
   ·cases h
  ·cases h
 ·cases h
theorem yh {pl:Sem Bool} (h:Ve X.prog X.w X.K X.mg X.base Co mn k pn Cl f F) (hx:Passes (CXx X.prog X.w) X E) (hr:Cj k X.A) (ho:PE X o (tOf X.K B mo)) (ha:PA X (e::es) (abe X.K B Cl f E bN)) (hl:∀ st ts aa,bN st=some (.inl ts,aa)->ts.length+1=pn.length)
  (hst:starEach (e::es) X.env=(false,eval e X.env)::starEach es X.env:=by rfl) (aN:(backTo pos (starEach es X.env)).any (·.1)=false:=by rfl)
  (ht:eval (.Call (.Attribute o mn apos) (e::es) [] pos) X.env=(do
   let ov <- eval o X.env
   standAt apos.atName
   let (f,first) <- holding [ov] (getMethod ov mn pl)
   callWith pos f first (backTo pos (starEach (e::es) X.env)) (backToKw pos (keywordEach [] X.env))):=by rfl) :
  PE X (.Call (.Attribute o mn apos) (e::es) [] pos) (Ky X.K B Cl f E (oh Co mn F mo bN)):=by
 obtain ⟨⟨g,fd,hm,G,hb⟩,c⟩:=h;refine (a94 (pl:=pl) ho c hm G hr hb .nil hx ha hst aN ht).imp fun σ H Q z0=>?_;obtain ⟨st,ps,S,as,R,r,aa,ev,q⟩:=z0;obtain ⟨n,s1,fs,ra,s2,e1,e2,hn,e3,e4⟩:=M7 ev;refine ⟨st,ps,S,as,R,_,s1,e1,fun v H1 S1 af R1=>?_⟩;have t1:=R1.top;cases t1 with
 | @obj _ a ha =>
  obtain ⟨a',h1,_,dx,vs,h3,h4⟩:=R1.sto.at' n _ e2;rw [ha] at h1; cases h1;refine ⟨a,dx,vs,rfl,h3,(h4.get (f:=mn)).2 hn,s1,_,S1,af,R1,ra,s2,e3,?_⟩;cases ra with
  | inr x =>
   obtain ⟨rfl,rfl⟩:=e4;exact fun w dx H2 S2 aB R2 hd=>q w dx H2 S2 aB (R2.drop.drop.push R2.top) hd
  | inl ts =>
   obtain ⟨sto,e5,rfl⟩:=e4;intro us H2 S2 aB R2 rs;show spX X.K pn.length Cl f F (.ref a::(us++[])) H2 Q E;rw [iU];have r0:Rep X.K S2 aB (.ref a) (.obj n):=R2.top;refine ⟨S2,aB,s2.sto,.obj n::ts,r,sto,R2.sub,R2.sto,.cons r0 rs,hl _ _ _ e3,e5,?_⟩;cases r with
   | inl t=>exact fun v H3 S3 aK g sub so r=>q v H3 S3 aK ((R2.drop.call g sub so).push r)
   | inr t=>exact fun v dx H3 S3 aK g sub so r hd=>q v dx H3 S3 aK ((R2.drop.call g sub so).push r) hd
end
section
variable {X:Cx} {B:Bas} {e o:Expr} {es:List Expr} {m:M T} {mo:M T} {mx:MX} {ms:M (List T)} {bN:MXs} {pos p q1 aM apos:Pos} {Cl a:Addr} {f x y mn:Str} {E:XK} {fd:FuncData} {pn:List Str} {F:Fn} {k i:Nat} {Co:Addr}
theorem wg (he:PE X e (Ky X.K B Cl f E mx)) (hs:swapsWith e none pos.line X.env=pure false:=by rfl):PS X (.Expr e pos) (Le X.K B Cl f E (Bo mx)):=(Ah he hs).imp fun D σ H z9=>by
 obtain ⟨st,ps,S,as,R,fl,aa,ev,q⟩:=z9;unfold Bo at ev;split at ev
 ·rename_i t s1 e1; cases ev; exact ⟨st,ps,S,as,R,_,_,e1,fun v H1 S1 af R1=>q σ H1 S1 af R1.drop⟩
 ·rename_i t s1 e1; cases ev; exact ⟨st,ps,S,as,R,_,_,e1,fun v dx H1 S1 af R1 hd=>q v dx σ H1 S1 af R1 hd⟩
 ·cases ev
theorem Eo (he:PE X e (Ky X.K B Cl f E mx)):PS X (.Return (some e) pos) (Le X.K B Cl f E (P0 mx)):=(a7h he).imp fun D σ H z9=>by
 obtain ⟨st,ps,S,as,R,fl,aa,ev,q⟩:=z9;unfold P0 at ev;split at ev
 ·rename_i t s1 e1; cases ev; exact ⟨st,ps,S,as,R,_,_,e1,fun v H1 S1 af R1=>q v σ H1 S1 af R1⟩
 ·rename_i t s1 e1; cases ev; exact ⟨st,ps,S,as,R,_,_,e1,fun v dx H1 S1 af R1 hd=>q v dx σ H1 S1 af R1 hd⟩
 ·cases ev
theorem Jw (hN:X.N.Nodup) (hi:X.N[i]? = some y) (hy:Loc X.env.scope y) (he:PE X e (Ky X.K B Cl f E mx)) (dk:swapsWith e (some (.Name y aM)) q1.line X.env=pure false:=by rfl)
  (hf:X.fn y=true\/X.env.scope.names.lookup y=some .local:=by first | exact .inl rfl | exact .inr rfl | assumption):PS X (.Assign [.Name y aM] e q1) (Le X.K B Cl f E (Kw i mx)):=(Df hN hi hy he dk hf).imp fun D σ H z9=>by
 obtain ⟨st,ps,S,as,R,fl,aa,ev,q⟩:=z9;unfold Kw at ev;split at ev
 ·rename_i t s1 e1; cases ev; exact ⟨st,ps,S,as,R,_,_,e1,fun v H1 S1 af R1=>q _ H1 S1 af (R1.drop.put R1.top)⟩
 ·rename_i t s1 e1; cases ev; exact ⟨st,ps,S,as,R,_,_,e1,fun v dx H1 S1 af R1 hd=>q v dx σ H1 S1 af R1 hd⟩
 ·cases ev
end
end C
end
section
namespace C
open PySem
end C
end
section
namespace C
open PySem PySem.Spec PyProof.Rows L2
section
variable {X:Cx} {B:Bas} {o k v e:Expr} {mo mk mv:M T} {mx:MX} {pos pos':Pos} {Cl:Addr} {f:Str} {E:XK}
end
theorem Yn.has {K:PySem.W.Frag} {S:Hp} {as:List Addr} (k:List L2.Key):∀ {vs:List (List L2.Key × V)} {ts:List (List L2.Key × T)},Yn K S as vs ts->(Vw vs k).isSome=(afu k ts).isSome
 | _,_,.nil=>rfl
 | _,_,.cons (k:=q) (vs:=vs) (ts:=ts) a b=>by
  unfold afu
  by_cases e:q=k
  ·rw [hU e,Jf e]; rfl
  ·rw [hV e,Jd e]; exact Yn.has k b
section
variable {X:Cx} {B:Bas} {e o:Expr} {mx mo:M T} {pos:Pos}
end
section
variable {X:Cx} {B:Bas} {l:Expr} {elts:List Expr} {mo:M T} {body:List Stmt} {pos aM apos ay:Pos} {x1:Nat} {Co:Addr} {f:Str} {jh jl jp jd:Nat}
end
end C
end
section
namespace L2
open PySem PySem.Spec PyProof.Rows
section
variable {M:Model} {A:Around} {E:Value->Shared->Prop} {s:Shared} {base:Heap} {env en:Env} {outer:List Env} {L e C dx T:Addr} {fl:Value} {Q:Unit->Shared->Prop}
theorem Wt (hfr:A.frames=some (env::outer)) (hl:s.heap.FunFrames base (env::outer)) (hf:env.frame=some L) (x:XAt s.heap e C dx T fl) (dq:fl≠rawInt L) (cC:e∉frs (env::outer)) (fY:T∉frs (env::outer))
  (h:∀ h' T',s.heap.objs.size<=T'->Kp (frs (env::outer)) [e,T] s.heap h'->XAt h' e C dx T' (rawInt L)->Q () { s with heap:=h' }):wpAny M A (noteFrame (.ref e) env) Q E s:=by
 obtain ⟨ne,⟨vs,he,h1⟩,o,ts,hT,hd,h3⟩:=x;have k1:Kp (frs (env::outer)) [T] s.heap (s.heap.update T (Obj.mapFields (·.setIfInBounds 3 Value.none))):=Kp.field hT hd _;unfold noteFrame;simp only [hf];refine hJ (iH he rfl h1 ?_);rw [hU (show (Value.ref T != Value.none)=true from by simp)];refine hJ (iH hT hd h3 ?_);rw [hV (show ¬ ((fl==rawInt L)=true) from fun z=>dq (eq_of_beq z))];refine hJ (kF hT hd (kG.mp h3).1 ?_);have cy:(s.heap.update T (Obj.mapFields (·.setIfInBounds 3 Value.none))).get? e=some (a3r C dx vs):=(jv _ _ ne).trans he;refine Ht (base:=base) hfr (hl.of_keeps fun b u q nf=>?_) hf cy (kG.mp h1).1 cC fun h' T' hz k2 x=>h h' T' (ip k1.size hz) ((k1.mono (fun _ z=>z) (by simp)).trans (k2.mono (fun _ z=>z) (by simp))) x;refine ⟨u,?_,rfl⟩;have:T≠b:=fun z=>by subst z; rw [hT] at q; cases q; exact nf ts hd
 rw [jv _ _ this]; exact q
theorem X7 (fr:Option Addr) (x:XAt s.heap e C dx T fl) (h:∀ h' cL,Kp [] [T] s.heap h'->XAt h' e C dx T cL->Q () { s with heap:=h' }):wpAny M A (setFlight (.ref e) fr) Q E s:=by
 obtain ⟨ne,⟨vs,he,h1⟩,o,ts,hT,hd,h3⟩:=x;have z3:=(kG.mp h3).1;unfold setFlight;refine hJ (iH he rfl h1 ?_);rw [hU (show (Value.ref T != Value.none)=true from by simp)];refine kF hT hd z3 (h _ _ (Kp.field hT hd _) ⟨ne,⟨vs,(jv _ _ ne).trans he,h1⟩,_,_,km _ hT (lT (kE hd _)),kE hd _,by simp [z3]; rfl⟩)
theorem Z4 (h:en.frame=env.frame) (v:Value):noteFrame v en=noteFrame v env:=by
 unfold noteFrame PySem.frameOf;rw [h]
end
section
variable {X:Cx} {pins:List (Addr × Obj)} {σ:St} {H:Hp} {s:Shared} {a C dx T:Addr} {fl:Value}
theorem a6e {A:Around} {E:Value->Shared->Prop} {Q:Unit->Shared->Prop} (hst:X.stack=X.env::X.outer) (hfr:X.env.frame=some X.env.locals) (hA:A.frames=some X.stack) (I:Inv X pins σ H s) (x:XAt s.heap a C dx T fl) (ha:H a=none) (hT:H T=none) (oa:Off X pins a) (oT:Off X pins T)
  (h:∀ s' T',Lies X pins σ H s' a C dx T'->Q () s') :
  wpAny (model X.prog X.w) A (noteFrame (.ref a) X.env) (fun _ s2=>wpAny (model X.prog X.w) A (setFlight (.ref a) none) Q E s2) E s:=by
 by_cases hf:fl=rawInt X.env.locals
 ·subst hf;refine Xl hfr x (Ez x fun h2 k2 x2=>h _ T ⟨I.noted (h':=h2) (k2.mono (fun _ z=>nomatch z) (fun _ z=>z)) (fun b hb=>by rw [ik.mp hb]; exact hT) (fun b hb=>by rw [ik.mp hb]; exact oT),x2,ha,hT,oa,oT⟩)
 ·obtain ⟨ne,⟨vs,ga,v1⟩,o,ts,gT,dT,t3⟩:=id x;have n1:=I.Fq ga rfl;have n2:=I.Fq gT dT;have fr:=I.stack;rw [hst] at hA n1 n2 fr;refine Wt (L:=X.env.locals) (base:=X.base) hA fr hfr x hf n1.2.2 n2.2.2 fun h' T' bQ k x=>?_;rw [<- hst] at k
  have I1:=I.noted k (fun b hb=>by
   rcases ir.mp hb with rfl | hb
   ·exact ha
   ·rw [ik.mp hb]; exact hT) (fun b hb=>by
   rcases ir.mp hb with rfl | hb
   ·exact oa
   ·rw [ik.mp hb]; exact oT)
  refine Ez (s:={ s with heap:=h' }) x fun h2 k2 x2=>h _ T' ⟨I1.noted (h':=h2) (k2.mono (fun _ z=>nomatch z) (fun _ z=>z)) (fun b hb=>by rw [ik.mp hb]; exact I.hok.fresh bQ) (fun b hb=>by rw [ik.mp hb]; exact I.off bQ),x2,ha,I.hok.fresh bQ,oa,I.off bQ⟩
end
structure XA (X:Cx) (E:XK):Prop where
 hst:X.stack=X.env::X.outer
 hfr:X.env.frame=some X.env.locals
 go:∀ (σ:St) (H:Hp) (s:Shared) (a C dx T:Addr) (fl:Value),Inv X [] σ H s->XAt s.heap a C dx T fl->H a=none->H T=none->Off X [] a->Off X [] T->E (.ref C) (some dx) H->X.xe (.ref a) s
theorem a8y {P:Program} {w:World} {K:PySem.W.Frag} {mg:Str->Option Value} {base:Heap} {N:List Str} {qual:Str} {scope:Scope} {f:Addr} {cd:Value} {A:Around} {outer:List Env} {s₀:Shared} {H₀:Hp} {E:XK} :
  XA (Qc (CXx P w) P w K mg base N qual scope f cd A outer s₀ H₀ E) E:=⟨rfl,rfl,fun σ H s a C dx T fl I x ha hT oa oT hE=>by
 show wpAny _ _ (leaving _ _) _ _ _;unfold leaving;refine hJ (a6e rfl rfl I.ok.frames I x ha hT oa oT fun s2 T' L2=>?_);have za:s₀.heap.objs.size<=a:=L2.oa.1.elim (fun z=>nomatch z) id;have zT:s₀.heap.objs.size<=T':=L2.oT.1.elim (fun z=>nomatch z) id;exact ⟨a,C,dx,T',H,rfl,za,zT,L2.at_,L2.ha,L2.hT,L2.inv.os,L2.inv.bare,L2.inv.base,L2.inv.hok,hE⟩⟩
def xeX (X:Cx) (E:XK):Value->Shared->Prop:=fun e s'=>∃ a C dx T H' pins σ,e=.ref a/\Lies X pins σ H' s' a C dx T/\X.s₀.heap.objs.size<=a/\X.s₀.heap.objs.size<=T/\E (.ref C) (some dx) H'
theorem K3 {X:Cx} {E:XK}:Passes (CXx X.prog X.w) (X.wish (xeX X E)) E:=fun pins σ H s e s' I h=>by
 obtain ⟨a,C,dx,T,H',rfl,za,zT,x,na,nT,os,ba,un,hok,hE⟩:=h;have I0:Inv X pins σ H s:=I.Fo;exact ⟨a,C,dx,T,H',pins,σ,rfl,⟨I0.call' (ch:=[]) os un hok ba (fun b z=>nomatch z),x,na,nT,I0.off za,I0.off zT⟩,ip I0.sz za,ip I0.sz zT,hE⟩
section
variable {pr:Program} {wd:World} {Ar:Around} {Rs:Result->Shared->Prop} {s:Shared}
end
def Oa (X:Cx) (scope:Scope) (N:List Str) (g:TG) (te:TE) (σ:St) (J:It) (H1:Hp) (Q:VK):Prop:=∀ D,H1 D=none->∃ aW:St,aW.length=N.length /\
 (∀ (i:Nat) (v:V) (x:Str),aW[i]? = some (some v)->N[i]? = some x->Vis (relabel scope X.env) x->∃ k:Nat,X.N[k]? = some x/\σ[k]? = some (some v)/\a78 X scope x) /\
 ∃ W:Nat->Nat->St->Hp->Prop,(∃ m,W 0 m aW (upd H1 D (.lst [])))/\∀ i m ag H',W i m ag H' ->
  (J.stop i H'/\Q (.ref D) H')\/(J.go i H'/\∀ x H2,J.yld i H' x H2->g x ag H2 fun bG H4=>te bG H4 fun y H5=>∃ l,H5 D=some (.lst l)/\l.length<sizeLine/\∃ m',m'<m/\W (i+1) m' bG (upd H5 D (.lst (l++[y]))))
noncomputable def ae1 (X:Cx) (scope:Scope) (N:List Str) (wi:TI) (g:TG) (te:TE):TE:=fun σ H Q=>wi σ H fun J H1=>Oa X scope N g te σ J H1 Q
section
variable {X:Cx} {scope:Scope} {N:List Str}
variable {tg iter elt:Expr} {pos:Pos} {g:TG} {te:TE}
theorem Uq {Ex:XK} (sc:Fp X scope N) (calm:X.calm=true) (hst:X.stack=X.env::X.outer) (hfr:X.env.frame=some X.env.locals)
  (hg:∀ C s₀ H₀ ex pn,PG (kj X scope N C s₀ H₀ ex pn) tg g) (he:∀ C s₀ H₀ ex pn,PE ((kj X scope N C s₀ H₀ ex pn).wish (xeX (kj X scope N C s₀ H₀ ex pn) Ex)) elt te)
  {pins:List (Addr × Obj)} {σ:St} {H1:Hp} {az:Shared} {it:Addr} {fp:List Addr} {tn:Nat->Heap->Prop} {J:It} {Q:VK} {E:Value->Shared->Prop} {RR:Value->Addr->Result->Shared->Prop}
  (I:Inv X pins σ H1 az) (T:Turn X.prog X.w X.K tg J fp it tn) (aQ:tn 0 az.heap) (f2:∀ b∈fp,Kr X pins H1 b) (q:Oa X scope N g te σ J H1 Q)
  (de:∀ D ah H3 ag H' s',Inv X pins σ H3 ah->(∀ b∈fp,Kr X pins H3 b)->Inv (kj X scope N ah.heap.objs.size ah H3 fp (X.pn++pins)) [] ag H' s'->Q (.ref D) H'->RR (.ref D) ah.heap.objs.size (.ok .next) s')
  (dW:∀ D ah H3 ag H' s' a C dx T fl,Inv X pins σ H3 ah->(∀ b∈fp,Kr X pins H3 b)->Inv (kj X scope N ah.heap.objs.size ah H3 fp (X.pn++pins)) [] ag H' s'->XAt s'.heap a C dx T fl->H' a=none->H' T=none->ah.heap.objs.size<=a->ah.heap.objs.size<=T->Ex (.ref C) (some dx) H'->RR (.ref D) ah.heap.objs.size (.error (.ref a)) s') :
  wpAny (model X.prog X.w) X.A (newList []) (fun acc ah=>wpAny (model X.prog X.w) X.A (newFunctionEnv scope X.env.globals (Te X.env scope.names []) [] X.env.qual none .none (some X.env)) (fun a9 a7 =>
   codeAny (model X.prog X.w) X.A (.compStart (.ListComp elt [⟨tg,iter,[],0⟩] scope pos) 0 (.ref it) acc { a9 with scope:=relabel scope X.env }) (RR acc a9.locals) a7) E ah) E az:=by
 refine Ku (Ex:=fun Y=>xeX Y Ex) (ifs:=[]) (tc:=fun _ H Q=>Q true H) sc calm hg (fun _ _ _ _ _=>a0h) he I T aQ f2 q de ?_;rintro D ah H3 e fc I3 f3 ⟨a,C,dx,Tb,H',pins',ag,rfl,Ls,za,zT,hE⟩;obtain ⟨ne,⟨vs,ga,v1⟩,o,ts,gT,dT,t3⟩:=id Ls.at_;have n1:=Ls.inv.Fq ga rfl;have n2:=Ls.inv.Fq gT dT;have fr:=Ls.inv.stack;have fo:=Ls.inv.ok.frames;rw [show (kj X scope N ah.heap.objs.size ah H3 fp (X.pn++pins)).stack=X.env::X.outer from hst] at fo n1 n2 fr;unfold notedBy;rw [Z4 (env:=X.env) (show (kj X scope N ah.heap.objs.size ah H3 fp (X.pn++pins)).env.frame=X.env.frame from rfl)];refine Qa (L:=X.env.locals) (base:=(kj X scope N ah.heap.objs.size ah H3 fp (X.pn++pins)).base) fo fr hfr Ls.at_ n1.2.2 n2.2.2 fun h' T' bQ k x=>?_;rw [<- hst] at k
 have I1:=(Ls.inv.noted k (fun b hb=>by
  rcases ir.mp hb with rfl | hb
  ·exact Ls.ha
  ·rw [ik.mp hb]; exact Ls.hT) (fun b hb=>by
  rcases ir.mp hb with rfl | hb
  ·exact Ls.oa
  ·rw [ik.mp hb]; exact Ls.oT)).Fy (pins':=[]) (fun p hp=>nomatch hp)
 exact dW _ ah _ ag H' _ a C dx T' _ I3 f3 I1 x Ls.ha (Ls.inv.hok.fresh bQ) za (ip zT (ip (iK (iq gT)) bQ)) hE
end
end L2
end
section
namespace C
open PySem
noncomputable def Ej (g:G) (e:MX):List T->Sta->List T->Option ((List T ⊕ T) × Sta)
 | [],s,acc=>some (.inl acc,s)
 | t::r,s,acc=>match g t s with
  | some s1=>match e s1 with
   | some (.inl u,s2)=>if acc.length<lim then Ej g e r (jt s2) (acc++[u]) else none
   | some (.inr x,s2)=>some (.inr x,s2)
   | none=>none
  | none=>none
noncomputable def G7 (nv:Nat) (aw:List Nat) (g:G) (it:M (List T)) (e:MX):MX:=fun s=>match it s with
 | some (ts,s1)=>match Ej g e ts ⟨List.replicate nv none++aw.map (fun i=>((jq aw s1.env)[i]?).getD none),s1.sto⟩ [] with
  | some (.inl us,s2)=>some (.inl (.lst us),⟨jq aw s1.env,s2.sto⟩)
  | some (.inr x,s2)=>some (.inr x,⟨jq aw s1.env,s2.sto⟩)
  | none=>none
 | none=>none
end C
end
section
namespace C
open PySem PySem.Spec PyProof.Rows L2
def agu (K:PySem.W.Frag) (B:Bas) (Cl:Addr) (f:Str) (E:XK) (σ:L2.St) (pp:List (V × T)) (env:List Slot) (Q:VK):List T ⊕ T->Sta->Prop
 | .inl us,s2=>∀ D H' S' av,Rel K B ⟨env,s2.sto⟩ σ H' pp S' av->Xb K B S' av H' D (.lst us)->Jm ⟨env,s2.sto⟩ σ D->Q (.ref D) H'
 | .inr t,s2=>∀ v dx H' S' av,Rel K B ⟨env,s2.sto⟩ σ H' ((v,t)::pp) S' av->S' dx=some (Fx dx f v)->E (.ref Cl) (some dx) H'
noncomputable def eX (K:PySem.W.Frag) (Cl:Addr) (f:Str) (E:XK) (e:MX):TE:=fun σ H Q=>∃ B,Ky K B Cl f E e σ H Q
theorem peX {X:Cx} {e:Expr} {m:MX} {Cl:Addr} {f:Str} {E:XK} (h:∀ B,PE X e (Ky X.K B Cl f E m)):PE X e (eX X.K Cl f E m):=fun pins s σ H Q I ⟨B,q⟩=>h B pins s σ H Q I q
theorem Xf {g:G} {e:MX} {t:T} {ts acc:List T} {s s':Sta} {r:List T ⊕ T} (h:Ej g e (t::ts) s acc=some (r,s')):∃ s1 w s2,g t s=some s1/\e s1=some (w,s2) /\
  (match w with | .inl u=>acc.length<lim/\Ej g e ts (jt s2) (acc++[u])=some (r,s') | .inr x=>r=.inr x/\s'=s2):=by
 rw [Ej] at h;split at h
 ·rename_i s1 e1;split at h
  ·rename_i u s2 e2;split at h
   ·rename_i hl; exact ⟨s1,.inl u,s2,e1,e2,hl,h⟩
   ·cases h
  ·rename_i x s2 e2; cases h; exact ⟨s1,.inr x,_,e1,e2,rfl,rfl⟩
  ·cases h
 ·cases h
section
variable {X:Cx} {scope:Scope} {N:List Str}
inductive CIX (K:PySem.W.Frag) (B:Bas) (g:G) (e:MX) (ts:List T) (r:List T ⊕ T) (env:List Slot) (s2:Sta) (σ:L2.St) (pp:List (V × T)) (D:Addr) (i m:Nat) (ag:L2.St) (H':Hp):Prop where
 | mk (aG:Sta) (Si:Hp) (aE:List Addr) (acc:List T) (aH:List V) (hm:m=ts.length - i) (hi:i<=ts.length) (Ri:Rel K ⟨Si,aE,H'⟩ aG ag H' [] Si aE) (no:Ur aG) (Ro:Rel K B ⟨env,aG.sto⟩ σ H' pp Si aE) (hD:H' D=some (.lst aH)) (sD:Si D=none) (nD:D∉aE) (rA:qb K Si aE aH acc) (ei:Ej g e (ts.drop i) aG acc=some (r,s2)):CIX K B g e ts r env s2 σ pp D i m ag H'
theorem Y7 {Cl:Addr} {f:Str} {E:XK} {B:Bas} {nv:Nat} {aw:List Nat} {g:G} {e:MX} {ts:List T} {r:List T ⊕ T} {env:List Slot} {aY:List SO} {s2:Sta} {σ:L2.St} {H1 S1:Hp} {af:List Addr} {ps a6:List (V × T)} {J:It} {Q:VK}
  (hN:N.length=nv+aw.length) (hv:∀ i x,i<nv->N[i]? = some x->True)
  (aO:∀ (j k:Nat),aw[j]? = some k->∃ x,N[nv+j]? = some x/\X.N[k]? = some x/\a78 X scope x)
  (R1:Rel X.K B ⟨env,aY⟩ σ H1 (a6++ps) S1 af) (cf:∀ k∈aw,∀ t,env[k]?≠some (some (t,true)))
  (facts:∀ S as H,Same B.S S->(∃ l,as=B.as++l)->(∀ p∈a6,Rep X.K S as p.1 p.2)->Same S H->Hu X.K S as H J ts)
  (hc:Ej g e ts ⟨List.replicate nv none++aw.map (fun i=>(env[i]?).getD none),aY⟩ []=some (r,s2))
  (fin:agu X.K B Cl f E σ (a6++ps) env Q r s2) :
  Oa X scope N (gE X.K g) (eX X.K Cl f E e) σ J H1 Q:=by
 intro D hD;obtain ⟨bD,sD1,nD1,noD⟩:=R1.fresh hD;obtain ⟨aW,z1,z2,z3,z4,z5⟩:=Px hN aO R1 cf hD;refine ⟨aW,z1,z2,fun i m ag H'=>CIX X.K B g e ts r env s2 σ (a6++ps) D i m ag H',⟨ts.length,.mk _ S1 af [] [] (by simp) (iZ _) z3 z4 z5 dj sD1 nD1 .nil hc⟩,?_⟩;rintro i m ag H' ⟨aG,Si,aE,acc,aH,rfl,hi,Ri,no,Ro,hD',sD,nD,rA,ei⟩;have F:=facts Si aE H' Ro.grow.same Ro.grow.more (fun p hp=>Ro.pend p (kq _ hp)) Ri.sub
 by_cases aS:i<ts.length
 ·rw [kN aS] at ei;obtain ⟨s3,w,s5,eg,ee,er⟩:=Xf ei;have ht:ts[i]? = some ts[i]:=jC aS;refine .inr ⟨(F.go i _ ht).1,fun x H2 y=>?_⟩;obtain ⟨S2,ex,rx⟩:=(F.go i _ ht).2 x H2 y;refine ⟨⟨Si,aE,H'⟩,aG,[],S2,aE,_,(Ri.ext ex).push rx,s3,eg,fun bM H3 S3 aK R3=>⟨⟨Si,aE,H'⟩,s3,[],S3,aK,R3,w,s5,ee,?_⟩⟩;cases w with
  | inr t =>
   obtain ⟨rfl,rfl⟩:=er;exact fun v dx H5 S5 cU R5 hd=>fin v dx H5 S5 cU ((Ro.call R5.grow R5.sub R5.sto).push R5.top) hd
  | inl w =>
   obtain ⟨hlen,erest⟩:=er;intro y H5 S5 cU R5;obtain ⟨S6,R6⟩:=R5.jt;obtain ⟨k1,k2,k3⟩:=R6.grow.keep D _ hD' sD nD;have dC:=Ro.call R6.grow R6.sub R6.sto;refine ⟨aH,k1,?_,ts.length - (i+1),by omega,.mk (jt s5) S6 cU (acc++[w]) (aH++[y]) rfl aS (R6.drop.aaj (vp _) k2 k3) (vp _) (dC.ae3 bD k2 k3 noD) dj k2 k3 ((rA.mono R6.grow.same R6.grow.more).append (.cons R6.top .nil)) erest⟩;rw [rA.length]; exact iD hlen lg
 ·have dv:i=ts.length:=by omega
  subst dv;rw [lP] at ei;cases ei;exact .inl ⟨F.stop _ (ic _),fin D H' Si aE Ro ⟨⟨aH,hD',rA⟩,sD,nD,bD⟩ noD⟩
variable {B:Bas} {nv:Nat} {aw:List Nat} {g:G} {it:M (List T)} {e:MX} {tg iter elt:Expr} {pos:Pos} {Cl:Addr} {f:Str} {E:XK}
theorem Wr {s s':Sta} {v:T ⊕ T} (h:G7 nv aw g it e s=some (v,s')):∃ ts s1 r s2,it s=some (ts,s1) /\
  Ej g e ts ⟨List.replicate nv none++aw.map (fun i=>((jq aw s1.env)[i]?).getD none),s1.sto⟩ []=some (r,s2)/\(match r with | .inl us=>v=.inl (.lst us) | .inr x=>v=.inr x)/\s'=⟨jq aw s1.env,s2.sto⟩:=by
 unfold G7 at h;split at h
 ·rename_i ts s1 e1;split at h
  ·rename_i us s2 e2; cases h; exact ⟨ts,s1,.inl us,s2,e1,e2,rfl,rfl⟩
  ·rename_i x s2 e2; cases h; exact ⟨ts,s1,.inr x,s2,e1,e2,rfl,rfl⟩
  ·cases h
 ·cases h
end
end C
end
section
namespace C
open PySem
end C
end
section
namespace C
open PySem PySem.Spec PyProof.Rows L2
section
variable {X:Cx} {B:Bas} {tg iter:Expr} {mo:M T} {g:G} {u:SX} {body:List Stmt} {pos:Pos} {Cl:Addr} {f:Str} {E:XK}
end
theorem yt:∀ st ts aa,pq st=some (.inl ts,aa)->ts.length=0:=fun st ts aa e=>by cases e; rfl
theorem ur {m:MX} {r:MXs} {n:Nat} (h:∀ st ts aa,r st=some (.inl ts,aa)->ts.length=n):∀ st ts aa,iz m r st=some (.inl ts,aa)->ts.length=n+1:=fun st ts aa e=>by
 unfold iz at e;split at e
 ·rename_i t s1 e1;split at e
  ·rename_i us s2 e2; cases e; exact iX (· + 1) (h _ _ _ e2)
  ·cases e
  ·cases e
 ·cases e
 ·cases e
theorem uq {ms:MXs} {n:Nat} (h:∀ st ts aa,ms st=some (.inl ts,aa)->ts.length=n):∀ st ts aa,ms st=some (.inl ts,aa)->ts.length+1=n+1:=fun st ts aa e=>iX (· + 1) (h st ts aa e)
theorem Av.zero {P:Program} {w:World} {K:PySem.W.Frag} {mg:Str->Option Value} {base:Heap} {x qual:Str} {st:Stmt} {f:Addr} {fd:FuncData} {ps:List Str} {k:Nat} {Cl:Addr} {fl:Str} (F:Fun K x qual st f fd) (h:mg x=some (.ref f)) (b:Binds K fd ps []):Av P w K mg base x k ps Cl fl (fun _ _=>none):=by
 have no:∀ vs H Q E,¬ spX K ps.length Cl fl (fun _ _=>none) vs H Q E:=fun vs H Q E z=>by
  obtain ⟨S,as,sto,ts,t,ae,_,_,_,_,e,_⟩:=z;cases e
 exact ⟨f,fd,⟨fun vs H Q E z=>absurd z (no vs H Q E),fun A outer s H args us vs Q E _ _ _ _ z=>absurd z (no vs H Q E)⟩,b,F.kp,h⟩
section
variable {X:Cx} {B:Bas} {e a b c:Expr} {m m1 m2 m3:M T} {pos p1 p2 p3 p4:Pos}
theorem Pk:∀ {l:List Str} {its:List Value},Vals (l.map V.str) its->∃ l':List (Str × Tok),its=strValues l'/\l'.map (·.1)=l
 | [],_,.nil=>⟨[],rfl,rfl⟩
 | x::l,_,.cons h r=>by
  obtain ⟨t,rfl⟩:=h;obtain ⟨l',rfl,e⟩:=Pk r;exact ⟨(x,t)::l',rfl,by simp [e]⟩
theorem a91:MtR X "str.join" (fun x xs H Q=>∃ sep p l,x=.str sep/\xs=[.ref p]/\SqL X.K H p (l.map V.str)/\(l.map (·.length)).sum+l.length * sep.length<lim/\(Str.join sep l).length<lim/\Q (.str (Str.join sep l)) H):=by
 intro pins s σ H x xs v us Q I rx rv h;obtain ⟨sep,p,l,rfl,rfl,hq,hz,hj,q⟩:=h;obtain ⟨t,rfl⟩:=rx;obtain ⟨u,rfl,ru⟩:=rv.one;cases ru;obtain ⟨its,r,pl,_⟩:=I.list hq;obtain ⟨l',rfl,e⟩:=Pk r
 have tl:Builtin.Str.tooLong ((l'.map (·.1)).toArray.foldl (· + ·.length+sep.length) 0)=false:=by
  rw [StrLaws.joinTotal,e];have:=lg;unfold Builtin.Str.tooLong;exact iC (by omega)
 refine call_meets F.slot_str_join (typeIs_str _ _ _) F.entry_str_join (F.args_str_join_2 _ _) (meets_str_join_list sep t p l' tl) ⟨pl.isList,?_⟩
 have big:(Made.str (Builtin.Str.glued sep (l'.map (·.1)))).post (fun v s'=>EP X pins σ Q v s') s:=by
  rw [StrLaws.glued_eq_join,e];exact ⟨ip (iK hj) lg,.str _,H,I.tok _,⟨_,rfl⟩,q⟩
 match l',e,big with
 | [],_,b=>exact b
 | [w],e,_ =>
  refine ⟨.str w.1,H,I,⟨_,rfl⟩,?_⟩;have:l=[w.1]:=by rw [<- e]; rfl
  subst this;exact q
 | _::_::_,_,b=>exact b
theorem Mh:∀ {ts:List T} {l:List Str},Ug ts=some l->ts=l.map T.str
 | [],_,h=>by simp only [Ug] at h; cases h; rfl
 | t::ts,l,h=>by
  cases t <;> simp only [Ug,reduceCtorEq] at h
  rename_i x;obtain ⟨l',e,rfl⟩:=iO.mp h;rw [iL,<- Mh e]
theorem Pq {K:PySem.W.Frag} {S:Hp} {as:List Addr}:∀ {l:List Str} {vs:List V},qb K S as vs (l.map T.str)->vs=l.map V.str
 | [],_,.nil=>rfl
 | x::l,_,.cons h r=>by
  cases h;rw [iL,Pq r]
theorem Gp (sep:Str):∀ l:List Str,(Str.join sep l).length<=(l.map (·.length)).sum+l.length * sep.length
 | []=>by simp [Str.join,Str.empty,Str.length]
 | [x]=>by simp [Str.join]
 | x::y::l=>by
  have ih:=Gp sep (y::l);show (x++sep++Str.join sep (y::l)).length<=_;rw [Str.length_append,Str.length_append];simp only [List.map_cons,List.sum_cons,List.length_cons,Nat.add_mul,Nat.one_mul] at ih ⊢;omega
theorem Ec {apos ay:Pos} (h1:PE X a (tOf X.K B m1)) (h2:PE X b (tOf X.K B m2))
  (aP:attributeBase a "join" X.env (eval a X.env)=eval a X.env:=by rfl)
  (b6:((backTo ay (starEach [b] X.env)).all (fun x=>!x.1)&&(backToKw ay (keywordEach [] X.env)).all (fun x=>x.1.isSome)
   && decide (([b]:List Expr).length+([]:List Keyword).length+(if ([]:List Keyword).isEmpty then 0 else 1)<30))=true:=by rfl)
  (aT:(apos.endLine==ay.line)=true:=by rfl) (hs:starEach [b] X.env=(false,eval b X.env)::starEach [] X.env:=by rfl) (aU:(backTo ay (starEach [] X.env)).any (·.1)=false:=by rfl) :
  PE X (.Call (.Attribute a "join" apos) [b] [] ay) (tOf X.K B (mOp yp m1 m2)) :=
 (Ie PySem.F.plainAttrs_str PySem.F.slot_str_join PySem.F.type_str_join a91 h1 (lu h2 su hs) aP b6 aT hs aU).imp fun σ H Q z9=>by
  obtain ⟨st,ps,S,as,R,t,aa,ev,q⟩:=z9;obtain ⟨t1,s1,t2,e1,e2,e3⟩:=Ko ev;unfold yp at e3;split at e3
  ·rename_i sep ts;split at e3
   ·rename_i l hl;split at e3
    ·rename_i hz;cases e3;obtain rfl:=Mh hl;refine ⟨st,ps,S,as,R,_,s1,e1,fun v H1 S1 af R1=>?_⟩;have tp:=R1.top;cases tp;refine ⟨rfl,s1,_,S1,af,R1,_,aa,e2,fun v2 H2 S2 aB R2=>?_⟩;have eJ:=R2.top;cases eJ with
     | @lst p vs _ g1 g2 =>
      obtain rfl:=Pq g2;exact ⟨sep,p,l,rfl,rfl,jw R2.sub g1,hz,kd (Gp sep l) hz,q _ _ _ _ (R2.drop.drop.push (.str _))⟩
    ·cases e3
   ·cases e3
  ·cases e3
end
structure ahb (P:Program) (w:World) (K:PySem.W.Frag) (mg:Str->Option Value) (base:Heap) (x:Str) (Co:Addr) (k:Nat) (ps:List Str) (Cl:Addr) (f:Str) (F:FnX):Prop where
 ex:∃ g fd,Mk K Co g/\Du P w K mg base (CXx P w) k g fd ps (spX K ps.length Cl f F)/\Binds K fd ps []
 m:mg x=some (.ref Co)
section
variable {X:Cx} {B:Bas} {e:Expr} {es:List Expr} {ms:M (List T)} {pos p:Pos} {k:Nat} {Co Cl:Addr} {f x:Str} {pn:List Str} {F:FnX} {E:XK}
variable {o:Expr} {mo:M T} {mn:Str} {apos:Pos}
theorem Wa {pl:Sem Bool} (h:Ve X.prog X.w X.K X.mg X.base Co mn k pn Cl f F) (hx:Passes (CXx X.prog X.w) X E) (hr:Cj k X.A) (ho:PE X o (tOf X.K B mo)) (hl:pn.length=1)
  (ht:eval (.Call (.Attribute o mn apos) [] [] pos) X.env=(do
   let ov <- eval o X.env
   standAt apos.atName
   let (f,first) <- holding [ov] (getMethod ov mn pl)
   callWith pos f first (backTo pos (starEach [] X.env)) (backToKw pos (keywordEach [] X.env))):=by rfl) :
  PE X (.Call (.Attribute o mn apos) [] [] pos) (Ky X.K B Cl f E (oh Co mn F mo pq)):=by
 obtain ⟨⟨g,fd,hm,G,hb⟩,c⟩:=h;refine (a4n (pl:=pl) ho c hm G hr hb .nil hx ht).imp fun σ H Q z0=>?_;obtain ⟨st,ps,S,as,R,r,aa,ev,q⟩:=z0;obtain ⟨n,s1,fs,ra,s2,e1,e2,hn,e3,e4⟩:=M7 ev;cases e3;obtain ⟨sto,e5,rfl⟩:=e4;refine ⟨st,ps,S,as,R,_,s1,e1,fun v H1 S1 af R1=>?_⟩;have t1:=R1.top;cases t1 with
 | @obj _ a ha =>
  obtain ⟨a',h1,_,dx,vs,h3,h4⟩:=R1.sto.at' n _ e2;rw [ha] at h1; cases h1;refine ⟨a,dx,vs,rfl,h3,(h4.get (f:=mn)).2 hn,?_⟩;show spX X.K pn.length Cl f F [.ref a] H1 Q E;refine ⟨S1,af,s1.sto,[.obj n],r,sto,R1.sub,R1.sto,.cons R1.top .nil,hl.symm,e5,?_⟩;cases r with
  | inl t=>exact fun v H3 S3 aK g sub so r=>q v H3 S3 aK ((R1.drop.call g sub so).push r)
  | inr t=>exact fun v dx H3 S3 aK g sub so r hd=>q v dx H3 S3 aK ((R1.drop.call g sub so).push r) hd
end
noncomputable def Bb (g:List T->Option T) (a:MXs):MX:=fun s=>match a s with
 | some (.inl ts,s1)=>(match g ts with
  | some t=>some (.inl t,s1)
  | none=>none)
 | some (.inr x,s1)=>some (.inr x,s1)
 | none=>none
noncomputable def a7m (g:T->T->Option T) (a b:MX):MX:=fun s=>match a s with
 | some (.inl x,s1)=>(match b s1 with
  | some (.inl y,s2)=>(match g x y with
   | some w=>some (.inl w,s2)
   | none=>none)
  | some (.inr x,s2)=>some (.inr x,s2)
  | none=>none)
 | some (.inr x,s1)=>some (.inr x,s1)
 | none=>none
theorem Pr {g:List T->Option T} {a:MXs} {s s':Sta} {r:T ⊕ T} (h:Bb g a s=some (r,s')):∃ ra,a s=some (ra,s')/\((∃ ts t,ra=.inl ts/\g ts=some t/\r=.inl t)\/∃ x,ra=.inr x/\r=.inr x):=by
 unfold Bb at h;split at h
 ·rename_i ts s1 e1;split at h
  ·rename_i t e2; cases h; exact ⟨_,e1,.inl ⟨ts,t,rfl,e2,rfl⟩⟩
  ·cases h
 ·rename_i x s1 e1; cases h; exact ⟨_,e1,.inr ⟨x,rfl,rfl⟩⟩
 ·cases h
section
variable {X:Cx} {B:Bas} {e:Expr} {es:List Expr} {bN:MXs} {m1 m2:MX} {pos:Pos} {Cl:Addr} {f:Str} {E:XK} {g:T->T->Option T}
theorem Gm {k:Nat} (h:PA X es (abe X.K B Cl f E bN)) (hm:∀ st ts aa,bN st=some (.inl ts,aa)->ts.length<=1000):PE X (.Tuple es k pos) (Ky X.K B Cl f E (Bb (fun l=>some (.tup l)) bN)) :=
 (a7d h).imp fun σ H Q z9=>by
  obtain ⟨st,ps,S,as,R,r,aa,e,q⟩:=z9;obtain ⟨ra,e1,e2⟩:=Pr e;rcases e2 with ⟨ts,t,rfl,e3,rfl⟩ | ⟨x,rfl,rfl⟩
  ·cases e3;refine ⟨st,ps,S,as,R,_,aa,e1,fun vs H1 S1 af R1 rs=>⟨?_,fun p hp=>?_⟩⟩
   ·rw [rs.length]; exact iK (Em (hm _ _ _ e1))
   ·have x:=Ext.laid R1.sub hp (.tup vs);exact q _ _ _ _ ((R1.ext x).push (.tup (SqT.of dj) (rs.mono x.s nol)))
  ·exact ⟨st,ps,S,as,R,_,aa,e1,q⟩
theorem a4r {e:Expr} (h:PE X e (tOp (r2 X.K g) (Ky X.K B Cl f E m1) (Ky X.K B Cl f E m2))):PE X e (Ky X.K B Cl f E (a7m g m1 m2)) :=
 h.imp fun σ H Q z9=>by
  obtain ⟨st,ps,S,as,R,r,aa,e,q⟩:=z9;unfold a7m at e;split at e
  ·rename_i x s1 e1;split at e
   ·rename_i y s2 e2;split at e
    ·rename_i w e3;cases e;refine ⟨st,ps,S,as,R,_,s1,e1,fun v H1 S1 af R1=>⟨s1,_,S1,af,R1,_,_,e2,fun u H2 S2 aB R2=>?_⟩⟩;exact ⟨S2,aB,x,y,w,R2.sub,R2.top2,R2.top,e3,fun w H3 S3 x r=>q w H3 S3 aB ((R2.drop.drop.ext x).push r)⟩
    ·cases e
   ·rename_i y s2 e2;cases e;exact ⟨st,ps,S,as,R,_,s1,e1,fun v H1 S1 af R1=>⟨s1,_,S1,af,R1,_,_,e2,fun w dx H2 S2 aB R2 hd=>q w dx H2 S2 aB (R2.drop.drop.push R2.top) hd⟩⟩
   ·cases e
  ·rename_i y s1 e1;cases e;exact ⟨st,ps,S,as,R,_,_,e1,q⟩
  ·cases e
theorem af8 {op:Operator} {a b:Expr} (ho:OpT X (binaryOp op) g) (ha:PE X a (Ky X.K B Cl f E m1)) (hb:PE X b (Ky X.K B Cl f E m2)):PE X (.BinOp a op b pos) (Ky X.K B Cl f E (a7m g m1 m2)):=a4r (a8i ho ha hb)
end
section
variable {X:Cx} {B:Bas} {o v:Expr} {mo:M T} {mv:MX} {pos pos':Pos} {Co Cl:Addr} {f g:Str} {E:XK}
end
section
variable {X:Cx} {B:Bas} {mv:MX} {Cl:Addr} {f:Str} {E:XK}
variable {es:List Expr} {bN:MXs} {i:Nat} {y:Str} {pos pos' p2:Pos}
end
noncomputable def inS:T->T->Option T
 | .str x,.str y=>some (.bl (!(Builtin.Str.occurrences y x 0 y.length 1).isEmpty))
 | _,_=>none
section
variable {X:Cx}
theorem Tg:OpT X (compareOp .In) inS:=by
 intro pins s σ H x y v u Q I rx ry z8;obtain ⟨S,as,t,t2,w,sub,ht,hu2,hf,q⟩:=z8;cases ht <;> first | (cases hf; done) | skip
 all_goals (cases hu2 <;> first | (cases hf; done) | skip)
 cases hf;obtain ⟨t1,rfl⟩:=rx;obtain ⟨t2,rfl⟩:=ry;exact PySem.P.in_str ⟨.bl _,H,I,rfl,q _ H S (Ext.refl sub) (.bl _)⟩
end
noncomputable def a3p (x:Str) (lo hi:Option Int):Str:=⟨((x.cps.toList.drop (HT.sIx x.length 0 lo)).take (HT.sIx x.length x.length hi - HT.sIx x.length 0 lo)).toArray⟩
theorem Ly (lo hi:Option Int) (n:Nat):Builtin.Str.strSliceIndices lo hi 1 n=(List.range (HT.sIx n n hi - HT.sIx n 0 lo)).map (HT.sIx n 0 lo + ·):=by
 have e:∀ (o:Option Int) (d:Nat),(match o with | none=>(d:Int) | some i=>let i:=if i<0 then i+(n:Int) else i; if (1:Int) > 0 then max 0 (min i n) else max (-1) (min i (n - 1)))=((HT.sIx n d o:Nat):Int):=fun o d=>by
  cases o with
  | none=>rfl
  | some i =>
   simp only [HT.sIx,show (1:Int) > 0 by decide,if_true]
   by_cases h:i<0
   ·simp only [h,if_true]; omega
   ·simp only [h,if_false]; omega
 rw [<- sliceRange_one,<- e lo 0,<- e hi n];rfl
theorem a4x (x:Str) (lo hi:Option Int):(a3p x lo hi).length<=x.length:=by
 show (((x.cps.toList.drop _).take _).toArray).size<=x.cps.size;rw [iB,kX,jV,jQ];omega
theorem a6m (x:Str) (lo hi:Option Int):(⟨((Builtin.Str.strSliceIndices lo hi 1 x.length).filterMap (x.cps[·]?)).toArray⟩:Str)=a3p x lo hi:=by
 rw [Ly,pick_run]; rfl
theorem a1c (x:Str) (lo hi:Option Int) (h:(Builtin.Str.strSliceIndices lo hi 1 x.length).length=x.length):a3p x lo hi=x:=by
 rw [Ly,hZ,jH] at h
 have a0:HT.sIx x.length x.length hi<=x.length:=by
  cases hi with
  | none=>exact ic _
  | some i=>simp only [HT.sIx]; split <;> omega
 have a1:HT.sIx x.length 0 lo=0\/x.length=0:=by omega
 have hx:x.cps.toList.length=x.length:=jQ;unfold a3p;rcases a1 with a1 | a1
 ·rw [a1,kP,lX,List.take_of_length_le (by rw [hx]; omega)]
 ·have:x.cps.toList=[]:=List.eq_nil_of_length_eq_zero (by rw [hx,a1]);rw [this];cases x with
  | mk cps=>simp at this; subst this; simp
def agx:V->Option Int->Option Int->Hp->VK->Prop:=fun x lo hi H Q=>∃ y:Str,x=.str y/\y.length<=sizeLine/\Q (.str (a3p y lo hi)) H
section
variable {X:Cx}
theorem part_of {v:Value} {o:Option Int} (h:IsPart v o):∃ l:Option (Int × Tok),v=partValue l/\l.map (·.1)=o:=by
 cases h with
 | none=>exact ⟨none,rfl,rfl⟩
 | int i t=>exact ⟨some (i,t),rfl,rfl⟩
theorem abj:SlR X agx:=by
 intro pins s σ H x v vl vu lo hi sl Q I rx hs pl pu h;obtain ⟨y,rfl,hy,q⟩:=h;obtain ⟨t,rfl⟩:=rx;obtain ⟨l,rfl,rfl⟩:=part_of pl;obtain ⟨u,rfl,rfl⟩:=part_of pu;refine ⟨"str",_,F.slot_str_getitem.lookup,typeIs_str _ _ _,wpAny_getItem_str_slice (l:=l) (u:=u) (st:=none) hs rfl ?_⟩;unfold sliceMade slicePicked;split
 ·rename_i hw;have fF:(Builtin.Str.strSliceIndices (l.map (·.1)) (u.map (·.1)) 1 y.length).length=y.length:=by simpa using hw
  rw [a1c y _ _ fF] at q;exact ⟨.str y,H,I,⟨t,rfl⟩,q⟩
 ·rw [show ((Option.map (fun x:Int × Tok=>x.1) (none:Option (Int × Tok))).getD 1)=1 from rfl,a6m];refine ⟨ip (a4x _ _ _) hy,?_⟩;exact ⟨.str _,H,I.tok _,⟨_,rfl⟩,q⟩
end
noncomputable def Zb (lo hi:Option Int):T->Option T
 | .str x=>if x.length<lim then some (.str (a3p x lo hi)) else none
 | _=>none
noncomputable def qy (m:M T) (lo hi:M (Option Int)):M T:=fun s=>match m s with
 | some (t,s1)=>match lo s1 with
  | some (l,s2)=>match hi s2 with
   | some (u,s3)=>match Zb l u t with
    | some v=>some (v,s3)
    | none=>none
   | none=>none
  | none=>none
 | none=>none
theorem U0 {m:M T} {ml mh:M (Option Int)} {s s':Sta} {v:T} (h:qy m ml mh s=some (v,s')):∃ t s1 l s2 u,m s=some (t,s1)/\ml s1=some (l,s2)/\mh s2=some (u,s')/\Zb l u t=some v:=by
 unfold qy at h;split at h
 ·rename_i t s1 e1;split at h
  ·rename_i l s2 e2;split at h
   ·rename_i u s3 e3;split at h
    ·rename_i w e4; cases h; exact ⟨t,s1,l,s2,u,e1,e2,e3,e4⟩
    ·cases h
   ·cases h
  ·cases h
 ·cases h
section
variable {X:Cx} {B:Bas} {a:Expr} {m:M T} {ml mh:M (Option Int)} {lo hi:Option Expr} {pos p2:Pos}
theorem Gi (ha:PE X a (tOf X.K B m)) (hl:PO X lo (oOf X.K B ml)) (hh:PO X hi (oOf X.K B mh)):PE X (.Subscript a (.Slice lo hi none p2) pos) (tOf X.K B (qy m ml mh)) :=
 (Je abj ha hl hh).imp fun σ H Q z9=>by
  obtain ⟨st,ps,S,as,R,t,aa,e,q⟩:=z9;obtain ⟨t1,s1,l,s2,u,e1,e2,e3,e4⟩:=U0 e;refine ⟨st,ps,S,as,R,t1,s1,e1,fun v H1 S1 af R1=>⟨s1,_,S1,af,R1,l,s2,e2,fun H2 S2 aB R2=>⟨s2,_,S2,aB,R2,u,aa,e3,fun H3 S3 aK R3=>?_⟩⟩⟩;have top:=R3.top;cases top with
  | str =>
   simp only [Zb] at e4;split at e4
   ·rename_i fN;cases e4;exact ⟨_,rfl,ip (iK fN) lg,q _ _ _ _ (R3.drop.push (.str _))⟩
   ·cases e4
  | _=>exact j8 e4
end
noncomputable def ag3 (x:Str):It where
 go:=fun i _=>i<x.cps.size
 yld:=fun i H v H'=>H'=H/\∃ c,x.cps[i]? = some c/\v=.str ⟨#[c]⟩
 stop:=fun i _=>x.cps.size<=i
theorem a4g {P:Program} {w:World} {K:PySem.W.Frag} {tg:Expr} (x:Str) (t:Tok) (it:Addr):Turn P w K tg (ag3 x) [it] it (fun i h=>h.IsStrIter it "str_ascii_iterator" x t i) where
 mem:=by simp
 obj:=fun i h st b hb=>by
  have e:b=it:=by simpa using hb
  subst e;obtain ⟨o,e,c,d⟩:=st;exact ⟨o,e,fun v z=>by rw [d] at z; cases z⟩
 keep:=fun i h h' st k=>by
  obtain ⟨o,e,c,d⟩:=st;exact ⟨o,k it (by simp) o e,c,d⟩
 item:=by
  intro X hP hw hK hc i pins s σ H E I hf st hg;subst hP hw hK;have hg:i<x.cps.size:=hg;obtain ⟨f0,f1,f2,f3,f4,f5⟩:=hf it (by simp);refine wpAny_pyNext_ascii_item st (c:=x.cps[i]) (by simp [hg]) fun h' aa sb=>?_;have I1:Inv X pins σ H { s with heap:=h',toks:=s.toks+1 }:=I.turned (t':=s.toks+1) (fun b o hb e=>(sb.2 b hb).trans e) f0 f1 f3 f4 f5;obtain ⟨o,e,c,d⟩:=id aa;exact ⟨_,rfl,Yz (s:={ s with heap:=h',toks:=s.toks+1 }) e c d (by decide) ⟨.str ⟨#[x.cps[i]]⟩,H,I1,⟨_,rfl⟩,⟨rfl,_,by simp [hg],rfl⟩,aa,fun b hb=>(hf b hb).1⟩⟩
 done:=by
  intro X hP hw hK hc i pins s σ H E I hf st hg;subst hP hw hK;have hg:x.cps.size<=i:=hg;obtain ⟨f0,f1,f2,f3,f4,f5⟩:=hf it (by simp);exact wpAny_pyNext_ascii_end (I.ok.hd hc) st (by simp [hg]) fun h' eb=>⟨rfl,I.turned (t':=s.toks) (fun b o hb e=>eb b o hb e) f0 f1 f3 f4 f5⟩
 self:=fun _ _ _ _ _ st h=>wpAny_pyIter_striter_ascii st h
def signs (x:Str):List T:=x.cps.toList.map fun c=>.str ⟨#[c]⟩
noncomputable def Gg (a:M T):M (List T):=fun s=>match a s with
 | some (.str x,s1)=>if x.length<lim/\x.cps.all (· < 128)=true then some (signs x,s1) else none
 | _=>none
section
variable {X:Cx} {B:Bas} {tg iter:Expr} {m:M T}
theorem agp {K:PySem.W.Frag} {S:Hp} {as:List Addr} {H:Hp} {x:Str} (sub:Same S H):Hu K S as H (ag3 x) (signs x) where
 go:=fun i t e=>by
  unfold signs at e;rw [jD] at e
  have hi:i<x.cps.size:=by
   rcases Nat.lt_or_ge i x.cps.size with h | h
   ·exact h
   ·rw [List.getElem?_eq_none (by rw [jQ]; exact h)] at e; cases e
  refine ⟨hi,fun v H' y=>⟨S,by rw [y.1]; exact Ext.refl sub,?_⟩⟩;obtain ⟨_,c,hc,rfl⟩:=y;rw [mH,hc] at e;cases e;exact .str _
 stop:=fun i hi=>by
  unfold signs at hi;rw [hZ,jQ] at hi;exact hi
theorem Vd (h:PE X iter (tOf X.K B m)):PI X tg iter (iOf X.K B (Gg m)):=by
 intro pins s σ H R I hw;obtain ⟨st,ps,S,as,Rl,ts,aa,e,hz,q⟩:=hw;unfold Gg at e;split at e
 ·rename_i x s1 e1;split at e
  ·rename_i hl;cases e;refine thn (h pins s σ H _ I ⟨st,ps,S,as,Rl,_,_,e1,fun v H1 S1 af R1=>(⟨S1,af,R1⟩:∃ S1 af,Rel X.K B aa σ H1 ((v,.str x)::ps) S1 af)⟩) fun v s1 z0=>?_;obtain ⟨y,H1,I1,r1,S1,af,R1⟩:=z0;have top:=R1.top;cases top;obtain ⟨t,rfl⟩:=r1;refine wpAny_pyIter_ascii hl.2 ?_;refine ⟨s1.heap.objs.size,[s1.heap.objs.size],_,_,H1,rfl,I1.kept (t':=s1.toks) fun b o e=>ix _ e,a4g x t _,⟨_,iI _ rfl,rfl,rfl⟩,fun b hb=>?_,q _ H1 S1 af [(.str x,.str x)] R1 fun S2 aB H2 hp hh=>agp hh⟩;have e:b=s1.heap.objs.size:=by simpa using hb
   subst e;exact I1.a9c (ic _) (I1.hok.fresh (ic _))
  ·cases e
 ·cases e
theorem Uu {m:M T}:∀ st ts aa,Gg m st=some (ts,aa)->ts.length<=sizeLine:=fun st ts aa e=>by
 unfold Gg at e;split at e
 ·split at e
  ·rename_i hl;cases e;unfold signs;rw [hZ,jQ];exact ip (iK hl.1) lg
  ·cases e
 ·cases e
end
noncomputable def ae4:List T->Option T
 | [.str x]=>if x.length<=640 then (intText? x).map .int else none
 | _=>none
section
variable {X:Cx}
theorem Xe:Rg X (.type "int") ae4:=by
 intro pins s σ H xs us Q I rs z8;obtain ⟨S,as,ts,w,sub,hr,hf,q⟩:=z8;cases hr with
 | nil=>exact j8 hf
 | @cons x t cx ts' h1 h2 =>
  cases h2 with
  | cons h3 h4=>cases h1 <;> exact j8 hf
  | nil =>
   cases h1 <;> first | exact j8 hf | skip
   obtain ⟨u,rfl,ru⟩:=rs.one;obtain ⟨t,rfl⟩:=ru;rename_i x;have eh:(if x.length<=640 then (intText? x).map T.int else none)=some w:=hf;split at eh
   ·rename_i hl;obtain ⟨n,hn,rfl⟩:=iO.mp eh;exact PySem.W.KIN.call_text hn hl ⟨.int n,H,I.tok _,⟨_,rfl⟩,q _ H S (Ext.refl sub) (.int _)⟩
   ·cases eh
end
noncomputable def Ks (f g:T->T->Option T) (a b c:M T):M T:=fun s=>match a s with
 | some (x,s1)=>match b s1 with
  | some (y,s2)=>match f x y with
   | some (.bl true)=>(match c s2 with
    | some (z,s3)=>(match g y z with
     | some w=>some (w,s3)
     | none=>none)
    | none=>none)
   | some (.bl false)=>some (.bl false,s2)
   | _=>none
  | none=>none
 | none=>none
theorem X6 {f g:T->T->Option T} {a b c:M T} {s s':Sta} {w:T} (h:Ks f g a b c s=some (w,s')):∃ x s1 y s2,a s=some (x,s1)/\b s1=some (y,s2) /\
  ((f x y=some (.bl true)/\∃ z,c s2=some (z,s')/\g y z=some w)\/(f x y=some (.bl false)/\w=.bl false/\s'=s2)):=by
 unfold Ks at h;split at h
 ·rename_i x s1 e1;split at h
  ·rename_i y s2 e2;split at h
   ·rename_i e3;split at h
    ·rename_i z s3 e4;split at h
     ·rename_i w' e5;cases h;exact ⟨x,s1,y,s2,e1,e2,.inl ⟨e3,z,e4,e5⟩⟩
     ·cases h
    ·cases h
   ·rename_i e3;cases h;exact ⟨x,s1,y,_,e1,e2,.inr ⟨e3,rfl,rfl⟩⟩
   ·cases h
  ·cases h
 ·cases h
section
variable {X:Cx} {B:Bas} {a b c:Expr} {m1 m2 m3:M T} {pos:Pos} {op bX:CmpOp} {f g:T->T->Option T}
theorem a5b {σ:L2.St} {H:Hp} {Q:VK} (h:tOf X.K B (Ks f g m1 m2 m3) σ H Q):a7e (r2 X.K f) (r2 X.K g) (tOf X.K B m1) (tOf X.K B m2) (tOf X.K B m3) σ H Q:=by
 obtain ⟨st,ps,S,as,R,t,aa,e,q⟩:=h;obtain ⟨x,s1,y,s2,e1,e2,e3⟩:=X6 e;refine ⟨st,ps,S,as,R,x,s1,e1,fun v H1 S1 af R1=>⟨s1,_,S1,af,R1,y,s2,e2,fun u H2 S2 aB R2=>?_⟩⟩;rcases e3 with ⟨f1,z,f2,f3⟩ | ⟨f1,rfl,rfl⟩
 ·refine ⟨S2,aB,x,y,_,R2.sub,R2.top2,R2.top,f1,fun w H3 S3 xt r=>⟨true,by cases r; rfl,a1l ?_⟩⟩;have R3:=R2.ext xt;refine ⟨s2,_,S3,aB,R3,z,aa,f2,fun w4 H4 S4 cX R4=>?_⟩;exact ⟨S4,cX,y,z,t,R4.sub,R4.top2,R4.top,f3,fun w5 H5 S5 x5 r5=>q w5 H5 S5 cX ((R4.drop.drop.drop.ext x5).push r5)⟩
 ·exact ⟨S2,aB,x,y,_,R2.sub,R2.top2,R2.top,f1,fun w H3 S3 xt r=>⟨false,by cases r; rfl,Zw (q _ H3 S3 aB ((R2.drop.drop.ext xt).push (.bl _)))⟩⟩
theorem a75 (ho:OpT X (compareOp op) f) (a5:OpT X (compareOp bX) g) (ha:PE X a (tOf X.K B m1)) (hb:PE X b (tOf X.K B m2)) (hc:PE X c (tOf X.K B m3)) (hm:lastMarks [op,bX] [b,c]=false:=by with_unfolding_all rfl) :
  PE X (.Compare a [op,bX] [b,c] pos) (tOf X.K B (Ks f g m1 m2 m3)):=(a68 ho a5 ha hb hc hm).imp fun σ H Q h=>a5b h
end
section
variable {X:Cx}
end
end C
end
section
namespace L2
open PySem PySem.Spec
open Sem (wp)
open Builtin
end L2
namespace C
open PySem PySem.Spec PyProof.Rows L2
section
variable {X:Cx} {B:Bas} {a b:Expr} {m1 m2:M T} {pos:Pos}
end
end C
end
section
namespace C
open PySem PySem.Spec PyProof.Rows L2 Builtin Builtin.Str
noncomputable def cutAt (c:Nat):List Nat->List (List Nat)
 | []=>[[]]
 | a::r=>if a=c then []::cutAt c r else match cutAt c r with
  | []=>[[a]]
  | p::q=>(a::p)::q
def Ru (l:List Nat):Str:=⟨l.toArray⟩
noncomputable def Cq:T->T->Option T
 | .str x,.str y=>if y.cps.size=1/\x.length<lim then some (.lst ((cutAt (y.cps.toList.headD 0) x.cps.toList).map fun p=>.str (Ru p))) else none
 | _,_=>none
theorem a4u (c:Nat) (l:List Nat):cutAt c l≠[]:=by
 cases l with
 | nil=>exact iV _ _
 | cons a r =>
  unfold cutAt;split
  ·exact iV _ _
  ·split <;> exact iV _ _
theorem Mu {c:Nat}:∀ {p:List Nat},c∉p->cutAt c p=[p]
 | [],_=>rfl
 | a::r,h=>by
  have h1:¬ a=c:=fun z=>h (z ▸ ie);unfold cutAt;rw [hV h1,Mu (fun z=>h (ij _ z))]
theorem U7 {c:Nat} {r:List Nat}:∀ {p:List Nat},c∉p->cutAt c (p++c::r)=p::cutAt c r
 | [],_=>by
  show cutAt c (c::r)=_
  conv=>lhs; unfold cutAt
  rw [hU rfl]
 | a::p,h=>by
  have h1:¬ a=c:=fun z=>h (z ▸ ie);show cutAt c (a::(p++c::r))=_
  conv=>lhs; unfold cutAt
  rw [hV h1,U7 (fun z=>h (ij _ z))]
theorem T3 (c:Nat):∀ l:List Nat,(cutAt c l).length<=l.length+1
 | []=>ic _
 | a::r=>by
  have ih:=T3 c r;unfold cutAt;split
  ·simp only [List.length_cons]; omega
  ·split
   ·simp
   ·rename_i p q e;rw [e] at ih;simp only [List.length_cons] at ih ⊢;omega
theorem Ry (a b:Str):(a++b).cps.toList=a.cps.toList++b.cps.toList:=by
 show (a.cps++b.cps).toList=_;rw [Array.toList_append]
theorem Hg {c:Nat}:∀ {l:List Str},l≠[]->(∀ p∈l,c∉p.cps.toList)->(cutAt c (Str.join ⟨#[c]⟩ l).cps.toList).map Ru=l
 | [],h,_=>absurd rfl h
 | [x],_,h=>by
  rw [Str.join,Mu (h x ie)];simp only [List.map_cons,List.map_nil,Ru,Array.toArray_toList]
 | x::y::r,_,h=>by
  have ih:=Hg (c:=c) (l:=y::r) (iV _ _) (fun p hp=>h p (ij _ hp));rw [Str.join]
  ·rw [Ry,Ry];show (cutAt c ((x.cps.toList++[c])++_)).map Ru=_;rw [jR,List.singleton_append,U7 (h x ie),iL,ih];simp only [Ru,Array.toArray_toList]
  all_goals simp
theorem a4a (x y:Str):Txt.split x y≠[]:=by
 unfold Txt.split;split
 ·exact iV _ _
 ·split
  ·exact iV _ _
  ·rw [StrLaws.partsBetween_eq];cases occurrences x y 0 x.length (x.length+1) <;> exact iV _ _
theorem Qg (x:Str) (c:Nat):Txt.split x ⟨#[c]⟩=(cutAt c x.cps.toList).map Ru:=by
 have h:=Hg (c:=c) (a4a x ⟨#[c]⟩) (StrLaws.split_free x c);rw [StrLaws.join_split] at h;exact h.symm
theorem Q5 {K:PySem.W.Frag} {S:Hp} {as:List Addr}:∀ L:List (List Nat),qb K S as (L.map fun l=>V.str (Ru l)) (L.map fun p=>T.str (Ru p))
 | []=>.nil
 | _::L=>.cons (.str _) (Q5 L)
section
variable {X:Cx} {B:Bas} {a b:Expr} {m1 m2:M T} {pos:Pos}
theorem a6y:MtR X "str.split" (fun x xs H Q=>∃ s c,x=.str s/\xs=[.str ⟨#[c]⟩]/\s.length<lim/\∀ p,H p=none->Q (.ref p) (upd H p (.lst ((cutAt c s.cps.toList).map fun l=>.str (Ru l))))):=by
 intro pins s σ H x xs v us Q I rx rv h;obtain ⟨sx,c,rfl,rfl,hl,q⟩:=h;obtain ⟨t,rfl⟩:=rx;obtain ⟨u,rfl,ru⟩:=rv.one;obtain ⟨tu,rfl⟩:=ru;have hy:((⟨#[c]⟩:Str).length==0)=false:=rfl;have hx:sx.length<=sizeLine:=ip (iK hl) lg
 have hz:((Txt.split sx ⟨#[c]⟩).map V.str).length<=sizeLine:=by
  rw [Qg,hZ,hZ];refine ip (T3 c _) ?_;rw [jQ];exact ip (show sx.length+1<=lim from hl) lg
 have e:((cutAt c sx.cps.toList).map fun l=>V.str (Ru l))=(Txt.split sx ⟨#[c]⟩).map V.str:=by
  rw [Qg,ko]; rfl
 rw [e] at q
 have goal:∀ (l:List (Str × Tok)) (tk:Nat),l.map (·.1)=Txt.split sx ⟨#[c]⟩->EP X pins σ Q (.ref s.heap.objs.size) { s with toks:=tk,heap:=s.heap.push { cls:=.type "list",data:=.seq (strValues l).toArray } }:=by
  intro l tk hl
  have hv:Vals ((Txt.split sx ⟨#[c]⟩).map V.str) (strValues l):=by
   rw [<- hl];clear hl
   induction l with
   | nil=>exact .nil
   | cons p l ih=>exact .cons ⟨_,rfl⟩ ih
  exact ⟨.ref s.heap.objs.size,_,I.laid (t':=tk) (fun _ _ q=>ix _ q) (ic _) (show vq X.prog X.w _ _ _ (.lst ((Txt.split sx ⟨#[c]⟩).map V.str)) from ⟨hz,_,0,hv,iI _ rfl⟩),rfl,q _ (I.hok.fresh (ic _))⟩
 cases h1:(decide (sx.length<(⟨#[c]⟩:Str).length)||decide (strKind sx<strKind ⟨#[c]⟩))
 ·cases hf:(occurrences sx ⟨#[c]⟩ 0 sx.length (sx.length+1)).isEmpty
  ·refine call_meets mO (typeIs_str _ _ _) mP (mQ _ _) (meets_str_split_sep sx ⟨#[c]⟩ t tu h1 hy hf hx ?_) ?_
   ·have e2:Txt.split sx ⟨#[c]⟩=partsBetween sx (occurrences sx ⟨#[c]⟩ 0 sx.length (sx.length+1)) (⟨#[c]⟩:Str).length:=(hV (ne_true_of_eq_false h1)).trans (hV (ne_true_of_eq_false hf));rw [<- e2];rw [hZ] at hz;exact hz
   ·rw [strsFrom_eq];exact goal _ _ ((numbered_texts _ _).trans ((hV (ne_true_of_eq_false h1)).trans (hV (ne_true_of_eq_false hf))).symm)
  ·exact call_meets mO (typeIs_str _ _ _) mP (mQ _ _) (meets_str_split_not_found sx ⟨#[c]⟩ t tu h1 hy hf) (goal [(sx,t)] s.toks ((hV (ne_true_of_eq_false h1)).trans (hU hf)).symm)
 ·exact call_meets mO (typeIs_str _ _ _) mP (mQ _ _) (meets_str_split_cannot_occur sx ⟨#[c]⟩ t tu h1) (goal [(sx,t)] s.toks (hU h1).symm)
theorem Gs {apos ay:Pos} (h1:PE X a (tOf X.K B m1)) (h2:PE X b (tOf X.K B m2))
  (aP:attributeBase a "split" X.env (eval a X.env)=eval a X.env:=by rfl)
  (b6:((backTo ay (starEach [b] X.env)).all (fun x=>!x.1)&&(backToKw ay (keywordEach [] X.env)).all (fun x=>x.1.isSome)
   && decide (([b]:List Expr).length+([]:List Keyword).length+(if ([]:List Keyword).isEmpty then 0 else 1)<30))=true:=by rfl)
  (aT:(apos.endLine==ay.line)=true:=by rfl) (hs:starEach [b] X.env=(false,eval b X.env)::starEach [] X.env:=by rfl) (aU:(backTo ay (starEach [] X.env)).any (·.1)=false:=by rfl) :
  PE X (.Call (.Attribute a "split" apos) [b] [] ay) (tOf X.K B (mOp Cq m1 m2)) :=
 (Ie PySem.F.plainAttrs_str PySem.F.slot_str_split PySem.F.type_str_split a6y h1 (lu h2 su hs) aP b6 aT hs aU).imp fun σ H Q z9=>by
  obtain ⟨st,ps,S,as,R,t,aa,ev,q⟩:=z9;obtain ⟨t1,s1,t2,e1,e2,e3⟩:=Ko ev;unfold Cq at e3;split at e3
  ·rename_i x y;split at e3
   ·rename_i hc;cases e3;obtain ⟨hy,hl⟩:=hc
    obtain ⟨c,rfl⟩:∃ c,y=⟨#[c]⟩:=by
     obtain ⟨⟨l⟩⟩:=y
     match l,hy with
     | [c],_=>exact ⟨c,rfl⟩
    refine ⟨st,ps,S,as,R,_,s1,e1,fun v H1 S1 af R1=>?_⟩;have tp:=R1.top;cases tp;refine ⟨rfl,s1,_,S1,af,R1,_,aa,e2,fun v2 H2 S2 aB R2=>?_⟩;have eJ:=R2.top;cases eJ;refine ⟨x,c,rfl,rfl,hl,fun p hp=>?_⟩;have y:=Ext.laid R2.sub hp (.lst ((cutAt c x.cps.toList).map fun l=>V.str (Ru l)));refine q _ _ _ _ ((R2.drop.drop.ext y).push (.lst (SqL.of dj) ?_));exact Q5 _
   ·cases e3
  ·cases e3
end
end C
end
section
namespace L2
open PySem PySem.Spec PyProof.Rows
section
variable {X:Cx} {scope:Scope} {N:List Str}
variable {tg iter elt:Expr} {pos:Pos} {g:TG} {te:TE}
theorem a6b {Ex:XK} {wi:TI} (xa:XA X Ex) (sc:Fp X scope N) (calm:X.calm=true) (hi:PI X tg iter wi)
  (hg:∀ C s₀ H₀ ex pn,PG (kj X scope N C s₀ H₀ ex pn) tg g) (he:∀ C s₀ H₀ ex pn,PE ((kj X scope N C s₀ H₀ ex pn).wish (xeX (kj X scope N C s₀ H₀ ex pn) Ex)) elt te)
  (hs:∀ x,foldedSetIterable iter X.env x=pure x:=by intro _; rfl):PE X (.ListComp elt [⟨tg,iter,[],0⟩] scope pos) (ae1 X scope N wi g te):=by
 intro pins s σ H Q I h;rw [eval_ListComp];refine mJ (use:=none) rfl hs (Di sc.has) sc.kind sc.names ?_;refine iT (hi pins s σ H _ I h) (fun x ax a8=>iT a8 (fun b9 az bR=>?_) fun _ _ e=>e) fun _ _ e=>e;obtain ⟨it,fp,tn,J,H1,rfl,I2,T,aQ,f2,q⟩:=bR;refine Uq (Ex:=Ex) (RR:=fun acc C=>compPost (model X.prog X.w) X.A X.xe none (EP X pins σ Q) acc C) sc calm xa.hst xa.hfr hg he I2 T aQ f2 q ?_ ?_
 ·intro D ah H3 ag H' s' I3 f3 I' qn;obtain ⟨m,hn,_⟩:=I'.loc;exact ⟨m,hn,fun h' bC=>⟨.ref D,H',J6 I3 f3 I' bC,rfl,qn⟩⟩
 ·intro D' ah H3 ag H' s' a C dx Tb fl I3 f3 I' x ha hT za zT hE;obtain ⟨m,hn,_⟩:=I'.loc;obtain ⟨ne,⟨vs,ga,v1⟩,o,ts,gT,dT,t3⟩:=id x;have n1:a≠ah.heap.objs.size:=(I'.Fq ga rfl).1;have n2:Tb≠ah.heap.objs.size:=(I'.Fq gT dT).1;refine ⟨m,hn,fun h' bC a9 _=>?_⟩;have IX:Inv X pins σ H' { s' with heap:=h' }:=J6 I3 f3 I' bC;have oa:∀ b,ah.heap.objs.size<=b->Off X pins b:=fun b hb=>I3.off hb;have x':XAt h' a C dx Tb fl:=⟨ne,⟨vs,bC.extBut _ _ n1 ga,v1⟩,o,ts,bC.extBut _ _ n2 gT,dT,t3⟩;unfold PySem.passOn;refine hJ (iH (s:={ s' with heap:=h' }) (bC.extBut _ _ n1 ga) rfl v1 ?_);rw [hV (show ¬ ((Value.ref Tb==Value.none)=true) from by simp)];refine hJ (X7 (s:={ s' with heap:=h' }) _ x' fun h2 cL k2 x2=>?_);refine wpAny_throw ?_;have fQ:=(IX.noted (h':=h2) (k2.mono (fun _ z=>nomatch z) (fun _ z=>z)) (fun b hb=>by rw [ik.mp hb]; exact hT) (fun b hb=>by rw [ik.mp hb]; exact oa _ zT)).Fy (pins':=[]) (fun p hp=>nomatch hp);have o0:∀ b,ah.heap.objs.size<=b->Off X [] b:=fun b hb=>(I3.Fy (pins':=[]) (fun p hp=>nomatch hp)).off hb;exact xa.go σ H' _ a C dx Tb cL fQ x2 ha hT (o0 _ za) (o0 _ zT) hE
end
end L2
namespace C
open PySem PySem.Spec PyProof.Rows L2
section
variable {X:Cx} {scope:Scope} {N:List Str}
variable {B:Bas} {nv:Nat} {aw:List Nat} {g:G} {it:M (List T)} {e:MX} {tg iter elt:Expr} {pos:Pos} {Cl:Addr} {f:Str} {E:XK}
theorem Sv (xa:XA X E) (co:aag X scope N nv aw) (sc:Fp X scope N) (calm:X.calm=true) (hi:PI X tg iter (iOf X.K B it)) (bB:∀ st ts aa,it st=some (ts,aa)->ts.length<=sizeLine)
  (hg:∀ C s₀ H₀ ex pn,PG (kj X scope N C s₀ H₀ ex pn) tg (gE X.K g))
  (he:∀ C s₀ H₀ ex pn,PE ((kj X scope N C s₀ H₀ ex pn).wish (xeX (kj X scope N C s₀ H₀ ex pn) E)) elt (eX X.K Cl f E e))
  (hs:∀ x,foldedSetIterable iter X.env x=pure x:=by intro _; rfl):PE X (.ListComp elt [⟨tg,iter,[],0⟩] scope pos) (Ky X.K B Cl f E (G7 nv aw g it e)) :=
 (a6b xa sc calm hi hg he hs).imp fun σ H Q z9=>by
  obtain ⟨st,ps,S,as,R,v,aa,ev,q⟩:=z9;obtain ⟨ts,s1,r,s2,e1,e2,zr,rfl⟩:=Wr ev;refine ⟨st,ps,S,as,R,ts,s1,e1,bB _ _ _ e1,fun J H1 S1 af a6 R1 facts=>?_⟩;obtain ⟨S2,R2⟩:=R1.jq aw;refine Y7 co.len (fun _ _ _ _=>trivial) co.at' R2 (fun k hk=>G3 aw s1.env k hk) (fun S as H _ _=>facts S as H) e2 ?_;cases r with
  | inl us =>
   subst zr;intro Dd H' S' av R' o n;obtain ⟨S3,R3⟩:=(R'.pick fun p hp=>js _ hp).give o n;exact q _ H' S3 av R3
  | inr x =>
   subst zr;exact fun v dx H' S' av R' hd=>q v dx H' S' av (((R'.pick (ps2:=ps) fun p hp=>ij _ (js _ hp))).push R'.top) hd
end
noncomputable def Bp (o:M T):M T:=fun s=>match o s with
 | some (.obj n,s1)=>(match s1.sto[n]? with
  | some (.lst xs)=>some (.tup xs,s1)
  | _=>none)
 | _=>none
noncomputable def Eu (o v:M T):S:=fun s=>match o s with
 | some (.obj n,s0)=>(match s0.sto[n]? with
  | some (.lst _)=>(match v s0 with
   | some (t,s1)=>(match s1.sto[n]? with
    | some (.lst xs)=>if xs.length<lim then some (.next,{ s1 with sto:=s1.sto.set n (.lst (xs++[t])) }) else none
    | _=>none)
   | none=>none)
  | _=>none)
 | _=>none
noncomputable def O1 (j:Nat):M T:=fun s=>match s.env[j]? with
 | some (some (.lst xs,true))=>(match xs[xs.length - 1]? with
  | some t=>some (t,jz j (.lst xs.dropLast) true s)
  | none=>none)
 | _=>none
def Mt:List T->Option T
 | [.int i,.int j]=>some (.int (if j<i then j else i))
 | _=>none
noncomputable def a9b (g:T->Option T) (a:MX):MX:=fun s=>match a s with
 | some (.inl x,s1)=>(match g x with
  | some w=>some (.inl w,s1)
  | none=>none)
 | some (.inr x,s1)=>some (.inr x,s1)
 | none=>none
section
variable {X:Cx}
end
section
variable {X:Cx} {B:Bas} {a b c e o k:Expr} {m mo mk mv m1 m2:M T} {pos p:Pos}
theorem Qt (hg:Gl X "tuple") (hm:X.mg "tuple" = none) (ho:PE X o (tOf X.K B mo)) (he:starEach [o] X.env=(false,eval o X.env)::starEach [] X.env:=by rfl) (aN:(backTo pos (starEach [] X.env)).any (·.1)=false:=by rfl) :
  PE X (.Call (.Name "tuple" p) [o] [] pos) (tOf X.K B (Bp mo)):=(jg Dp hg hm (by rfl) (lu ho su he) (by decide) (by decide) he aN).imp fun σ H Q z9=>by
 obtain ⟨st,ps,S,as,R,t,aa,ev,q⟩:=z9;unfold Bp at ev;split at ev
 ·rename_i n s1 e1;split at ev
  ·rename_i xs e2;cases ev;refine ⟨st,ps,S,as,R,_,_,e1,fun v H1 S1 af R1=>?_⟩;have t1:=R1.top;cases t1 with
   | @obj _ a ha =>
    obtain ⟨a',h1,h2,vs,h3,h4⟩:=R1.sto.at' n _ e2;rw [ha] at h1; cases h1;refine ⟨a,vs,rfl,.inl ⟨SqL.of h3,fun l hl=>?_⟩⟩;have y:=Ext.laid R1.sub hl (.tup vs);exact q _ _ _ _ ((R1.drop.ext y).push (.tup (SqT.of dj) (h4.mono y.s nol)))
  ·cases ev
 ·cases ev
theorem Wz {st:Stmt} (h:PS X st (Xj (tBM X.K "list" K9 (tOf X.K B mo) (J3 (tOf X.K B mv) a3q)))):PS X st (sOf X.K B (Eu mo mv)):=h.imp fun D σ H z9=>by
 obtain ⟨st,ps,S,as,R,fl,aa,e,q⟩:=z9;unfold Eu at e;split at e
 ·rename_i n s0 e0;split at e
  ·rename_i ys ey;split at e
   ·rename_i t s1 e1;split at e
    ·rename_i xs e2;obtain ⟨hl,e⟩:=Bw e;cases e;refine ⟨st,ps,S,as,R,_,s0,e0,fun v0 H0 S0 gu R0=>?_⟩;have tp:=R0.top;cases tp with
     | @obj _ a0 ha0 =>
      obtain ⟨a0',l0,_,vs0,l1,_⟩:=R0.sto.at' n _ ey;rw [ha0] at l0; cases l0;refine ⟨.inl ⟨rfl,_,SqL.of l1⟩,s0,_,S0,gu,R0,_,s1,e1,fun v H1 S1 af R1=>?_⟩;have t2:=R1.top2;cases t2 with
      | @obj _ a2 ha2 =>
       obtain ⟨a',k1,k2,vs,k3,k4⟩:=R1.sto.at' n _ e2;rw [ha2] at k1; cases k1;exact ⟨_,vs,v,rfl,rfl,k3,by rw [k4.length]; exact iD hl lg,q _ _ S1 af (R1.drop.drop.Ot e2 ha2 ⟨_,dj,k4.append (.cons R1.top .nil)⟩)⟩
    ·cases e
   ·cases e
  ·cases e
 ·cases e
theorem a95 (j:Nat) (h:PE X e (afo X.K "list" afe (Y8 j))):PE X e (tOf X.K B (O1 j)):=h.imp fun σ H Q z9=>by
 obtain ⟨st,ps,S,as,R,t,aa,ev,q⟩:=z9;unfold O1 at ev;split at ev
 ·rename_i xs e2;split at ev
  ·rename_i t e3;cases ev;obtain ⟨w,h1,_,h3⟩:=R.slots j _ true e2;obtain ⟨p0,rfl,ow⟩:=h3 rfl;obtain ⟨vs,hH,h4⟩:=ow.own;obtain ⟨y,hy,ry⟩:=h4.get e3;have c9:vs[vs.length - 1]? = some y:=by rw [h4.length]; exact hy
   have R2:=R.turn (ob:=.lst vs.dropLast) (t':=.lst xs.dropLast) e2 h1 ⟨_,dj,h4.dropLast⟩;exact ⟨_,h1,.inl ⟨rfl,_,SqL.of hH⟩,p0,vs,y,rfl,rfl,hH,c9,q _ _ S as (R2.push ry)⟩
  ·cases ev
 ·cases ev
theorem Hz (hc:X.calm=true):Rg X (.builtin "min") Mt:=by
 intro pins s σ H xs us Q I rs z8;obtain ⟨S,as,ts,w,sub,hr,hf,q⟩:=z8;cases hr with
 | nil=>exact j8 hf
 | @cons x t cx ts' h1 h2 =>
  cases h2 with
  | nil=>cases h1 <;> exact j8 hf
  | @cons y u xs2 ts2 h3 h4 =>
   cases h4 with
   | cons h5 h6=>cases h1 <;> cases h3 <;> exact j8 hf
   | nil =>
    cases h1 with
    | int i =>
     cases h3 with
     | int j =>
      cases hf;exact Yy hc pins s σ H _ us Q I rs ⟨i,j,rfl,q _ H S (Ext.refl sub) (.int _)⟩
     | _=>exact j8 hf
    | _=>exact j8 hf
end
section
variable {X:Cx} {B:Bas} {a:Expr} {mx:MX} {pos:Pos} {Cl:Addr} {f:Str} {E:XK} {g:T->Option T}
theorem afx {op:UnaryOp} (ho:UnT X (unaryOp op) g) (ha:PE X a (Ky X.K B Cl f E mx)):PE X (.UnaryOp op a pos) (Ky X.K B Cl f E (a9b g mx)):=(aah ho ha).imp fun σ H Q z9=>by
 obtain ⟨st,ps,S,as,R,r,aa,e,q⟩:=z9;unfold a9b at e;split at e
 ·rename_i x s1 e1;split at e
  ·rename_i w e2;cases e;exact ⟨st,ps,S,as,R,_,_,e1,fun v H1 S1 af R1=>⟨S1,af,x,w,R1.sub,R1.top,e2,fun w H3 S3 x r=>q w H3 S3 af ((R1.drop.ext x).push r)⟩⟩
  ·cases e
 ·rename_i x s1 e1;cases e;exact ⟨st,ps,S,as,R,_,_,e1,q⟩
 ·cases e
theorem Nh {ms:MXs} {h:List T->Option T} {e:Expr} (hp:PE X e (tCB (rL X.K h) (abe X.K B Cl f E ms))):PE X e (Ky X.K B Cl f E (Bb h ms)) :=
 hp.imp fun σ H Q z9=>by
  obtain ⟨st,ps,S,as,R,r,aa,e,q⟩:=z9;obtain ⟨ra,e1,e2⟩:=Pr e;rcases e2 with ⟨ts,t,rfl,e3,rfl⟩ | ⟨x,rfl,rfl⟩
  ·exact ⟨st,ps,S,as,R,_,aa,e1,fun vs H1 S1 af R1 rs=>⟨S1,af,ts,t,R1.sub,rs,e3,fun v H2 S2 x r=>q v H2 S2 af ((R1.ext x).push r)⟩⟩
  ·exact ⟨st,ps,S,as,R,_,aa,e1,q⟩
end
section
variable {K:PySem.W.Frag} {B:Bas} {f:Str} {i:Nat} {mb:S} {Cl:Addr}
end
section
variable {X:Cx} {B:Bas} {e:Expr} {es:List Expr} {ms:M (List T)} {pos p q1 q2 aM:Pos} {k:Nat} {a Cl:Addr} {f x:Str} {fd:FuncData} {pn:List Str} {F:FnX} {h₀:ExceptHandler} {hs:List ExceptHandler} {th:Addr->TS} {i:Nat} {mb:S}
end
def Ih (lo:Int) (n:Nat):List T:=(List.range n).map fun (k:Nat)=>.int (lo+(k:Int) * 6)
noncomputable def Dz (a b c:M T):M (List T):=fun s=>match a s with
 | some (.int lo,s1)=>match b s1 with
  | some (.int hi,s2)=>match c s2 with
   | some (.int d,s3)=>if d=6/\lo.natAbs<lim/\hi.natAbs<lim then some (Ih lo ((hi - lo+5) / 6).toNat,s3) else none
   | _=>none
  | _=>none
 | _=>none
theorem Jq {a b c:M T} {ts:List T} {s s':Sta} (h:Dz a b c s=some (ts,s')):∃ (lo hi:Int) (s1 s2:Sta),a s=some (.int lo,s1)/\b s1=some (.int hi,s2)/\c s2=some (.int 6,s')/\(-1000000<lo/\lo<1000000/\-1000000<hi/\hi<1000000)/\ts=Ih lo ((hi - lo+5) / 6).toNat:=by
 unfold Dz at h;split at h
 ·rename_i lo s1 e1;split at h
  ·rename_i hi s2 e2;split at h
   ·rename_i d s3 e3;split at h
    ·rename_i hl; cases h;obtain ⟨hd,h1,h2⟩:=hl;subst hd;exact ⟨lo,hi,s1,s2,e1,e2,e3,by have h1:lo.natAbs<1000000:=h1; have h2:hi.natAbs<1000000:=h2; omega,rfl⟩
    ·cases h
   ·cases h
  ·cases h
 ·cases h
theorem Uh {lo:Int} {n i:Nat} {t:T} (h:(Ih lo n)[i]? = some t):i<n/\t=.int (lo+(i:Int) * 6):=by
 unfold Ih at h;rw [jD] at h;cases z:(List.range n)[i]? with
 | none=>rw [z] at h; cases h
 | some k =>
  rw [z] at h; cases h;obtain ⟨hi,e⟩:=iE.mp z;rw [List.getElem_range] at e; subst e;rw [jH] at hi;exact ⟨hi,rfl⟩
theorem a0e {m1 m2 m3:M T}:∀ st ts aa,Dz m1 m2 m3 st=some (ts,aa)->ts.length<=sizeLine:=fun st ts aa e=>by
 obtain ⟨lo,hi,s1,s2,_,_,_,hl,rfl⟩:=Jq e;unfold Ih;rw [hZ,jH,sizeLine_eq];omega
def It6 (lo:Int) (n:Nat):It:=⟨fun i _=>i<n,fun i H x H'=>H'=H/\x=.int (lo+i * 6),fun i _=>n<=i⟩
theorem a3x {P:Program} {w:World} {K:PySem.W.Frag} {tg:Expr} (it:Addr) (lo:Int) (n:Nat):Turn P w K tg (It6 lo n) [it] it (fun i h=>IsRangeIter h it (lo+(i:Nat) * 6) ((n:Int) - (i:Nat)) 6) where
 mem:=ik.mpr rfl
 obj:=fun i h st b hb=>by
  have e:b=it:=ik.mp hb;subst e
  exact ⟨_,st,fun v z=>by
   have z2:Data.fields _=Data.cell v:=z;cases z2⟩
 keep:=fun i h h' st k=>k it (ik.mpr rfl) _ st
 item:=by
  intro X hP hw hK hc i pins s σ H E I hf st hg;subst hP hw hK;obtain ⟨f0,f1,f2,f3,f4,f5⟩:=hf it (ik.mpr rfl);have W:=Walks.range (prog:=X.prog) (w:=X.w) (I.ok.hd hc) it lo 6 n;refine W.item i s _ _ hg st fun v h2 tk hv aQ kk=>?_;obtain ⟨t,rfl⟩:=hv;have I1:Inv X pins σ H { s with heap:=h2,toks:=tk }:=I.turned (fun b o hb e=>kk b o (by simpa using hb) e) f0 f1 f3 f4 f5;refine ⟨_,rfl,Yz (s:={ s with heap:=h2,toks:=tk }) (n := "range_iterator") aQ rfl rfl (by decide) ⟨.int (lo+i * 6),H,I1,⟨t,?_⟩,⟨rfl,rfl⟩,aQ,fun b hb=>(hf b hb).1⟩⟩;rfl
 done:=by
  intro X hP hw hK hc i pins s σ H E I hf st hg;subst hP hw hK;obtain ⟨f0,f1,f2,f3,f4,f5⟩:=hf it (ik.mpr rfl);exact wpAny_pyNext_range_end (I.ok.hd hc) st (by have:n<=i:=hg; omega) fun h2 eb=>⟨rfl,I.turned (t':=s.toks) (fun b o hb e=>eb b o hb e) f0 f1 f3 f4 f5⟩
 self:=fun _ _ _ _ _ st h=>wpAny_pyIter_rangeiter st h
theorem Gv (a b:Int):Builtin.Range.rangeSize a b 6=if a<b then (b - a - 1) / 6+1 else 0:=by
 unfold Builtin.Range.rangeSize;rw [hU (by decide)]
theorem a2l {a b:Int} (h1:-1000000<a) (h2:a<1000000) (h3:-1000000<b) (h4:b<1000000):Builtin.Range.small a b 6=true:=by
 unfold Builtin.Range.small;rw [Gv];unfold Builtin.Range.rangeFitsLong;split <;> simp <;> omega
section
variable {X:Cx} {tg:Expr}
theorem ade {pins:List (Addr × Obj)} {σ:L2.St} {H:Hp} {s:Shared} {R:It->Hp->Prop} {E:Value->Shared->Prop} {lo hi:Int} {t u v:Tok} {tk:Nat} (I:Inv X pins σ H s) (hb:-1000000<lo/\lo<1000000/\-1000000<hi/\hi<1000000)
  (q:R (It6 lo ((hi - lo+5) / 6).toNat) H):wpAny (model X.prog X.w) X.A (pyIter (.ref s.heap.objs.size)) (PIE X pins σ tg R) E { s with heap:=s.heap.push { cls:=.type "range",data:=.fields #[.int lo t,.int hi u,.int 6 v] },toks:=tk }:=by
 refine wpAny_pyIter_range (IsRange.new ..) (a2l hb.1 hb.2.1 hb.2.2.1 hb.2.2.2) ?_;have I1:Inv X pins σ H { s with heap:=s.heap.push { cls:=.type "range",data:=.fields #[.int lo t,.int hi u,.int 6 v] },toks:=tk }:=I.kept fun b o e=>ix _ e
 refine ⟨_,[_],_,_,H,rfl,
  I1.kept (t':=tk) fun b o e=>ix _ e,a3x _ lo ((hi - lo+5) / 6).toNat,?_,fun b hb=>?_,q⟩
 ·have e1:lo+((0:Nat):Int) * 6=lo:=by omega
  have e2:((((hi - lo+5) / 6).toNat:Nat):Int) - ((0:Nat):Int)=Builtin.Range.rangeSize lo hi 6:=by rw [Gv]; split <;> omega
  show IsRangeIter _ _ (lo+((0:Nat):Int) * 6) (((((hi - lo+5) / 6).toNat:Nat):Int) - ((0:Nat):Int)) 6;rw [e1,e2];exact iI _ rfl
 ·have e:=ik.mp hb;subst e;exact I1.a9c (ic _) (I1.hok.fresh (ic _))
noncomputable def aez (ta:TA):TI:=fun σ H R=>ta σ H fun vs H1=>∃ i j:Int,vs=[.int i,.int j,.int 6]/\(-1000000<i/\i<1000000/\-1000000<j/\j<1000000)/\R (It6 i ((j - i+5) / 6).toNat) H1
theorem Xi (x:Int):Builtin.divisionGoesByPylong x 6=false:=by
 unfold Builtin.divisionGoesByPylong;exact Bool.and_eq_false_imp.mpr fun h=>absurd (of_decide_eq_true h) (by decide)
theorem a0s {a b c:Expr} {ta:TA} {p pos:Pos} (hg:Gl X "range") (hm:X.mg "range" = none) (ha:PA X [a,b,c] ta) (hs:starEach [a,b,c] X.env=(false,eval a X.env)::starEach [b,c] X.env:=by rfl) (aR:(backTo pos (starEach [b,c] X.env)).any (·.1)=false:=by rfl) :
  PI X tg (.Call (.Name "range" p) [a,b,c] [] pos) (aez ta):=by
 intro pins s σ H R I h;refine Call_ (Mg I hg hm boot_range (lG (thn (ha pos pins s σ H _ I h) fun us s1 z0=>?_) hs aR));obtain ⟨vs,H1,I1,r1,q1⟩:=z0;obtain ⟨i,j,e,hb,q⟩:=q1;subst e;cases r1 with
 | cons r rr =>
  cases rr with
  | cons r2 rr =>
   cases rr with
   | cons r3 rr =>
    cases rr;obtain ⟨t,rfl⟩:=r;obtain ⟨t2,rfl⟩:=r2;obtain ⟨t3,rfl⟩:=r3;exact call_range_3 (by decide) (ade (tk:=s1.toks) I1 hb q) (.inl (Xi _))
end
section
variable {X:Cx} {B:Bas} {a b c tg:Expr} {m1 m2 m3:M T} {pos p:Pos}
theorem a2y (hg:Gl X "range") (hm:X.mg "range" = none) (h1:PE X a (tOf X.K B m1)) (h2:PE X b (tOf X.K B m2)) (h3:PE X c (tOf X.K B m3)) (hs:starEach [a,b,c] X.env=(false,eval a X.env)::starEach [b,c] X.env:=by rfl) (aR:starEach [b,c] X.env=(false,eval b X.env)::starEach [c] X.env:=by rfl) (dM:starEach [c] X.env=(false,eval c X.env)::starEach [] X.env:=by rfl) (hp:(backTo pos (starEach [b,c] X.env)).any (·.1)=false:=by rfl) :
  PI X tg (.Call (.Name "range" p) [a,b,c] [] pos) (iOf X.K B (Dz m1 m2 m3)):=by
 intro pins s σ H R I hw;refine a0s (ta:=J3 (tOf X.K B m1) (J3 (tOf X.K B m2) (J3 (tOf X.K B m3) a3q))) hg hm (lu h1 (lu h2 (lu h3 su dM) aR) hs) hs hp pins s σ H R I ?_;obtain ⟨st,ps,S,as,Rl,ts,aa,e,hz,q⟩:=hw;obtain ⟨lo,hi,s1,s2,e1,e2,e3,hl,rfl⟩:=Jq e;refine ⟨st,ps,S,as,Rl,_,_,e1,fun v H1 S1 af R1=>⟨s1,_,S1,af,R1,_,_,e2,fun u H2 S2 aB R2=>⟨s2,_,S2,aB,R2,_,_,e3,fun x H3 S3 aK R3=>?_⟩⟩⟩;have t3:=R3.top;have t2:=R3.top2;have t1:=R3.drop.top2;cases t3;cases t2;cases t1;refine ⟨lo,hi,rfl,by omega,q _ H3 S3 aK [] R3.drop.drop.drop fun S3 aK H3 _ hh=>⟨fun i t e=>?_,fun i hj=>?_⟩⟩
 ·obtain ⟨hi,rfl⟩:=Uh e;refine ⟨hi,fun x H' y=>⟨S3,by rw [y.1]; exact Ext.refl hh,?_⟩⟩;have:=y.2; subst this;exact .int _
 ·show ((hi - lo+5) / 6).toNat<=i;unfold Ih at hj
  rwa [hZ,jH] at hj
end
end C
end
section
namespace L2
open PySem PySem.Spec PyProof.Rows
theorem Cj.afy {k:Nat} {A:Around} (r:Cj k A):A.units+160<cLine:=by have:=r.un; omega
end L2
namespace C
open PySem PySem.Spec PyProof.Rows L2
noncomputable def Dh:List T->Option T
 | [.int i]=>if i.natAbs.log2<1920 then some (.str (toString i)) else none
 | [.str x]=>some (.str x)
 | _=>none
noncomputable def a7b:T->T->Option T
 | .int i,.int j=>if 0<=j/\(Builtin.Int.intBits i:Int) * j<=2 ^ 27 then some (.int (i ^ j.toNat)) else none
 | _,_=>none
noncomputable def aac (a b:T):Option Bool:=match dat a with
 | some x=>(match dat b with
  | some y=>if x.depth<=150 then some (PyData.eqv x y) else none
  | none=>none)
 | none=>none
def eqZ (a b:T):Option T:=(aac a b).map .bl
def neZ (a b:T):Option T:=(aac a b).map fun e=>.bl (!e)
theorem a4e {t u:T} {b:Bool} (h:aac t u=some b):∃ x y,dat t=some x/\dat u=some y/\x.depth<=150/\b=PyData.eqv x y:=by
 unfold aac at h;split at h
 ·rename_i x ex;split at h
  ·rename_i y ey;split at h
   ·rename_i hd; cases h; exact ⟨x,y,ex,ey,hd,rfl⟩
   ·cases h
  ·cases h
 ·cases h
noncomputable def a7i (f:T->T->Option T) (o e:M T):M T:=fun s=>match o s with
 | some (.obj n,s1)=>(match e s1 with
  | some (u,s2)=>(match s2.sto[n]? with
   | some (.lst xs)=>(match f (.lst xs) u with
    | some (.bl b)=>some (.bl b,s2)
    | _=>none)
   | _=>none)
  | none=>none)
 | _=>none
noncomputable def Hy (o:M T):M T:=fun s=>match o s with
 | some (.obj n,s1)=>(match s1.sto[n]? with
  | some (.lst _)=>some (.bl true,s1)
  | _=>none)
 | _=>none
noncomputable def Hv (i:Nat) (e:MX):SX:=fun s=>match s.env[i]? with
 | some (some (.obj n,false))=>(match s.sto[n]? with
  | some (.lst _)=>(match e s with
   | some (.inl t,s1)=>(match s1.sto[n]? with
    | some (.lst xs)=>if xs.length<lim then some (.inl .next,{ s1 with sto:=s1.sto.set n (.lst (xs++[t])) }) else none
    | _=>none)
   | some (.inr x,s1)=>some (.inr x,s1)
   | none=>none)
  | _=>none)
 | _=>none
section
variable {X:Cx}
theorem mj:Rg X (.type "str") Dh:=by
 intro pins s σ H xs us Q I rs z8;obtain ⟨S,as,ts,w,sub,hr,hf,q⟩:=z8;cases hr with
 | nil=>exact j8 hf
 | @cons x t cx ts' h1 h2 =>
  cases h2 with
  | cons h3 h4=>cases h1 <;> exact j8 hf
  | nil =>
   obtain ⟨u,rfl,ru⟩:=rs.one;cases h1 with
   | int i =>
    obtain ⟨t,rfl⟩:=ru;obtain ⟨hz,hf⟩:=Bw hf;cases hf;exact PySem.P.str_of_int hz ⟨.str _,H,I.tok _,⟨_,rfl⟩,q _ H S (Ext.refl sub) (.str _)⟩
   | str x =>
    obtain ⟨t,rfl⟩:=ru;cases hf;exact PySem.P.str_of_str ⟨.str _,H,I,⟨_,rfl⟩,q _ H S (Ext.refl sub) (.str _)⟩
   | _=>exact j8 hf
theorem Vr:OpT X (binaryOp .Pow) a7b:=by
 intro pins s σ H x y v u Q I rx ry z8;obtain ⟨S,as,t,t2,w,sub,ht,hu,hf,q⟩:=z8;cases ht <;> first | exact j8 hf | skip
 cases hu <;> first | exact j8 hf | skip
 rename_i i j;obtain ⟨tx,rfl⟩:=rx;obtain ⟨ty,rfl⟩:=ry;obtain ⟨hc,hf⟩:=Bw hf;cases hf;exact pow_int hc.1 hc.2 ⟨.int _,H,I.tok _,⟨_,rfl⟩,q _ H S (Ext.refl sub) (.int _)⟩
theorem Uz {op:CmpOp} {neg:Bool} (cq:(op=.Eq/\neg=false)\/(op=.NotEq/\neg=true)) {g:T->T->Option T} (hg:∀ t u w,g t u=some w->∃ b,aac t u=some b/\w=.bl (xor neg b)) (hu:X.A.units+160<cLine):OpT X (compareOp op) g:=by
 intro pins s σ H x y v u Q I rx ry z8;obtain ⟨S,as,t,t2,w,sub,ht,hu2,hf,q⟩:=z8;obtain ⟨b,e,rfl⟩:=hg _ _ _ hf;have fin:EP X pins σ Q (.bool (xor neg b)) s:=⟨.bl (xor neg b),H,I,rfl,q _ H S (Ext.refl sub) (.bl _)⟩;obtain ⟨dx,dy,e1,e2,hd,rfl⟩:=a4e e;obtain ⟨b1,x1⟩:=ht.reads I sub e1 rx;obtain ⟨b2,x2⟩:=hu2.reads I sub e2 ry;have hm:X.A.units+min dx.depth dy.depth<cLine:=by have:=Nat.min_le_left dx.depth dy.depth; omega
 rcases cq with ⟨rfl,rfl⟩ | ⟨rfl,rfl⟩
 ·exact SeqAt.compareEq_reads x1 x2 (yu _ e1) (yu _ e2) hm (by simpa using fin)
 ·exact SeqAt.compareNe_reads x1 x2 (yu _ e1) (yu _ e2) hm (by simpa using fin)
theorem aa4 (hu:X.A.units+160<cLine):OpT X (compareOp .Eq) eqZ:=Uz (.inl ⟨rfl,rfl⟩) (fun t u w h=>by
 obtain ⟨b,e1,e2⟩:=iO.mp h;exact ⟨b,e1,by rw [<- e2]; simp⟩) hu
theorem a0z (hu:X.A.units+160<cLine):OpT X (compareOp .NotEq) neZ:=Uz (.inr ⟨rfl,rfl⟩) (fun t u w h=>by
 obtain ⟨b,e1,e2⟩:=iO.mp h;exact ⟨b,e1,by rw [<- e2]; simp⟩) hu
end
section
variable {X:Cx} {B:Bas} {a b c e o:Expr} {m mo m1 m2:M T} {pos p:Pos}
theorem Vb {f:T->T->Option T} {σ:L2.St} {H:Hp} {Q:VK} (h:tOf X.K B (a7i f m1 m2) σ H Q):tOp (r2 X.K f) (tOf X.K B m1) (tOf X.K B m2) σ H Q:=by
  obtain ⟨st,ps,S,as,R,t,aa,ev,q⟩:=h;unfold a7i at ev;split at ev
  ·rename_i n s1 e1;split at ev
   ·rename_i u s2 e2;split at ev
    ·rename_i xs e3;split at ev
     ·rename_i k e4;cases ev;refine ⟨st,ps,S,as,R,_,s1,e1,fun v H1 S1 af R1=>⟨s1,_,S1,af,R1,_,_,e2,fun u2 H2 S2 aB R2=>?_⟩⟩;have t1:=R2.top2;cases t1 with
      | @obj _ a0 ha =>
       obtain ⟨a',h1,h2,vs,h3,h4⟩:=R2.sto.at' n _ e3;rw [ha] at h1; cases h1;have sm:Same S2 (upd S2 a0 (.lst vs)):=Same.upd h2 _
       have sub:Same (upd S2 a0 (.lst vs)) H2:=fun b o q=>by
        by_cases z:b=a0
        ·subst z; rw [dj] at q; cases q; exact h3
        ·rw [gw z] at q; exact R2.sub _ _ q
       refine ⟨upd S2 a0 (.lst vs),aB,.lst xs,u,.bl k,sub,.lst (SqL.of dj) (h4.mono sm nol),R2.top.mono sm nol,e4,fun w H3 S3 x r=>?_⟩;cases r;exact q _ H3 S2 aB ((R2.drop.drop.ext ⟨Same.refl _,x.h,R2.sub.trans x.h,fun _ z=>.inl z⟩).push (.bl _))
     ·cases ev
    ·cases ev
   ·cases ev
  ·cases ev
theorem aap {op:CmpOp} {f:T->T->Option T} (ho:OpT X (compareOp op) f) (ha:PE X a (tOf X.K B m1)) (hb:PE X b (tOf X.K B m2)) (hm:behindInMarks op b=false):PE X (.Compare a [op] [b] pos) (tOf X.K B (a7i f m1 m2)) :=
 (a2e ho ha hb hm).imp fun σ H Q h=>Vb h
theorem a93 {op:CmpOp} {f:T->T->Option T} (ho:OpT X (compareOp op) f) (ha:PE X a (tOf X.K B m1)) (hb:PE X b (tOf X.K B m2)) (hm:behindInMarks op b=false):PT X (.Compare a [op] [b] pos) (cOf X.K B (cu (a7i f m1 m2))) :=
 Ib ((a0b ho ha hb hm).imp fun σ H Q h=>Vb h)
theorem a2v {pc:Pos} (hg:Gl X "isinstance") (hm:X.mg "isinstance" = none) (bV:Gl X "list") (b7:X.mg "list" = none) (ha:PE X a (tOf X.K B mo))
  (he:starEach [a,.Name "list" pc] X.env=(false,eval a X.env)::starEach [.Name "list" pc] X.env:=by rfl) (ez:starEach [.Name "list" pc] X.env=(false,eval (.Name "list" pc) X.env)::starEach [] X.env:=by rfl) (aN:(backTo pos (starEach [.Name "list" pc] X.env)).any (·.1)=false:=by rfl) :
  PE X (.Call (.Name "isinstance" p) [a,.Name "list" pc] [] pos) (tOf X.K B (Hy mo)):=by
 have hc:Jj X (.builtin "isinstance") (fun xs H Q=>∃ p ys,xs=[.ref p,.ty "list"]/\SqL X.K H p ys/\Q (.bl true) H):=by
  intro pins s σ H xs us Q I rs z8;obtain ⟨p,ys,ex,hq,q⟩:=z8;subst ex;obtain ⟨u,w,rfl,r1,r2⟩:=rs.two;cases r2;cases r1;obtain ⟨its,_,⟨o,n,h1,h2,_⟩,_⟩:=I.list hq;exact jB lH I.kIn ⟨o,h1,h2⟩ (by rfl) (fun z=>nomatch z) fun tk=>⟨.bl true,H,I.tok _,rfl,q⟩
 have eB:PE X (.Name "list" pc) (tC (.ty "list")):=a0r bV b7 boot_list rfl (by decide) (by decide);refine (jc hc hg hm mY (lu ha (lu eB su ez) he) (by decide) (by decide) he aN).imp fun σ H Q z0=>?_;obtain ⟨st,ps,S,as,R,t,aa,ev,q⟩:=z0;unfold Hy at ev;split at ev
 ·rename_i n s1 e1;split at ev
  ·rename_i xs e2;cases ev;refine ⟨st,ps,S,as,R,_,_,e1,fun v H1 S1 af R1=>?_⟩;have t1:=R1.top;cases t1 with
   | @obj _ a0 ha0 =>
    obtain ⟨a',h1,h2,vs,h3,h4⟩:=R1.sto.at' n _ e2;rw [ha0] at h1; cases h1;exact ⟨_,vs,rfl,SqL.of h3,q _ H1 S1 af (R1.drop.push (.bl _))⟩
  ·cases ev
 ·cases ev
variable {mv:MX} {Cl:Addr} {f:Str} {E:XK}
theorem a0l (i:Nat) {st:Stmt} (h:PS X st (Xj (tBM X.K "list" K9 (Y8 i) (J3 (Ky X.K B Cl f E mv) a3q)))):PS X st (Le X.K B Cl f E (Hv i mv)):=h.imp fun D σ H z9=>by
 obtain ⟨st,ps,S,as,R,fl,aa,e,q⟩:=z9;unfold Hv at e;split at e
 ·rename_i n e0;split at e
  ·rename_i ys ey;obtain ⟨w,h1,h2,_⟩:=R.slots i _ false e0;have r0:=h2 rfl;cases r0 with
   | @obj _ a ha =>
    obtain ⟨a0,l0,_,vs0,l1,_⟩:=R.sto.at' n _ ey;rw [ha] at l0; cases l0;split at e
    ·rename_i t s1 e1;split at e
     ·rename_i xs e2;obtain ⟨hl,e⟩:=Bw e;cases e;refine ⟨_,h1,.inl ⟨rfl,_,SqL.of l1⟩,st,(.ref a,.obj n)::ps,S,as,R.push (h2 rfl),_,s1,e1,fun v H1 S1 af R1=>?_⟩;have t2:=R1.top2;cases t2 with
      | @obj _ a2 ha2 =>
       obtain ⟨a',k1,k2,vs,k3,k4⟩:=R1.sto.at' n _ e2;rw [ha2] at k1; cases k1;exact ⟨a,vs,v,rfl,rfl,k3,by rw [k4.length]; exact iD hl lg,q _ _ S1 af (R1.drop.drop.Ot e2 ha2 ⟨_,dj,k4.append (.cons R1.top .nil)⟩)⟩
     ·cases e
    ·rename_i t s1 e1;cases e;exact ⟨_,h1,.inl ⟨rfl,_,SqL.of l1⟩,st,ps,S,as,R,_,_,e1,fun v dx H1 S1 af R1 hd=>q v dx σ H1 S1 af R1 hd⟩
    ·cases e
  ·cases e
 ·cases e
end
end C
end
section
namespace L2
open PySem PySem.Spec PyProof.Rows
section
variable {prog:Program} {w:World} {A:Around} {E:Value->Shared->Prop} {s:Shared} {a kS:Addr} {vs:List Value} {kz:List Int} {P:PySem.Fin->Shared->Prop} {keys:Array Value} {e e1:Nat}
end
section
variable {X:Cx} {pins:List (Addr × Obj)} {σ:St} {H:Hp} {s:Shared} {E:Value->Shared->Prop} {l:Addr} {Q:VK} {vs:List Value} {kz:List Int} {f:Value} {kw:List (Str × Value)}
end
end L2
end
section
namespace C
open PySem PySem.Spec PyProof.Rows L2
section
variable {X:Cx} {B:Bas} {e:Expr} {m:M T} {pos p q dS:Pos} {x y pn:Str} {F:Fn} {k:Nat}
end
section
variable {X:Cx} {B:Bas} {k o e:Expr} {mk mo mx:M T} {pos:Pos}
end
end C
end
section
namespace K
open C PySem
noncomputable def Hi:Fn:=v8 1
 (xg (yd (Ep (cu (Ks leT leT (ak (.int 1)) (gq Ax (aj (au 0) cj)) (ak (.int 8)))) (cu (yd (Ep (cu (mOp inS (mOp dw (au 0) (ak (.int 0))) (ak (.str "abcdefghijklmnopqrstuvwxyz")))) (cu (yd (Ep (cu (gq a9r (aj (qm 1 [] (hName 0) (Gg (au 0)) p7 (mOp inS (au 0) (ak (.str "abcdefghijklmnopqrstuvwxyz0123456789")))) cj))) (cu (mOp Og (au 0) (ak (.tup [(.str "box"),(.str "lock"),(.str "hand"),(.str "own"),(.str "end"),(.str "set"),(.str "wait"),(.str "if"),(.str "else"),(.str "while"),(.str "rounds"),(.str "either"),(.str "or"),(.str "and"),(.str "not"),(.str "take"),(.str "give"),(.str "label"),(.str "say"),(.str "at"),(.str "divides"),(.str "true"),(.str "false")])))))))))))))
noncomputable def Dl:Fn:=v8 1
 (nj (sIf (mOr (cu (mOp eqO (au 0) (ak (.str "")))) (Mi (cu (gq a9r (aj (qm 1 [] (hName 0) (Gg (au 0)) p7 (mOp inS (au 0) (ak (.str "0123456789")))) cj)))))
 (xg (ak (.bl false)))
 Ce)
 (xg (yd (mOr (cu (mOp eqO (au 0) (ak (.str "0")))) (cu (mOp neO (mOp dw (au 0) (ak (.int 0))) (ak (.str "0"))))))))
noncomputable def Bq:Fn:=v8 1
 (xg (mOp yp (ak (.str " ")) (qm 1 [] (hName 0) (Bg (au 0)) p7 (gq Dh (aj (au 0) cj)))))
noncomputable def qj:Fn:=v8 1
 (xg (mOp uo (mOp uo (mOp yp (ak (.str ",")) (qm 1 [] (hName 0) (Bg (yr (au 0) ou (qe (mUn Ey (ak (.int 1)))))) p7 (gq Dh (aj (au 0) cj)))) (ak (.str "*"))) (gq Dh (aj (mOp dw (au 0) (mUn Ey (ak (.int 1)))) cj))))
noncomputable def ug:Fn:=v8 2
 (nj (sIf (cu (mOp eqO (mOp dw (au 0) (ak (.int 0))) (ak (.str "or"))))
 (nq 1 (gq (fun l=>some (.lst l)) (aj (ak (.str "or")) (aj (gq Dh (aj (mOp dw (au 0) (ak (.int 1))) cj)) (aj (gq Dh (aj (gq Ax (aj (mOp dw (au 0) (ak (.int 2))) cj)) cj)) cj)))))
 (sIf (cu (mOp eqO (mOp dw (au 0) (ak (.int 0))) (ak (.str "cut"))))
 (nq 1 (gq (fun l=>some (.lst l)) (aj (ak (.str "cut")) (aj (mOp dw (au 0) (ak (.int 1))) (aj (gq Dh (aj (mOp dw (au 0) (ak (.int 2))) cj)) cj)))))
 (sIf (cu (mOp eqO (mOp dw (au 0) (ak (.int 0))) (ak (.str "sum"))))
 (nq 1 (mOp uo (gq (fun l=>some (.lst l)) (aj (ak (.str "sum")) cj)) (qm 1 [] (hName 0) (Bg (mOp dw (au 0) (ak (.int 1)))) p7 (f9 qj (aj (au 0) cj)))))
 (nq 1 (mOp uo (gq (fun l=>some (.lst l)) (aj (ak (.str "rest")) (aj (gq Dh (aj (mOp dw (au 0) (ak (.int 1))) cj)) cj))) (qm 1 [] (hName 0) (Bg (mOp dw (au 0) (ak (.int 2)))) p7 (f9 qj (aj (au 0) cj))))))))
 (xg (mOp yp (ak (.str " ")) (au 1))))
noncomputable def ig:Fn:=v8 1
 (nj (sIf (cu (mOp eqO (mOp dw (au 0) (ak (.int 0))) (ak (.str "or"))))
 (xg (mOp dw (au 0) (ak (.int 2))))
 Ce)
 (xg (mIf (cu (mOp eqO (mOp dw (au 0) (ak (.int 0))) (ak (.str "cut")))) (yr (au 0) (qe (ak (.int 3))) ou) (gq (fun l=>some (.tup l)) cj))))
noncomputable def Aa:Fn:=v8 4
 (nj (sNew 1 (gq (fun l=>some (.lst l)) cj))
 (nj (sNew 2 (gq (fun l=>some (.lst l)) (aj (au 0) cj)))
 (nj (uc 6000 (cu (mOp gtT (yq 2) (ak (.int 0))))
 (nj (a9f 2 3)
 (nj (n6 1 (f9 ug (aj (au 3) cj)))
 (Ai 2 (mUn abf (f9 ig (aj (au 3) cj)))))))
 (xg (au 1)))))
noncomputable def Ba:Fn:=v8 4
 (nj (sNew 1 (gq (fun l=>some (.lst l)) cj))
 (nj (U9 (a81 [2,3]) (Bg (au 0))
 (nj (n6 1 (f9 Bq (aj (au 2) cj)))
 (Ai 1 (f9 Aa (aj (au 3) cj)))))
 (xg (mOp yp (ak (.str "\n")) (au 1)))))
noncomputable def v7 (cR cN:Nat):Fn:=v8 2
 (nj (Bh cR "rows" (au 0) (mIf (cu (mOp eqO (au 1) (ak (.str "")))) (gq (fun l=>some (.lst l)) cj) (mOp Cq (au 1) (ak (.str "\n")))))
 (Bh cR "number" (au 0) (ak (.int 0))))
noncomputable def je (cR cN:Nat):FnX:=uw 1
 (zu (lx (Bh cR "number" (au 0) (mOp uo (Lf cR "number" (au 0)) (ak (.int 1)))))
 (zu (xIf (cu (mOp gtT (Lf cR "number" (au 0)) (gq Mt (aj (gq Ax (aj (Lf cR "rows" (au 0)) cj)) (aj (ak (.int 5000)) cj)))))
 (Km (Lf cR "number" (au 0)))
 (lx Ce))
 (lx (xg (mOp Cq (mOp dw (Lf cR "rows" (au 0)) (mOp a1a (Lf cR "number" (au 0)) (ak (.int 1)))) (ak (.str " ")))))))
def dg (cR cN:Nat):FnX:=uw 2
 (xIf (Mi (cu (au 1)))
 (Km (Lf cR "number" (au 0)))
 (lx Ce))
noncomputable def iy (cR cN:Nat):FnX:=uw 4
 (zu (Bo (oh cR "need_that" (dg cR cN) (au 0) (iz (Fg (yd (Ep (cu (f9 Dl (aj (au 1) cj))) (cu (mOp leT (gq Ax (aj (au 1) cj)) (ak (.int 400))))))) pq)))
 (zu (lx (nq 3 (gq ae4 (aj (au 1) cj))))
 (zu (Bo (oh cR "need_that" (dg cR cN) (au 0) (iz (Fg (mOp geT (au 3) (au 2))) pq)))
 (lx (xg (au 3))))))
noncomputable def Bl (cR cN:Nat):FnX:=uw 2
 (zu (Bo (oh cR "need_that" (dg cR cN) (au 0) (iz (Fg (f9 Hi (aj (au 1) cj))) pq)))
 (lx (xg (au 1))))
noncomputable def Cr (cR cN:Nat):FnX:=uw 3
 (zu (Kw 1 (oh cR "next_words" (je cR cN) (au 0) pq))
 (zu (xIf (cu (mOp eqO (mOp dw (au 1) (ak (.int 0))) (ak (.str "start"))))
 (zu (Bo (oh cR "need_that" (dg cR cN) (au 0) (iz (Fg (mOp eqO (gq Ax (aj (au 1) cj)) (ak (.int 2)))) pq)))
 (P0 (Bb (fun l=>some (.tup l)) (iz (Fg (ak (.str "start"))) (iz (j9 (Bl cR cN) (aj (au 0) (aj (mOp dw (au 1) (ak (.int 1))) cj))) pq)))))
 (lx Ce))
 (zu (xIf (cu (mOp eqO (mOp dw (au 1) (ak (.int 0))) (ak (.str "own"))))
 (zu (Bo (oh cR "need_that" (dg cR cN) (au 0) (iz (Fg (mOp eqO (gq Ax (aj (au 1) cj)) (ak (.int 2)))) pq)))
 (P0 (Bb (fun l=>some (.tup l)) (iz (Fg (ak (.str "own"))) (iz (j9 (iy cR cN) (aj (au 0) (aj (mOp dw (au 1) (ak (.int 1))) (aj (ak (.int 0)) cj)))) pq)))))
 (lx Ce))
 (zu (Bo (oh cR "need_that" (dg cR cN) (au 0) (iz (Fg (yd (Ep (cu (mOp eqO (mOp dw (au 1) (ak (.int 0))) (ak (.str "other")))) (cu (mOp eqO (gq Ax (aj (au 1) cj)) (ak (.int 4))))))) pq)))
 (zu (Kw 2 (j9 (iy cR cN) (aj (au 0) (aj (mOp dw (au 1) (ak (.int 1))) (aj (ak (.int 0)) cj)))))
 (P0 (Bb (fun l=>some (.tup l)) (iz (Fg (ak (.str "other"))) (iz (Fg (au 2)) (iz (j9 (Bl cR cN) (aj (au 0) (aj (mOp dw (au 1) (ak (.int 2))) cj))) (iz (j9 (iy cR cN) (aj (au 0) (aj (mOp dw (au 1) (ak (.int 3))) (aj (ak (.int 0)) cj)))) pq)))))))))))
noncomputable def J8 (cR cN:Nat):FnX:=uw 2
 (zu (Bo (j9 (Bl cR cN) (aj (au 0) (aj (mIf (cu (mOp eqO (qy (au 1) ou (qe (ak (.int 1)))) (ak (.str "@")))) (qy (au 1) (qe (ak (.int 1))) ou) (au 1)) cj))))
 (lx (xg (au 1))))
noncomputable def vm (cR cN:Nat):FnX:=uw 2
 (zu (xIf (cu (mOp neO (qy (au 1) ou (qe (ak (.int 1)))) (ak (.str "-"))))
 (P0 (j9 (iy cR cN) (aj (au 0) (aj (au 1) (aj (ak (.int 0)) cj)))))
 (lx Ce))
 (P0 (a9b Ey (j9 (iy cR cN) (aj (au 0) (aj (qy (au 1) (qe (ak (.int 1))) ou) (aj (ak (.int 1)) cj)))))))
noncomputable def Fb (cR cN:Nat):FnX:=uw 5
 (zu (lx (nq 2 (mOp Cq (au 1) (ak (.str "*")))))
 (zu (Bo (oh cR "need_that" (dg cR cN) (au 0) (iz (Fg (mOp eqO (gq Ax (aj (au 2) cj)) (ak (.int 2)))) pq)))
 (zu (lx (nq 3 (mOp Cq (mOp dw (au 2) (ak (.int 0))) (ak (.str ",")))))
 (zu (Kw 4 (j9 (vm cR cN) (aj (au 0) (aj (mOp dw (au 2) (ak (.int 1))) cj))))
 (zu (Bo (oh cR "need_that" (dg cR cN) (au 0) (iz (Fg (yd (Ep (cu (mOp leT (gq Ax (aj (au 3) cj)) (ak (.int 2)))) (cu (mOp neO (au 4) (ak (.int 0))))))) pq)))
 (P0 (a7m uo (Bb zp (iz (G7 1 [0] (hName 0) (Bg (au 3)) (j9 (iy cR cN) (aj (au 1) (aj (au 0) (aj (ak (.int 0)) cj))))) pq)) (Fg (gq (fun l=>some (.tup l)) (aj (au 4) cj))))))))))
noncomputable def Ga (cR cN:Nat):FnX:=uw 3
 (zu (lx (nq 2 (mOp Cq (au 1) (ak (.str "*")))))
 (zu (Bo (oh cR "need_that" (dg cR cN) (au 0) (iz (Fg (mOp eqO (gq Ax (aj (au 2) cj)) (ak (.int 2)))) pq)))
 (P0 (Bb (fun l=>some (.tup l)) (iz (j9 (iy cR cN) (aj (au 0) (aj (mOp dw (au 2) (ak (.int 0))) (aj (ak (.int 0)) cj)))) (iz (j9 (iy cR cN) (aj (au 0) (aj (mOp dw (au 2) (ak (.int 1))) (aj (ak (.int 1)) cj)))) pq))))))
noncomputable def Cy (cR cN:Nat):FnX:=uw 3
 (zu (Kw 1 (oh cR "next_words" (je cR cN) (au 0) pq))
 (zu (xIf (cu (mOp eqO (mOp dw (au 1) (ak (.int 0))) (ak (.str "or"))))
 (zu (Bo (oh cR "need_that" (dg cR cN) (au 0) (iz (Fg (mOp eqO (gq Ax (aj (au 1) cj)) (ak (.int 3)))) pq)))
 (P0 (Bb (fun l=>some (.tup l)) (iz (Fg (ak (.str "or"))) (iz (j9 (iy cR cN) (aj (au 0) (aj (mOp dw (au 1) (ak (.int 1))) (aj (ak (.int 0)) cj)))) (iz (j9 (iy cR cN) (aj (au 0) (aj (mOp dw (au 1) (ak (.int 2))) (aj (ak (.int 0)) cj)))) pq))))))
 (lx Ce))
 (zu (xIf (cu (mOp eqO (mOp dw (au 1) (ak (.int 0))) (ak (.str "cut"))))
 (zu (Bo (oh cR "need_that" (dg cR cN) (au 0) (iz (Fg (mOp eqO (gq Ax (aj (au 1) cj)) (ak (.int 3)))) pq)))
 (P0 (Bb (fun l=>some (.tup l)) (iz (Fg (ak (.str "cut"))) (iz (j9 (J8 cR cN) (aj (au 0) (aj (mOp dw (au 1) (ak (.int 1))) cj))) (iz (j9 (vm cR cN) (aj (au 0) (aj (mOp dw (au 1) (ak (.int 2))) cj))) pq))))))
 (lx Ce))
 (zu (xIf (cu (mOp eqO (mOp dw (au 1) (ak (.int 0))) (ak (.str "sum"))))
 (P0 (Bb (fun l=>some (.tup l)) (iz (Fg (ak (.str "sum"))) (iz (Bb zp (iz (G7 1 [0] (hName 0) (Bg (Ao (au 1) (qe (ak (.int 1))) ou)) (j9 (Ga cR cN) (aj (au 1) (aj (au 0) cj)))) pq)) pq))))
 (lx Ce))
 (zu (Bo (oh cR "need_that" (dg cR cN) (au 0) (iz (Fg (yd (Ep (cu (mOp eqO (mOp dw (au 1) (ak (.int 0))) (ak (.str "rest")))) (cu (mOp geT (gq Ax (aj (au 1) cj)) (ak (.int 2))))))) pq)))
 (zu (Kw 2 (j9 (iy cR cN) (aj (au 0) (aj (mOp dw (au 1) (ak (.int 1))) (aj (ak (.int 2)) cj)))))
 (P0 (Bb (fun l=>some (.tup l)) (iz (Fg (ak (.str "rest"))) (iz (Fg (au 2)) (iz (Bb zp (iz (G7 1 [0] (hName 0) (Bg (Ao (au 1) (qe (ak (.int 2))) ou)) (j9 (Fb cR cN) (aj (au 1) (aj (au 0) cj)))) pq)) pq)))))))))))
noncomputable def uh:Fn:=v8 2
 (nj (sIf (cu (mOp eqO (mOp dw (au 0) (ak (.int 0))) (ak (.str "or"))))
 (xg (gq (fun l=>some (.tup l)) (aj (ak (.str "or")) (aj (mOp dw (au 0) (ak (.int 1))) (aj (au 1) cj)))))
 Ce)
 (xg (mOp uo (au 0) (au 1))))
noncomputable def u6 (cR cN:Nat):FnX:=uw 5
 (zu (lx (sNew 1 (gq (fun l=>some (.lst l)) cj)))
 (qg 6000 (cu (ak (.bl true)))
 (zu (Kw 2 (j9 (Cy cR cN) (aj (au 0) cj)))
 (zu (Bo (oh cR "need_that" (dg cR cN) (au 0) (iz (Fg (mOp ltT (yq 1) (ak (.int 90)))) pq)))
 (zu (lx (nq 3 (mIf (cu (mOp eqO (mOp dw (au 2) (ak (.int 0))) (ak (.str "or")))) (mOp dw (au 2) (ak (.int 2))) (mIf (cu (mOp eqO (mOp dw (au 2) (ak (.int 0))) (ak (.str "cut")))) (ak (.int 2)) (ak (.int 0))))))
 (zu (lx (n6 1 (gq (fun l=>some (.tup l)) (aj (au 2) (aj (au 3) (aj (Ci cj) cj))))))
 (lx (uc 6000 (cu (mOp eqO (G4 (mOp dw (zj 1 (mUn Ey (ak (.int 1)))) (ak (.int 2)))) (mOp dw (zj 1 (mUn Ey (ak (.int 1)))) (ak (.int 1)))))
 (nj (nq 4 (f9 uh (aj (mOp dw (zj 1 (mUn Ey (ak (.int 1)))) (ak (.int 0))) (aj (Bp (mOp dw (O1 1) (ak (.int 2)))) cj))))
 (nj (sIf (cu (mOp eqO (yq 1) (ak (.int 0))))
 (xg (au 4))
 Ce)
 (Eu (mOp dw (zj 1 (mUn Ey (ak (.int 1)))) (ak (.int 2))) (au 4))))))))))))
noncomputable def Dr (cR cN:Nat):FnX:=uw 4
 (zu (lx (nq 1 (Uj cR (v7 cR cN) (aj (au 0) cj))))
 (zu (lx (nq 2 (Ci cj)))
 (zu (qg 6000 (cu (mOp ltT (Lf cR "number" (au 1)) (gq Ax (aj (Lf cR "rows" (au 1)) cj))))
 (zu (Kw 3 (j9 (Cr cR cN) (aj (au 1) cj)))
 (Hv 2 (Bb (fun l=>some (.tup l)) (iz (Fg (au 3)) (iz (j9 (u6 cR cN) (aj (au 1) cj)) pq))))))
 (lx (xg (au 2))))))
def o9 (cR cN:Nat):Fn:=norm (Dr cR cN)
noncomputable def Ck:Fn:=v8 3
 (nj (nq 1 (ak (.int 0)))
 (nj (U9 (hName 2) (Bg (gq (fun l=>some (.lst l)) (aj (ak (.int 48271)) (aj (ak (.int 39373)) (aj (ak (.int 69621)) (aj (ak (.int 16807)) (aj (ak (.int 48271)) (aj (ak (.int 39373)) (aj (ak (.int 69621)) (aj (ak (.int 16807)) cj))))))))))
 (nj (nq 0 (mOp Mf (mOp uo (mOp a3n (au 0) (au 2)) (ak (.int 11))) (ak (.int 2147483647))))
 (nq 1 (mOp uo (mOp a3n (au 1) (ak (.int 2147483647))) (au 0)))))
 (xg (au 1))))
noncomputable def Cp:Fn:=v8 1
 (xg (Ci (aj (au 0) (aj (mOp uo (ak (.int 1)) (mOp Mf (au 0) (ak (.int 2147483646)))) cj))))
noncomputable def gn:Fn:=v8 3
 (nj (sIf (mOr (cu (mOp eqO (ux (au 0) (ak (.int 0))) (ak (.int 0)))) (cu (mOp eqO (ux (au 0) (ak (.int 0))) (mUn Ey (ak (.int 1))))))
 (nj (Jt (au 0) (ak (.int 1)) (mOp Mf (mOp uo (mOp a3n (ux (au 0) (ak (.int 1))) (ak (.int 48271))) (ak (.int 11))) (ak (.int 2147483647))))
 (xg (mOp Mf (mOp Ql (mOp Mf (mOp a3n (ux (au 0) (ak (.int 1))) (ak (.int 16807))) (ak (.int 2147483629))) (ak (.int 5))) (au 1))))
 Ce)
 (nj (nq 2 (mOp Mf (ux (au 0) (ak (.int 0))) (au 1)))
 (nj (Jt (au 0) (ak (.int 0)) (mOp Ql (ux (au 0) (ak (.int 0))) (au 1)))
 (xg (au 2)))))
noncomputable def jr:Fn:=v8 3
 (nj (nq 2 (f9 gn (aj (au 0) (aj (mOp dw (gq (fun l=>some (.lst l)) (aj (ak (.int 20)) (aj (mOp Xg (ak (.int 10)) (ak (.int 9))) (aj (mOp Xg (ak (.int 10)) (ak (.int 12))) cj)))) (f9 gn (aj (au 0) (aj (ak (.int 3)) cj)))) cj))))
 (nj (sIf (cu (mOp eqO (f9 gn (aj (au 0) (aj (ak (.int 5)) cj))) (ak (.int 0))))
 (nq 2 (mOp uo (mOp Xg (ak (.int 10)) (ak (.int 59))) (au 2)))
 Ce)
 (nj (sIf (Ep (cu (au 1)) (cu (mOp eqO (f9 gn (aj (au 0) (aj (ak (.int 2)) cj))) (ak (.int 1)))))
 (xg (mOp a1a (ak (.int 0)) (au 2)))
 Ce)
 (xg (au 2)))))
noncomputable def u9:Fn:=v8 3
 (nj (nq 2 (mOp uo (ak (.int 1)) (f9 jr (aj (au 0) (aj (ak (.bl false)) cj)))))
 (nj (sIf (Ep (cu (au 1)) (cu (mOp eqO (f9 gn (aj (au 0) (aj (ak (.int 2)) cj))) (ak (.int 1)))))
 (nq 2 (mOp a1a (ak (.int 0)) (au 2)))
 Ce)
 (nj (sIf (Ep (cu (au 1)) (cu (mOp eqO (f9 gn (aj (au 0) (aj (ak (.int 2)) cj))) (ak (.int 1)))))
 (xg (gq (fun l=>some (.tup l)) (aj (f9 jr (aj (au 0) (aj (ak (.bl false)) cj))) (aj (f9 jr (aj (au 0) (aj (ak (.bl false)) cj))) (aj (au 2) cj)))))
 Ce)
 (xg (gq (fun l=>some (.tup l)) (aj (f9 jr (aj (au 0) (aj (ak (.bl false)) cj))) (aj (au 2) cj)))))))
mutual
def kh:Nat->Fn
 | 0=>fun _ _=>none
 | n+1=>v8 6
   (nj (nq 2 (f9 gn (aj (au 0) (aj (ak (.int 4)) cj))))
   (nj (sIf (Ep (cu (mOp eqO (au 2) (ak (.int 0)))) (cu (mOp ltT (au 1) (ak (.int 4)))))
   (nj (nq 3 (f9 jr (aj (au 0) (aj (ak (.bl false)) cj))))
   (xg (gq (fun l=>some (.tup l)) (aj (ak (.str "or")) (aj (au 3) (aj (gq zp (aj (qm 1 [0,1] (hName 0) (Ad (f9 gn (aj (au 0) (aj (ak (.int 4)) cj)))) p7 (f9 (kh n) (aj (au 1) (aj (mOp uo (au 2) (ak (.int 1))) cj)))) cj)) cj))))))
   Ce)
   (nj (sIf (Ep (cu (mOp eqO (au 2) (ak (.int 1)))) (cu (mOp ltT (au 1) (ak (.int 4)))))
   (nj (nq 4 (mOp dw (gq (fun l=>some (.lst l)) (Rq ["x","@b2","a234567z","@x"])) (f9 gn (aj (au 0) (aj (ak (.int 4)) cj)))))
   (nj (nq 3 (f9 jr (aj (au 0) (aj (ak (.bl true)) cj))))
   (xg (gq (fun l=>some (.tup l)) (aj (ak (.str "cut")) (aj (au 4) (aj (au 3) (aj (f9 (kh n) (aj (au 0) (aj (mOp uo (au 1) (ak (.int 1))) cj))) (aj (f9 (kh n) (aj (au 0) (aj (mOp uo (au 1) (ak (.int 1))) cj))) cj)))))))))
   Ce)
   (nj (nq 5 (f9 gn (aj (au 0) (aj (ak (.int 4)) cj))))
   (nj (sIf (cu (mOp eqO (au 2) (ak (.int 2))))
   (xg (gq (fun l=>some (.tup l)) (aj (ak (.str "rest")) (aj (mOp uo (ak (.int 2)) (f9 jr (aj (au 0) (aj (ak (.bl false)) cj)))) (aj (gq zp (aj (qm 1 [0] (hName 0) (Ad (au 5)) p7 (f9 u9 (aj (au 1) (aj (ak (.bl true)) cj)))) cj)) cj)))))
   Ce)
   (xg (gq (fun l=>some (.tup l)) (aj (ak (.str "sum")) (aj (gq zp (aj (qm 1 [0] (hName 0) (Ad (au 5)) p7 (f9 u9 (aj (au 1) (aj (ak (.bl false)) cj)))) cj)) cj)))))))))
end
noncomputable def Cm:Fn:=v8 3
 (nj (nq 1 (f9 gn (aj (au 0) (aj (ak (.int 3)) cj))))
 (nj (nq 2 (mOp dw (gq (fun l=>some (.lst l)) (Rq ["x","b2","hands","own9"])) (f9 gn (aj (au 0) (aj (ak (.int 4)) cj)))))
 (nj (sIf (cu (mOp eqO (au 1) (ak (.int 0))))
 (xg (gq (fun l=>some (.tup l)) (aj (ak (.str "start")) (aj (au 2) cj))))
 Ce)
 (nj (sIf (cu (mOp eqO (au 1) (ak (.int 1))))
 (xg (gq (fun l=>some (.tup l)) (aj (ak (.str "own")) (aj (f9 gn (aj (au 0) (aj (ak (.int 100)) cj))) cj))))
 Ce)
 (xg (gq (fun l=>some (.tup l)) (aj (ak (.str "other")) (aj (f9 gn (aj (au 0) (aj (ak (.int 100)) cj))) (aj (au 2) (aj (f9 gn (aj (au 0) (aj (ak (.int 30)) cj))) cj))))))))))
noncomputable def Er:Fn:=v8 4
 (nj (sNew 1 (gq (fun l=>some (.lst l)) cj))
 (nj (U9 (hName 2) (Bg (au 0))
 (nj (nq 3 (qm 1 [] (hName 0) (Bg (yr (au 2) ou (qe (mUn Ey (ak (.int 1)))))) p7 (gq Dh (aj (au 0) cj))))
 (n6 1 (mOp uo (mOp uo (mOp uo (ak (.str " ")) (mOp yp (ak (.str ",")) (au 3))) (ak (.str "*"))) (gq Dh (aj (mOp dw (au 2) (mUn Ey (ak (.int 1)))) cj))))))
 (xg (mOp yp (ak (.str "")) (au 1)))))
mutual
def jf:Nat->Fn
 | 0=>fun _ _=>none
 | n+1=>v8 4
   (nj (sIf (cu (mOp eqO (mOp dw (au 0) (ak (.int 0))) (ak (.str "sum"))))
   (xg (gq (fun l=>some (.lst l)) (aj (mOp uo (ak (.str "sum")) (f9 Er (aj (mOp dw (au 0) (ak (.int 1))) cj))) cj)))
   Ce)
   (nj (sIf (cu (mOp eqO (mOp dw (au 0) (ak (.int 0))) (ak (.str "rest"))))
   (xg (gq (fun l=>some (.lst l)) (aj (mOp uo (mOp uo (ak (.str "rest ")) (gq Dh (aj (mOp dw (au 0) (ak (.int 1))) cj))) (f9 Er (aj (mOp dw (au 0) (ak (.int 2))) cj))) cj)))
   Ce)
   (nj (sIf (cu (mOp eqO (mOp dw (au 0) (ak (.int 0))) (ak (.str "cut"))))
   (nj (nq 1 (gq (fun l=>some (.lst l)) (aj (mOp uo (mOp uo (mOp uo (ak (.str "cut ")) (mOp dw (au 0) (ak (.int 1)))) (ak (.str " "))) (gq Dh (aj (mOp dw (au 0) (ak (.int 2))) cj))) cj)))
   (xg (mOp uo (mOp uo (au 1) (f9 (jf n) (aj (mOp dw (au 0) (ak (.int 3))) cj))) (f9 (jf n) (aj (mOp dw (au 0) (ak (.int 4))) cj)))))
   Ce)
   (nj (nq 2 (gq (fun l=>some (.lst l)) (aj (mOp uo (mOp uo (mOp uo (ak (.str "or ")) (gq Dh (aj (mOp dw (au 0) (ak (.int 1))) cj))) (ak (.str " "))) (gq Dh (aj (gq Ax (aj (mOp dw (au 0) (ak (.int 2))) cj)) cj))) cj)))
   (nj (U9 (hName 3) (Bg (mOp dw (au 0) (ak (.int 2))))
   (nq 2 (mOp uo (au 2) (f9 (jf n) (aj (au 3) cj)))))
   (xg (au 2)))))))
end
noncomputable def Bf:Fn:=v8 4
 (nj (sNew 1 (gq (fun l=>some (.lst l)) cj))
 (nj (U9 (a81 [2,3]) (Bg (au 0))
 (nj (n6 1 (mOp yp (ak (.str " ")) (qm 1 [] (hName 0) (Bg (au 2)) p7 (gq Dh (aj (au 0) cj)))))
 (sNew 1 (Fw 1 (f9 (jf 110) (aj (au 3) cj))))))
 (xg (mOp yp (ak (.str "\n")) (au 1)))))
mutual
def mq:Nat->Fn
 | 0=>fun _ _=>none
 | n+1=>v8 2
   (nj (sIf (cu (gq isTup (aj (au 1) cj)))
   (nj (sIf (mOr (Mi (cu (gq isTup (aj (au 0) cj)))) (cu (mOp neO (gq Ax (aj (au 0) cj)) (gq Ax (aj (au 1) cj)))))
   (xg (ak (.bl false)))
   Ce)
   (xg (gq a9r (aj (qm 2 [] (a81 [0,1]) (a79 (au 0) (au 1)) p7 (f9 (mq n) (aj (au 0) (aj (au 1) cj)))) cj))))
   Ce)
   (nj (sIf (cu (gq isStr (aj (au 1) cj)))
   (xg (yd (Ep (cu (gq isStr (aj (au 0) cj))) (cu (mOp eqO (au 0) (au 1))))))
   Ce)
   (xg (yd (Ep (cu (gq isInt (aj (au 0) cj))) (cu (yd (Ep (cu (yd (Mi (cu (gq adt (aj (au 0) cj)))))) (cu (mOp eqO (au 0) (au 1)))))))))))
end
noncomputable def yw (cR cN:Nat):Fn:=v8 4
 (nj (nq 1 (gq R7 (aj (au 0) cj)))
 (nj (nq 2 (f9 Bf (aj (au 0) cj)))
 (nj (sIf (mOr (cu (mOp neO (f9 Ba (aj (au 1) cj)) (au 2))) (cu (mOp neZ (au 1) (au 0))))
 (xg (ak (.bl false)))
 Ce)
 (nj (nq 3 (f9 (o9 cR cN) (aj (au 2) cj)))
 (nj (sIf (mOr (Mi (cu (Hy (au 3)))) (Mi (cu (f9 (mq 110) (aj (Bp (au 3)) (aj (gq zp (aj (au 0) cj)) cj))))))
 (xg (ak (.bl false)))
 Ce)
 (nj (Ia 3 (ak (.int 1)))
 (xg (a7i eqZ (f9 (o9 cR cN) (aj (au 2) cj)) (au 0)))))))))
noncomputable def aao (cR cN:Nat):Fn:=v8 8
 (nj (nq 1 (gq (fun l=>some (.tup l)) (aj (ak (.str "sum")) (aj (gq (fun l=>some (.tup l)) (aj (gq (fun l=>some (.tup l)) (aj (ak (.int 0)) (aj (ak (.int 1)) cj))) cj)) cj))))
 (nj (U9 (hName 2) (Ad (ak (.int 89)))
 (nq 1 (gq (fun l=>some (.tup l)) (aj (ak (.str "cut")) (aj (ak (.str "x")) (aj (au 2) (aj (gq (fun l=>some (.tup l)) (aj (ak (.str "sum")) (aj (gq (fun l=>some (.tup l)) cj) cj))) (aj (au 1) cj))))))))
 (nj (U9 (hName 2) (Ad (gq Mt (aj (ak (.int 6)) (aj (gq Ax (aj (au 0) cj)) cj))))
 (nj (nq 3 (qm 1 [0] (hName 0) (Dz (au 2) (gq Mt (aj (gq Ax (aj (au 0) cj)) (aj (ak (.int 63)) cj))) (ak (.int 6))) p7 (mOp dw (au 1) (au 0))))
 (nj (sIf (cu (mOp eqO (mOp Mf (mOp dw (au 0) (ak (.int 0))) (ak (.int 2))) (ak (.int 1))))
 (nq 3 (qm 1 [] (hName 0) (Bg (au 3)) p7 (f9 Ck (aj (au 0) cj))))
 Ce)
 (nj (sNew 4 (gq (fun l=>some (.lst l)) cj))
 (nj (U9 (hName 5) (Bg (Ao (au 3) ou (qe (ak (.int 4)))))
 (nj (nq 6 (f9 Cp (aj (mOp uo (au 5) (gq abu (aj (Ao (au 3) (qe (ak (.int 4))) ou) cj))) cj)))
 (n6 4 (gq (fun l=>some (.tup l)) (aj (f9 Cm (aj (au 6) cj)) (aj (f9 (kh 8) (aj (au 6) (aj (ak (.int 1)) cj))) cj))))))
 (sIf (Mi (cu (f9 (yw cR cN) (aj (Ir 4 (qe (mOp Mf (mOp dw (au 3) (ak (.int 0))) (ak (.int 2)))) ou) cj))))
 (xg (ak (.bl false)))
 Ce))))))
 (nj (nq 7 (gq (fun l=>some (.tup l)) (aj (ak (.str "cut")) (aj (ak (.str "x")) (aj (mOp a1a (ak (.int 0)) (mOp a7b (mOp Xg (ak (.int 10)) (ak (.int 57))) (ak (.int 7)))) (aj (gq (fun l=>some (.tup l)) (aj (ak (.str "sum")) (aj (gq (fun l=>some (.tup l)) (aj (gq (fun l=>some (.tup l)) (aj (mOp a7b (mOp Xg (ak (.int 10)) (ak (.int 57))) (ak (.int 7))) (aj (ak (.int 1)) cj))) cj)) cj))) (aj (gq (fun l=>some (.tup l)) (aj (ak (.str "sum")) (aj (gq (fun l=>some (.tup l)) cj) cj))) cj)))))))
 (nj (sIf (cu (a7i neZ (f9 (o9 cR cN) (aj (f9 Bf (aj (gq (fun l=>some (.lst l)) (aj (gq (fun l=>some (.tup l)) (aj (gq (fun l=>some (.tup l)) (aj (ak (.str "start")) (aj (ak (.str "a")) cj))) (aj (au 7) cj))) cj)) cj)) cj)) (gq (fun l=>some (.lst l)) (aj (gq (fun l=>some (.tup l)) (aj (gq (fun l=>some (.tup l)) (aj (ak (.str "start")) (aj (ak (.str "a")) cj))) (aj (au 7) cj))) cj))))
 (xg (ak (.bl false)))
 Ce)
 (xg (yd (Ep (cu (f9 (yw cR cN) (aj (gq (fun l=>some (.lst l)) cj) cj))) (cu (f9 (yw cR cN) (aj (gq (fun l=>some (.lst l)) (aj (gq (fun l=>some (.tup l)) (aj (gq (fun l=>some (.tup l)) (aj (ak (.str "own")) (aj (ak (.int 0)) cj))) (aj (au 1) cj))) cj)) cj)))))))))))
end K
end
section
namespace D
open PySem PySem.Spec PyProof.Rows L2 C
noncomputable def top (i:Nat):Stmt:=PySem.Challenge.pw_calm_k77_papers_written_and_read.main.body.getD i (.Pass ⟨0,0,0,0⟩)
noncomputable def M8 (i:Nat):Stmt->Stmt
 | .ClassDef _ _ _ b _ _ _ _ _ _ _=>b.getD i (.Pass ⟨0,0,0,0⟩)
 | s=>s
section
variable {P:Program} {w:World} {K:PySem.W.Frag} {mg:Str->Option Value} {base:Heap} {x q:Str} {st:Stmt} {N ps:List Str} {k:Nat}
def FA (K:PySem.W.Frag) (mg:Str->Option Value) (x:Str) (st:Stmt):Prop:=∃ f fd,Fun K x x st f fd/\mg x=some (.ref f)
def Bd (x q:Str) (st:Stmt) (ps:List Str):Prop:=∀ (kV doc pm:Value) (an:Option Addr) (aC ct:Value) (us:List Value),us.length=ps.length->bindArgs (PySem.W.fnOf x q (Fz st) (xu st) (j5 st) .none kV doc pm an aC ct) ⟨us,[]⟩=pure (ps.zip us)
abbrev GoB (P:Program) (w:World) (K:PySem.W.Frag) (mg:Str->Option Value) (base:Heap) (q:Str) (st:Stmt) (N:List Str) (k:Nat) (b:S):Prop:=∀ (aC:Value) (A:Around) (outer:List Env) (s:Shared) (H:Hp) (E:XK) (B:Bas) (f:Addr),Cj k (A.deeper (envOfC q (j5 st) s.heap.objs.size f aC))->(A.deeper (envOfC q (j5 st) s.heap.objs.size f aC)).units+1<cLine->(A.deeper (envOfC q (j5 st) s.heap.objs.size f aC)).units+64<cLine->N.Nodup ->
   PSs (Qc CX0 P w K mg base N q (j5 st) f aC A outer s H E).nox (xu st) (sOf K B b)
theorem go0 {b:S} {f:Addr} {fd:FuncData} (F:Fun K x q st f fd) (hb:GoB P w K mg base q st N k b)
  (Sc:Bx N ps (j5 st):=by exact ⟨rfl,rfl,rfl,by decide +kernel,rfl,by decide +kernel,by decide +kernel⟩) (hN:ps.length<=N.length:=by decide):Du P w K mg base CX0 (k+1) f fd ps (spF K ps.length (v8 N.length b)) :=
 a8m F Sc hN fun aC A outer s H E B hr=>hb aC A outer s H E B f hr (a9s hr) hr.units Sc.nd
theorem go {b:S} (h:FA K mg x st) (hb:GoB P w K mg base x st N k b)
  (Sc:Bx N ps (j5 st):=by exact ⟨rfl,rfl,rfl,by decide +kernel,rfl,by decide +kernel,by decide +kernel⟩) (hN:ps.length<=N.length:=by decide)
  (bd:Bd x x st ps:=by first | (exact fun _ _ _ _ _ _ us hl=>bd1 (fun _=>rfl) us hl) | (exact fun _ _ _ _ _ _ us hl=>bd2 (fun _ _=>rfl) us hl) | (exact fun _ _ _ _ _ _ us hl=>bd3 (fun _ _ _=>rfl) us hl) | (exact fun _ _ _ _ _ _ us hl=>bd4 (fun _ _ _ _=>rfl) us hl) | (exact fun _ _ _ _ _ _ us hl=>bd5 (fun _ _ _ _ _=>rfl) us hl)):qd P w K mg base x (k+1) ps (v8 N.length b):=by
 obtain ⟨f,fd,F,m⟩:=h;exact ⟨f,fd,go0 F hb Sc hN,F.binds bd,F.kp,m⟩
theorem goX {b:SX} {Cl:Addr} {fl:Str} (h:FA K mg x st)
  (hb:∀ (aC:Value) (A:Around) (outer:List Env) (s:Shared) (H:Hp) (E:XK) (B:Bas) (f:Addr),Cj k (A.deeper (envOfC x (j5 st) s.heap.objs.size f aC))->(A.deeper (envOfC x (j5 st) s.heap.objs.size f aC)).units+1<cLine->(A.deeper (envOfC x (j5 st) s.heap.objs.size f aC)).units+64<cLine->N.Nodup ->
   PSs (Qc (CXx P w) P w K mg base N x (j5 st) f aC A outer s H E) (xu st) (Le K B Cl fl E b))
  (Sc:Bx N ps (j5 st):=by exact ⟨rfl,rfl,rfl,by decide +kernel,rfl,by decide +kernel,by decide +kernel⟩) (hN:ps.length<=N.length:=by decide)
  (bd:Bd x x st ps:=by first | (exact fun _ _ _ _ _ _ us hl=>bd1 (fun _=>rfl) us hl) | (exact fun _ _ _ _ _ _ us hl=>bd2 (fun _ _=>rfl) us hl) | (exact fun _ _ _ _ _ _ us hl=>bd3 (fun _ _ _=>rfl) us hl) | (exact fun _ _ _ _ _ _ us hl=>bd4 (fun _ _ _ _=>rfl) us hl) | (exact fun _ _ _ _ _ _ us hl=>bd5 (fun _ _ _ _ _=>rfl) us hl)):Av P w K mg base x (k+1) ps Cl fl (uw N.length b):=by
 obtain ⟨f,fd,F,m⟩:=h;exact ⟨f,fd,Vx F Sc hN fun aC A outer s H E B hr=>hb aC A outer s H E B f hr (a9s hr) hr.units Sc.nd,F.binds bd,F.kp,m⟩
theorem zero (h:FA K mg x st)
  (bd:Bd x x st ps:=by first | (exact fun _ _ _ _ _ _ us hl=>bd1 (fun _=>rfl) us hl) | (exact fun _ _ _ _ _ _ us hl=>bd2 (fun _ _=>rfl) us hl)):qd P w K mg base x k ps (fun _ _=>none):=by
 obtain ⟨f,fd,F,m⟩:=h;exact qd.zero F m (F.binds bd)
theorem um {X:Cx} {B:Bas} {i:Nat} {y:Str} {e:Expr} {m:M T} {pos pos':Pos} (hN:X.N.Nodup) (he:PE X e (tOf X.K B m)) (hi:X.N[i]? = some y:=by rfl) (hx:Loc X.env.scope y:=by exact Or.inl rfl) (hs:swapsWith e (some (.Name y pos')) pos.line X.env=pure false:=by rfl) (hf:X.fn y=true\/X.env.scope.names.lookup y=some .local:=by first | exact .inl rfl | exact .inr rfl | assumption) :
  PS X (.Assign [.Name y pos'] e pos) (sOf X.K B (nq i m)):=Kc i (Df hN hi hx he hs hf) fun _ _ _ h=>h
theorem ag9 {b:SX} {f Cl:Addr} {fl:Str} {fd:FuncData} (F:Fun K x q st f fd)
  (hb:∀ (aC:Value) (A:Around) (outer:List Env) (s:Shared) (H:Hp) (E:XK) (B:Bas) (f:Addr),Cj k (A.deeper (envOfC q (j5 st) s.heap.objs.size f aC))->(A.deeper (envOfC q (j5 st) s.heap.objs.size f aC)).units+1<cLine->(A.deeper (envOfC q (j5 st) s.heap.objs.size f aC)).units+64<cLine->N.Nodup ->
   PSs (Qc (CXx P w) P w K mg base N q (j5 st) f aC A outer s H E) (xu st) (Le K B Cl fl E b))
  (Sc:Bx N ps (j5 st):=by exact ⟨rfl,rfl,rfl,by decide +kernel,rfl,by decide +kernel,by decide +kernel⟩) (hN:ps.length<=N.length:=by decide):Du P w K mg base (CXx P w) (k+1) f fd ps (spX K ps.length Cl fl (uw N.length b)) :=
 Vx F Sc hN fun aC A outer s H E B hr=>hb aC A outer s H E B f hr (a9s hr) hr.units Sc.nd
theorem Aw:∀ st ts aa,pq st=some (.inl ts,aa)->ts.length=0:=fun st ts aa e=>by cases e; rfl
theorem jj {m:MX} {l:MXs} {n:Nat} (h:∀ st ts aa,l st=some (.inl ts,aa)->ts.length=n):∀ st ts aa,iz m l st=some (.inl ts,aa)->ts.length=n+1:=fun st ts aa e=>by
 unfold iz at e;split at e
 ·split at e
  ·rename_i ts s2 e2; cases e; exact iX (· + 1) (h _ _ _ e2)
  ·cases e
  ·cases e
 ·cases e
 ·cases e
theorem Dq {l:MXs} {n:Nat} (h:∀ st ts aa,l st=some (.inl ts,aa)->ts.length=n) (hn:n<=1000):∀ st ts aa,l st=some (.inl ts,aa)->ts.length<=1000:=fun st ts aa e=>by rw [h _ _ _ e]; exact hn
abbrev XE (K:PySem.W.Frag) (mg:Str->Option Value) (x f q:Str) (i:Nat) (Cl Ca:Addr):Prop:=∃ D I fd,XC K Cl D I f/\XCl K Cl (.ref D::My.vB)/\Fun K "__init__" q (M8 0 (top i)) I fd/\(Value.ref Cl :: .ref D::My.vB).contains (.ref Ca)=true/\mg x=some (.ref Cl)
end
end D
end
section
namespace D
open PySem L2 C
abbrev MA (K:PySem.W.Frag) (cR:Addr) (x q:Str) (i:Nat):Prop:=∃ f fd,Meth K cR x f/\Fun K x q (M8 i (top 22)) f fd
structure Zk (K:PySem.W.Frag) (mg:Str->Option Value) (cR cN Ca:Addr) (bm:List Value):Prop where
 cls:Cls K cR
 na_number:Ft K cR "number"
 na_rows:Ft K cR "rows"
 e:XE K mg "NoText" "row" "NoText.__init__" 3 cN Ca
 kc:agt K mg "CalmError" Ca bm
 hR:mg "Reading" = some (.ref cR)
 h0:FA K mg "is_name" (top 10)
 h1:FA K mg "is_number" (top 11)
 h2:FA K mg "show_duty" (top 16)
 h3:FA K mg "show_times" (top 20)
 h4:FA K mg "show_row" (top 19)
 h5:FA K mg "papers_straight_within" (top 18)
 h6:FA K mg "paper_rows" (top 17)
 h7:FA K mg "show_papers" (top 15)
 h8:∃ f fd,Mk K cR f/\Fun K "__init__" "Reading.__init__" (M8 0 (top 22)) f fd
 h9:MA K cR "next_words" "Reading.next_words" 1
 h10:MA K cR "need_that" "Reading.need_that" 2
 h11:FA K mg "number_of" (top 26)
 h12:FA K mg "name_of" (top 24)
 h13:FA K mg "duty_of" (top 23)
 h14:FA K mg "box_of" (top 25)
 h15:FA K mg "signed_of" (top 27)
 h16:FA K mg "rest_row" (top 32)
 h17:FA K mg "sum_row" (top 31)
 h18:FA K mg "head_of" (top 30)
 h19:FA K mg "with_papers" (top 29)
 h20:FA K mg "next_paper" (top 28)
 h21:FA K mg "read_papers" (top 21)
 h22:FA K mg "_law_rich" (top 34)
 h23:FA K mg "_law_rest" (top 35)
 h24:FA K mg "_law_take" (top 36)
 h25:FA K mg "_law_number" (top 37)
 h26:FA K mg "_law_times" (top 38)
 h27:FA K mg "_law_paper" (top 39)
 h28:FA K mg "_law_duty" (top 40)
 h29:FA K mg "_law_rows" (top 41)
 h30:FA K mg "_law_lines" (top 42)
 h31:FA K mg "_law_text" (top 43)
 h32:FA K mg "_law_alike" (top 44)
 h33:FA K mg "_law_right" (top 45)
 h34:FA K mg "law" (top 46)
 b_all:mg "all" = none
 b_bool:mg "bool" = none
 b_int:mg "int" = none
 b_isinstance:mg "isinstance" = none
 b_len:mg "len" = none
 b_list:mg "list" = none
 b_min:mg "min" = none
 b_range:mg "range" = none
 b_str:mg "str" = none
 b_sum:mg "sum" = none
 b_tuple:mg "tuple" = none
 b_zip:mg "zip" = none
 c_FIGURES:∃ u,mg "FIGURES" = some u/\Held K u (.str "0123456789")
 c_KEY_WORDS:∃ u,mg "KEY_WORDS" = some u/\Held K u (.tup [(.str "box"),(.str "lock"),(.str "hand"),(.str "own"),(.str "end"),(.str "set"),(.str "wait"),(.str "if"),(.str "else"),(.str "while"),(.str "rounds"),(.str "either"),(.str "or"),(.str "and"),(.str "not"),(.str "take"),(.str "give"),(.str "label"),(.str "say"),(.str "at"),(.str "divides"),(.str "true"),(.str "false")])
 c_LETTERS:∃ u,mg "LETTERS" = some u/\Held K u (.str "abcdefghijklmnopqrstuvwxyz")
 c_LONGEST_NAME:∃ tk,mg "LONGEST_NAME" = some (.int 8 tk)
 c_MOST_DEEP:∃ tk,mg "MOST_DEEP" = some (.int 90 tk)
 c_MOST_FIGURES:∃ tk,mg "MOST_FIGURES" = some (.int 400 tk)
 c_MOST_ROWS:∃ tk,mg "MOST_ROWS" = some (.int 5000 tk)
 c_WORD_SIGNS:∃ u,mg "WORD_SIGNS" = some u/\Held K u (.str "abcdefghijklmnopqrstuvwxyz0123456789")
section
variable {P:Program} {w:World} {K:PySem.W.Frag} {mg:Str->Option Value} {base:Heap} {cR cN Ca:Addr} {bm:List Value} (Z:Zk K mg cR cN Ca bm)
include Z
theorem Zk.r:XR P w K mg base "NoText" cN "row" "row" :=
 let ⟨_,_,_,c,_,F,_,m⟩:=Z.e; ⟨⟨_,_,_,c,aav c F ⟨rfl,rfl,rfl,by decide +kernel,rfl,by decide +kernel,by decide +kernel⟩ rfl rfl rfl (by decide) (by decide) (by decide) (fun _=>rfl),F.binds (ps:=["self","row"]) fun _ _ _ _ _ _ us hl=>bd2 (fun _ _=>rfl) us hl⟩,m⟩
theorem Zk.k:∃ D:Addr,XCl K cN (.ref D::My.vB)/\(Value.ref cN :: .ref D::My.vB).contains (.ref Ca)=true:=let ⟨D,_,_,_,k,_,c,_⟩:=Z.e; ⟨D,k,c⟩
theorem Wu:qd P w K mg base "is_name" 1 ["word"] (_root_.K.Hi):=by
 refine go (N:=["word"]) Z.h0 fun _ _ _ _ _ _ _ _ hr hu hq nd=>?_;exact iu (ji (Eb (a75 Ux Ux bf (gk (jc lq (by rfl) Z.b_len iS (ao (aq 0 (pv 0)) bw))) (J7 (by rfl) Z.c_LONGEST_NAME)) (Eb (ud Tg (jk hu (aq 0 (pv 0)) bf (fun _ _=>rfl)) (Ji (by rfl) Z.c_LETTERS) rfl) (Eb (gk (jc (Jx (by rfl)) (by rfl) Z.b_all mR (ao (wz (Bj (N:=["sign"]) ⟨rfl,fun j k h=>match j,h with | _+0,h=>(by cases h)⟩ ⟨rfl,rfl,by decide +kernel,by decide +kernel⟩ rfl (Vd (aq 0 (pv 0))) Uu (fun C s₀ H₀ ex pn=>pgE fun B=>(nu 0 (ju (show (["sign"]:List Str).Nodup by decide +kernel) rfl (Or.inl rfl)))) (fun C s₀ H₀ ex pn=>rm) (fun C s₀ H₀ ex pn=>peE fun B=>(ud Tg (aq 0 (pv 0)) (Ji (by rfl) Z.c_WORD_SIGNS) rfl)))) bw))) (Hl (ud (a0a hq) (aq 0 (pv 0)) (Ji (by rfl) Z.c_KEY_WORDS) rfl))))))
theorem Qd:qd P w K mg base "is_number" 1 ["word"] (_root_.K.Dl):=by
 refine go (N:=["word"]) Z.h1 fun _ _ _ _ _ _ _ _ hr hu hq nd=>?_;exact dz (yc (PW.pt (a2k (jx (jm hq) (aq 0 (pv 0)) fj (iw _)) (Q7 (Ma (Ds (gk (jc (Jx (by rfl)) (by rfl) Z.b_all mR (ao (wz (Bj (N:=["sign"]) ⟨rfl,fun j k h=>match j,h with | _+0,h=>(by cases h)⟩ ⟨rfl,rfl,by decide +kernel,by decide +kernel⟩ rfl (Vd (aq 0 (pv 0))) Uu (fun C s₀ H₀ ex pn=>pgE fun B=>(nu 0 (ju (show (["sign"]:List Str).Nodup by decide +kernel) rfl (Or.inl rfl)))) (fun C s₀ H₀ ex pn=>rm) (fun C s₀ H₀ ex pn=>peE fun B=>(ud Tg (aq 0 (pv 0)) (Ji (by rfl) Z.c_FIGURES) rfl)))) bw))))))))   (iu (ji Fe))   mz)   (iu (ji (aew (ud (jm hq) (aq 0 (pv 0)) fj (iw _)) (Hl (ud (Oq hq) (jk hu (aq 0 (pv 0)) bf (fun _ _=>rfl)) fj (iw _))))))
theorem Oi:qd P w K mg base "show_duty" 1 ["duty"] (_root_.K.Bq):=by
 refine go (N:=["duty"]) Z.h2 fun _ _ _ _ _ _ _ _ hr hu hq nd=>?_;exact iu (ji (Ec fj (wz (Bj (N:=["part"]) ⟨rfl,fun j k h=>match j,h with | _+0,h=>(by cases h)⟩ ⟨rfl,rfl,by decide +kernel,by decide +kernel⟩ rfl (Aq (aq 0 (pv 0))) Am (fun C s₀ H₀ ex pn=>pgE fun B=>(nu 0 (ju (show (["part"]:List Str).Nodup by decide +kernel) rfl (Or.inl rfl)))) (fun C s₀ H₀ ex pn=>rm) (fun C s₀ H₀ ex pn=>peE fun B=>(gk (jg mj (by rfl) Z.b_str (by rfl) (ao (aq 0 (pv 0)) bw))))))))
theorem Ge:qd P w K mg base "show_times" 1 ["row"] (_root_.K.qj):=by
 refine go (N:=["row"]) Z.h3 fun _ _ _ _ _ _ _ _ hr hu hq nd=>?_;exact iu (ji (m5 jo (m5 jo (Ec fj (wz (Bj (N:=["place"]) ⟨rfl,fun j k h=>match j,h with | _+0,h=>(by cases h)⟩ ⟨rfl,rfl,by decide +kernel,by decide +kernel⟩ rfl (Aq (Jl (aq 0 (pv 0)) Ak (Af (O8 Cg bf)))) Am (fun C s₀ H₀ ex pn=>pgE fun B=>(nu 0 (ju (show (["place"]:List Str).Nodup by decide +kernel) rfl (Or.inl rfl)))) (fun C s₀ H₀ ex pn=>rm) (fun C s₀ H₀ ex pn=>peE fun B=>(gk (jg mj (by rfl) Z.b_str (by rfl) (ao (aq 0 (pv 0)) bw))))))) fj) (gk (jg mj (by rfl) Z.b_str (by rfl) (ao (jk hu (aq 0 (pv 0)) (O8 Cg bf) (fun _ _=>rfl)) bw)))))
theorem Tn:qd P w K mg base "show_row" 2 ["paper"] (_root_.K.ug):=by
 refine go (N:=["paper","words"]) Z.h4 fun _ _ _ _ _ _ _ _ hr hu hq nd=>?_;exact dz (yc (jx (jm hq) (jk hu (aq 0 (pv 0)) bf (fun _ _=>rfl)) fj (iw _))   (iu (um (i:=1) nd (Ab (ao fj (ao (gk (jg mj (by rfl) Z.b_str (by rfl) (ao (jk hu (aq 0 (pv 0)) bf (fun _ _=>rfl)) bw))) (ao (gk (jg mj (by rfl) Z.b_str (by rfl) (ao (gk (jc lq (by rfl) Z.b_len iS (ao (jk hu (aq 0 (pv 0)) bf (fun _ _=>rfl)) bw))) bw))) bw))) (j4 (c7 (c7 (c7 gj))) (by decide)))))   (iu (yc (jx (jm hq) (jk hu (aq 0 (pv 0)) bf (fun _ _=>rfl)) fj (iw _))   (iu (um (i:=1) nd (Ab (ao fj (ao (jk hu (aq 0 (pv 0)) bf (fun _ _=>rfl)) (ao (gk (jg mj (by rfl) Z.b_str (by rfl) (ao (jk hu (aq 0 (pv 0)) bf (fun _ _=>rfl)) bw))) bw))) (j4 (c7 (c7 (c7 gj))) (by decide)))))   (iu (yc (jx (jm hq) (jk hu (aq 0 (pv 0)) bf (fun _ _=>rfl)) fj (iw _))   (iu (um (i:=1) nd (m5 jo (Ab (ao fj bw) (j4 (c7 gj) (by decide))) (wz (Bj (N:=["row"]) ⟨rfl,fun j k h=>match j,h with | _+0,h=>(by cases h)⟩ ⟨rfl,rfl,by decide +kernel,by decide +kernel⟩ rfl (Aq (jk hu (aq 0 (pv 0)) bf (fun _ _=>rfl))) Am (fun C s₀ H₀ ex pn=>pgE fun B=>(nu 0 (ju (show (["row"]:List Str).Nodup by decide +kernel) rfl (Or.inl rfl)))) (fun C s₀ H₀ ex pn=>rm) (fun C s₀ H₀ ex pn=>peE fun B=>(dh (Ge Z) (hr.mono (by decide)) (by rfl) (ao (aq 0 (pv 0)) bw) (bh eq_nil))))))))   (iu (um (i:=1) nd (m5 jo (Ab (ao fj (ao (gk (jg mj (by rfl) Z.b_str (by rfl) (ao (jk hu (aq 0 (pv 0)) bf (fun _ _=>rfl)) bw))) bw)) (j4 (c7 (c7 gj)) (by decide))) (wz (Bj (N:=["row"]) ⟨rfl,fun j k h=>match j,h with | _+0,h=>(by cases h)⟩ ⟨rfl,rfl,by decide +kernel,by decide +kernel⟩ rfl (Aq (jk hu (aq 0 (pv 0)) bf (fun _ _=>rfl))) Am (fun C s₀ H₀ ex pn=>pgE fun B=>(nu 0 (ju (show (["row"]:List Str).Nodup by decide +kernel) rfl (Or.inl rfl)))) (fun C s₀ H₀ ex pn=>rm) (fun C s₀ H₀ ex pn=>peE fun B=>(dh (Ge Z) (hr.mono (by decide)) (by rfl) (ao (aq 0 (pv 0)) bw) (bh eq_nil)))))))))))))   (iu (ji (Ec fj (aq 1 (pv 1)))))
theorem Cd:qd P w K mg base "papers_straight_within" 1 ["paper"] (_root_.K.ig):=by
 refine go (N:=["paper"]) Z.h5 fun _ _ _ _ _ _ _ _ hr hu hq nd=>?_;exact dz (yc (jx (jm hq) (jk hu (aq 0 (pv 0)) bf (fun _ _=>rfl)) fj (iw _))   (iu (ji (jk hu (aq 0 (pv 0)) bf (fun _ _=>rfl))))   mz)   (iu (ji (Gn (jx (jm hq) (jk hu (aq 0 (pv 0)) bf (fun _ _=>rfl)) fj (iw _)) (Jl (aq 0 (pv 0)) (Af bf) Ak) (n8 bw (j4 gj (by decide))))))
theorem O6:qd P w K mg base "paper_rows" 3 ["paper"] (_root_.K.Aa):=by
 refine go (N:=["paper","rows","waiting","one"]) Z.h6 fun _ _ _ _ _ _ _ _ hr hu hq nd=>?_;exact dz (Iz 1 (Df nd rfl (Or.inl rfl) (Kl bw (j4 gj (by decide)))) (fun _ _ _ h=>h))   (dz (Iz 2 (Df nd rfl (Or.inl rfl) (Kl (ao (aq 0 (pv 0)) bw) (j4 (c7 gj) (by decide)))) (fun _ _ _ h=>h))   (dz (W9 6000 PassesOwn.never (jx a8e (K8 2 Z.b_len rfl (pv 2)) bf (iw _))   (dz (ad8 2 3 (a0t (a7k jL PySem.F.slot_list_pop PySem.F.type_list_pop a7t (pv 2)) (ju nd rfl (Or.inl rfl))))   (dz (Cu 1 (Ah (Ie jL kf ki v9 (pv 1) (lu (dh (Tn Z) (hr.mono (by decide)) (by rfl) (ao (aq 3 (pv 3)) bw) (bh eq_nil)) su))))   (iu (Qm 2 (Ah (Ie jL PySem.F.slot_list_extend PySem.F.type_list_extend M6 (pv 2) (lu (a9m (dh (Cd Z) (hr.mono (by decide)) (by rfl) (ao (aq 3 (pv 3)) bw) (bh eq_nil))) su))))))))   (iu (ji (aq 1 (pv 1))))))
theorem Lb:qd P w K mg base "show_papers" 4 ["papers"] (_root_.K.Ba):=by
 refine go (N:=["papers","rows","duty","paper"]) Z.h7 fun _ _ _ _ _ _ _ _ hr hu hq nd=>?_;exact dz (Iz 1 (Df nd rfl (Or.inl rfl) (Kl bw (j4 gj (by decide)))) (fun _ _ _ h=>h))   (dz (Io PassesOwn.never rfl (Aq (aq 0 (pv 0))) (a03 (is:=[2,3]) (a2a rfl (Fd (ju nd rfl (Or.inl rfl)) (Fd (ju nd rfl (Or.inl rfl)) U5))))   (dz (Cu 1 (Ah (Ie jL kf ki v9 (pv 1) (lu (dh (Oi Z) (hr.mono (by decide)) (by rfl) (ao (aq 2 (pv 2)) bw) (bh eq_nil)) su))))   (iu (Qm 1 (Ah (Ie jL PySem.F.slot_list_extend PySem.F.type_list_extend M6 (pv 1) (lu (dh (O6 Z) (hr.mono (by decide)) (by rfl) (ao (aq 3 (pv 3)) bw) (bh eq_nil)) su)))))) Am)   (iu (ji (Ec fj (aq 1 (pv 1))))))
theorem Kf:adx P w K mg base "Reading" cR 1 ["self","text"] (_root_.K.v7 cR cN):=by
 obtain ⟨f,fd,M,F⟩:=Z.h8;refine ⟨⟨f,fd,M,go0 (N:=["self","text"]) F fun _ _ _ _ _ _ _ _ hr hu hq nd=>?_,F.binds fun _ _ _ _ _ _ us hl=>bd2 (fun _ _=>rfl) us hl⟩,Z.hR⟩;exact dz (Kq Z.cls Z.na_rows (aq 0 (pv 0)) (Gn (jx (jm hq) (aq 1 (pv 1)) fj (iw _)) (Ab bw (j4 gj (by decide))) (Gs (aq 1 (pv 1)) fj)))   (iu (Kq Z.cls Z.na_number (aq 0 (pv 0)) bf))
theorem Ae:Ve P w K mg base cR "next_words" 3 ["self"] cN "row" (_root_.K.je cR cN):=by
 obtain ⟨f,fd,M,F⟩:=Z.h9;refine ⟨⟨f,fd,M,ag9 (N:=["self"]) F fun _ _ _ _ _ _ _ _ hr hu hq nd=>?_,F.binds fun _ _ _ _ _ _ us hl=>bd1 (fun _=>rfl) us hl⟩,Z.cls⟩;exact j7 (uz (Kq Z.cls Z.na_number (aq 0 (pv 0)) (m5 jo (Gw Z.cls Z.na_number (aq 0 (pv 0))) bf)))   (j7 (Q9 (jx a8e (Gw Z.cls Z.na_number (aq 0 (pv 0))) (gk (jc (Hz (by rfl)) (by rfl) Z.b_min mS (ao (gk (jc lq (by rfl) Z.b_len iS (ao (Gw Z.cls Z.na_rows (aq 0 (pv 0))) bw))) (ao (J7 (by rfl) Z.c_MOST_ROWS) bw)))) (iw _))   (uy (Oo Z.r ad4 (hr.mono (by decide)) (by rfl) (Gw Z.cls Z.na_number (aq 0 (pv 0)))))   (Bt mz))   (uy (uz (ji (Gs (jk hu (Gw Z.cls Z.na_rows (aq 0 (pv 0))) (m5 Nj (Gw Z.cls Z.na_number (aq 0 (pv 0))) bf) (fun _ _=>rfl)) fj)))))
theorem gb:Ve P w K mg base cR "need_that" 3 ["self","is_right"] cN "row" (_root_.K.dg cR cN):=by
 obtain ⟨f,fd,M,F⟩:=Z.h10;refine ⟨⟨f,fd,M,ag9 (N:=["self","is_right"]) F fun _ _ _ _ _ _ _ _ hr hu hq nd=>?_,F.binds fun _ _ _ _ _ _ us hl=>bd2 (fun _ _=>rfl) us hl⟩,Z.cls⟩;exact uy (Q9 (Ma (Ds (aq 1 (pv 1))))   (uy (Oo Z.r ad4 (hr.mono (by decide)) (by rfl) (Gw Z.cls Z.na_number (aq 0 (pv 0)))))   (Bt mz))
theorem m8:Av P w K mg base "number_of" 4 ["reading","word","least"] cN "row" (_root_.K.iy cR cN):=by
 refine goX (N:=["reading","word","least","number"]) Z.h11 fun _ _ _ _ _ _ _ _ hr hu hq nd=>?_;exact j7 (wg (yh (gb Z) m9 (hr.mono (by decide)) (aq 0 (pv 0)) (j6 (Ay (Eb (dh (Qd Z) (hr.mono (by decide)) (by rfl) (ao (aq 1 (pv 1)) bw) (bh eq_nil)) (Hl (ud Ux (gk (jc lq (by rfl) Z.b_len iS (ao (aq 1 (pv 1)) bw))) (J7 (by rfl) Z.c_MOST_FIGURES) (iw _))))) qw) (uq (ur yt))))   (j7 (uz (um (i:=3) nd (gk (jg Xe (by rfl) Z.b_int PyProof.Rows.boot_int (ao (aq 1 (pv 1)) bw)))))   (j7 (wg (yh (gb Z) m9 (hr.mono (by decide)) (aq 0 (pv 0)) (j6 (Ay (ud a7o (aq 3 (pv 3)) (aq 2 (pv 2)) (iw _))) qw) (uq (ur yt))))   (uy (uz (ji (aq 3 (pv 3)))))))
theorem Ig:Av P w K mg base "name_of" 4 ["reading","word"] cN "row" (_root_.K.Bl cR cN):=by
 refine goX (N:=["reading","word"]) Z.h12 fun _ _ _ _ _ _ _ _ hr hu hq nd=>?_;exact j7 (wg (yh (gb Z) m9 (hr.mono (by decide)) (aq 0 (pv 0)) (j6 (Ay (dh (Wu Z) (hr.mono (by decide)) (by rfl) (ao (aq 1 (pv 1)) bw) (bh eq_nil))) qw) (uq (ur yt))))   (uy (uz (ji (aq 1 (pv 1)))))
theorem Xq:Av P w K mg base "duty_of" 5 ["reading"] cN "row" (_root_.K.Cr cR cN):=by
 refine goX (N:=["reading","words","number"]) Z.h13 fun _ _ _ _ _ _ _ _ hr hu hq nd=>?_;exact j7 (Jw (i:=1) nd rfl (Or.inl rfl) (Wa (Ae Z) m9 (hr.mono (by decide)) (aq 0 (pv 0)) rfl rfl))   (j7 (Q9 (jx (jm hq) (jk hu (aq 1 (pv 1)) bf (fun _ _=>rfl)) fj (iw _))   (j7 (wg (yh (gb Z) m9 (hr.mono (by decide)) (aq 0 (pv 0)) (j6 (Ay (ud (jm hq) (gk (jc lq (by rfl) Z.b_len iS (ao (aq 1 (pv 1)) bw))) bf (iw _))) qw) (uq (ur yt))))   (uy (Eo (Gm (j6 (Ay fj) (j6 (o7 m9 (Ig Z) (hr.mono (by decide)) (by rfl) (ao (aq 0 (pv 0)) (ao (jk hu (aq 1 (pv 1)) bf (fun _ _=>rfl)) bw)) (bh (bh eq_nil))) qw)) (Dq (jj (jj Aw)) (by decide))))))   (Bt mz))   (j7 (Q9 (jx (jm hq) (jk hu (aq 1 (pv 1)) bf (fun _ _=>rfl)) fj (iw _))   (j7 (wg (yh (gb Z) m9 (hr.mono (by decide)) (aq 0 (pv 0)) (j6 (Ay (ud (jm hq) (gk (jc lq (by rfl) Z.b_len iS (ao (aq 1 (pv 1)) bw))) bf (iw _))) qw) (uq (ur yt))))   (uy (Eo (Gm (j6 (Ay fj) (j6 (o7 m9 (m8 Z) (hr.mono (by decide)) (by rfl) (ao (aq 0 (pv 0)) (ao (jk hu (aq 1 (pv 1)) bf (fun _ _=>rfl)) (ao bf bw))) (bh (bh (bh eq_nil)))) qw)) (Dq (jj (jj Aw)) (by decide))))))   (Bt mz))   (j7 (wg (yh (gb Z) m9 (hr.mono (by decide)) (aq 0 (pv 0)) (j6 (Ay (Eb (ud (jm hq) (jk hu (aq 1 (pv 1)) bf (fun _ _=>rfl)) fj (iw _)) (Hl (ud (jm hq) (gk (jc lq (by rfl) Z.b_len iS (ao (aq 1 (pv 1)) bw))) bf (iw _))))) qw) (uq (ur yt))))   (j7 (Jw (i:=2) nd rfl (Or.inl rfl) (o7 m9 (m8 Z) (hr.mono (by decide)) (by rfl) (ao (aq 0 (pv 0)) (ao (jk hu (aq 1 (pv 1)) bf (fun _ _=>rfl)) (ao bf bw))) (bh (bh (bh eq_nil)))))   (uy (Eo (Gm (j6 (Ay fj) (j6 (Ay (aq 2 (pv 2))) (j6 (o7 m9 (Ig Z) (hr.mono (by decide)) (by rfl) (ao (aq 0 (pv 0)) (ao (jk hu (aq 1 (pv 1)) bf (fun _ _=>rfl)) bw)) (bh (bh eq_nil))) (j6 (o7 m9 (m8 Z) (hr.mono (by decide)) (by rfl) (ao (aq 0 (pv 0)) (ao (jk hu (aq 1 (pv 1)) bf (fun _ _=>rfl)) (ao bf bw))) (bh (bh (bh eq_nil)))) qw)))) (Dq (jj (jj (jj (jj Aw)))) (by decide)))))))))
theorem Z0:Av P w K mg base "box_of" 5 ["reading","word"] cN "row" (_root_.K.J8 cR cN):=by
 refine goX (N:=["reading","word"]) Z.h14 fun _ _ _ _ _ _ _ _ hr hu hq nd=>?_;exact j7 (wg (o7 m9 (Ig Z) (hr.mono (by decide)) (by rfl) (ao (aq 0 (pv 0)) (ao (Gn (jx (jm hq) (Gi (aq 1 (pv 1)) Ak (Af bf)) fj (iw _)) (Gi (aq 1 (pv 1)) (Af bf) Ak) (aq 1 (pv 1))) bw)) (bh (bh eq_nil))))   (uy (uz (ji (aq 1 (pv 1)))))
theorem J1:Av P w K mg base "signed_of" 5 ["reading","word"] cN "row" (_root_.K.vm cR cN):=by
 refine goX (N:=["reading","word"]) Z.h15 fun _ _ _ _ _ _ _ _ hr hu hq nd=>?_;exact j7 (Q9 (jx (Oq hq) (Gi (aq 1 (pv 1)) Ak (Af bf)) fj (iw _))   (uy (Eo (o7 m9 (m8 Z) (hr.mono (by decide)) (by rfl) (ao (aq 0 (pv 0)) (ao (aq 1 (pv 1)) (ao bf bw))) (bh (bh (bh eq_nil))))))   (Bt mz))   (uy (Eo (afx Cg (o7 m9 (m8 Z) (hr.mono (by decide)) (by rfl) (ao (aq 0 (pv 0)) (ao (Gi (aq 1 (pv 1)) (Af bf) Ak) (ao bf bw))) (bh (bh (bh eq_nil)))))))
theorem Ua:Av P w K mg base "rest_row" 6 ["reading","word"] cN "row" (_root_.K.Fb cR cN):=by
 refine goX (N:=["reading","word","parts","places","times"]) Z.h16 fun _ _ _ _ _ _ _ _ hr hu hq nd=>?_;exact j7 (uz (um (i:=2) nd (Gs (aq 1 (pv 1)) fj)))   (j7 (wg (yh (gb Z) m9 (hr.mono (by decide)) (aq 0 (pv 0)) (j6 (Ay (ud (jm hq) (gk (jc lq (by rfl) Z.b_len iS (ao (aq 2 (pv 2)) bw))) bf (iw _))) qw) (uq (ur yt))))   (j7 (uz (um (i:=3) nd (Gs (jk hu (aq 2 (pv 2)) bf (fun _ _=>rfl)) fj)))   (j7 (Jw (i:=4) nd rfl (Or.inl rfl) (o7 m9 (J1 Z) (hr.mono (by decide)) (by rfl) (ao (aq 0 (pv 0)) (ao (jk hu (aq 2 (pv 2)) bf (fun _ _=>rfl)) bw)) (bh (bh eq_nil))))   (j7 (wg (yh (gb Z) m9 (hr.mono (by decide)) (aq 0 (pv 0)) (j6 (Ay (Eb (ud Ux (gk (jc lq (by rfl) Z.b_len iS (ao (aq 3 (pv 3)) bw))) bf (iw _)) (Hl (ud (Oq hq) (aq 4 (pv 4)) bf (iw _))))) qw) (uq (ur yt))))   (uy (Eo (af8 jo (Nh (jg vh (by rfl) Z.b_tuple kH (j6 (Sv (N:=["place","reading"]) a8y ⟨rfl,fun j k h=>match j,h with | 0,h=>(by cases h; exact ⟨_,rfl,rfl,⟨.inl rfl,.inr (.inl rfl),.inl rfl⟩⟩) | _+1,h=>(by cases h)⟩ ⟨rfl,rfl,by decide +kernel,by decide +kernel⟩ rfl (Aq (aq 3 (pv 3))) Am (fun C s₀ H₀ ex pn=>pgE fun B=>(nu 0 (ju (show (["place","reading"]:List Str).Nodup by decide +kernel) rfl (Or.inl rfl)))) (fun C s₀ H₀ ex pn=>peX fun B=>(o7 K3 (m8 Z) (hr.mono (by decide)) (by rfl) (ao (aq 1 (pv 1)) (ao (aq 0 (pv 0)) (ao bf bw))) (bh (bh (bh eq_nil)))))) qw))) (Ay (n8 (ao (aq 4 (pv 4)) bw) (j4 (c7 gj) (by decide)))))))))))
theorem Xz:Av P w K mg base "sum_row" 5 ["reading","word"] cN "row" (_root_.K.Ga cR cN):=by
 refine goX (N:=["reading","word","parts"]) Z.h17 fun _ _ _ _ _ _ _ _ hr hu hq nd=>?_;exact j7 (uz (um (i:=2) nd (Gs (aq 1 (pv 1)) fj)))   (j7 (wg (yh (gb Z) m9 (hr.mono (by decide)) (aq 0 (pv 0)) (j6 (Ay (ud (jm hq) (gk (jc lq (by rfl) Z.b_len iS (ao (aq 2 (pv 2)) bw))) bf (iw _))) qw) (uq (ur yt))))   (uy (Eo (Gm (j6 (o7 m9 (m8 Z) (hr.mono (by decide)) (by rfl) (ao (aq 0 (pv 0)) (ao (jk hu (aq 2 (pv 2)) bf (fun _ _=>rfl)) (ao bf bw))) (bh (bh (bh eq_nil)))) (j6 (o7 m9 (m8 Z) (hr.mono (by decide)) (by rfl) (ao (aq 0 (pv 0)) (ao (jk hu (aq 2 (pv 2)) bf (fun _ _=>rfl)) (ao bf bw))) (bh (bh (bh eq_nil)))) qw)) (Dq (jj (jj Aw)) (by decide))))))
theorem Y5:Av P w K mg base "head_of" 7 ["reading"] cN "row" (_root_.K.Cy cR cN):=by
 refine goX (N:=["reading","words","divisor"]) Z.h18 fun _ _ _ _ _ _ _ _ hr hu hq nd=>?_;exact j7 (Jw (i:=1) nd rfl (Or.inl rfl) (Wa (Ae Z) m9 (hr.mono (by decide)) (aq 0 (pv 0)) rfl rfl))   (j7 (Q9 (jx (jm hq) (jk hu (aq 1 (pv 1)) bf (fun _ _=>rfl)) fj (iw _))   (j7 (wg (yh (gb Z) m9 (hr.mono (by decide)) (aq 0 (pv 0)) (j6 (Ay (ud (jm hq) (gk (jc lq (by rfl) Z.b_len iS (ao (aq 1 (pv 1)) bw))) bf (iw _))) qw) (uq (ur yt))))   (uy (Eo (Gm (j6 (Ay fj) (j6 (o7 m9 (m8 Z) (hr.mono (by decide)) (by rfl) (ao (aq 0 (pv 0)) (ao (jk hu (aq 1 (pv 1)) bf (fun _ _=>rfl)) (ao bf bw))) (bh (bh (bh eq_nil)))) (j6 (o7 m9 (m8 Z) (hr.mono (by decide)) (by rfl) (ao (aq 0 (pv 0)) (ao (jk hu (aq 1 (pv 1)) bf (fun _ _=>rfl)) (ao bf bw))) (bh (bh (bh eq_nil)))) qw))) (Dq (jj (jj (jj Aw))) (by decide))))))   (Bt mz))   (j7 (Q9 (jx (jm hq) (jk hu (aq 1 (pv 1)) bf (fun _ _=>rfl)) fj (iw _))   (j7 (wg (yh (gb Z) m9 (hr.mono (by decide)) (aq 0 (pv 0)) (j6 (Ay (ud (jm hq) (gk (jc lq (by rfl) Z.b_len iS (ao (aq 1 (pv 1)) bw))) bf (iw _))) qw) (uq (ur yt))))   (uy (Eo (Gm (j6 (Ay fj) (j6 (o7 m9 (Z0 Z) (hr.mono (by decide)) (by rfl) (ao (aq 0 (pv 0)) (ao (jk hu (aq 1 (pv 1)) bf (fun _ _=>rfl)) bw)) (bh (bh eq_nil))) (j6 (o7 m9 (J1 Z) (hr.mono (by decide)) (by rfl) (ao (aq 0 (pv 0)) (ao (jk hu (aq 1 (pv 1)) bf (fun _ _=>rfl)) bw)) (bh (bh eq_nil))) qw))) (Dq (jj (jj (jj Aw))) (by decide))))))   (Bt mz))   (j7 (Q9 (jx (jm hq) (jk hu (aq 1 (pv 1)) bf (fun _ _=>rfl)) fj (iw _))   (uy (Eo (Gm (j6 (Ay fj) (j6 (Nh (jg vh (by rfl) Z.b_tuple kH (j6 (Sv (N:=["word","reading"]) a8y ⟨rfl,fun j k h=>match j,h with | 0,h=>(by cases h; exact ⟨_,rfl,rfl,⟨.inl rfl,.inr (.inl rfl),.inl rfl⟩⟩) | _+1,h=>(by cases h)⟩ ⟨rfl,rfl,by decide +kernel,by decide +kernel⟩ rfl (Aq (Ja (aq 1 (pv 1)) (Af bf) Ak)) Am (fun C s₀ H₀ ex pn=>pgE fun B=>(nu 0 (ju (show (["word","reading"]:List Str).Nodup by decide +kernel) rfl (Or.inl rfl)))) (fun C s₀ H₀ ex pn=>peX fun B=>(o7 K3 (Xz Z) (hr.mono (by decide)) (by rfl) (ao (aq 1 (pv 1)) (ao (aq 0 (pv 0)) bw)) (bh (bh eq_nil))))) qw))) qw)) (Dq (jj (jj Aw)) (by decide)))))   (Bt mz))   (j7 (wg (yh (gb Z) m9 (hr.mono (by decide)) (aq 0 (pv 0)) (j6 (Ay (Eb (ud (jm hq) (jk hu (aq 1 (pv 1)) bf (fun _ _=>rfl)) fj (iw _)) (Hl (ud a7o (gk (jc lq (by rfl) Z.b_len iS (ao (aq 1 (pv 1)) bw))) bf (iw _))))) qw) (uq (ur yt))))   (j7 (Jw (i:=2) nd rfl (Or.inl rfl) (o7 m9 (m8 Z) (hr.mono (by decide)) (by rfl) (ao (aq 0 (pv 0)) (ao (jk hu (aq 1 (pv 1)) bf (fun _ _=>rfl)) (ao bf bw))) (bh (bh (bh eq_nil)))))   (uy (Eo (Gm (j6 (Ay fj) (j6 (Ay (aq 2 (pv 2))) (j6 (Nh (jg vh (by rfl) Z.b_tuple kH (j6 (Sv (N:=["word","reading"]) a8y ⟨rfl,fun j k h=>match j,h with | 0,h=>(by cases h; exact ⟨_,rfl,rfl,⟨.inl rfl,.inr (.inl rfl),.inl rfl⟩⟩) | _+1,h=>(by cases h)⟩ ⟨rfl,rfl,by decide +kernel,by decide +kernel⟩ rfl (Aq (Ja (aq 1 (pv 1)) (Af bf) Ak)) Am (fun C s₀ H₀ ex pn=>pgE fun B=>(nu 0 (ju (show (["word","reading"]:List Str).Nodup by decide +kernel) rfl (Or.inl rfl)))) (fun C s₀ H₀ ex pn=>peX fun B=>(o7 K3 (Ua Z) (hr.mono (by decide)) (by rfl) (ao (aq 1 (pv 1)) (ao (aq 0 (pv 0)) bw)) (bh (bh eq_nil))))) qw))) qw))) (Dq (jj (jj (jj Aw))) (by decide))))))))))
theorem Lg:qd P w K mg base "with_papers" 1 ["head","papers"] (_root_.K.uh):=by
 refine go (N:=["head","papers"]) Z.h19 fun _ _ _ _ _ _ _ _ hr hu hq nd=>?_;exact dz (yc (jx (jm hq) (jk hu (aq 0 (pv 0)) bf (fun _ _=>rfl)) fj (iw _))   (iu (ji (n8 (ao fj (ao (jk hu (aq 0 (pv 0)) bf (fun _ _=>rfl)) (ao (aq 1 (pv 1)) bw))) (j4 (c7 (c7 (c7 gj))) (by decide)))))   mz)   (iu (ji (m5 jo (aq 0 (pv 0)) (aq 1 (pv 1)))))
theorem Nz:Av P w K mg base "next_paper" 8 ["reading"] cN "row" (_root_.K.u6 cR cN):=by
 refine goX (N:=["reading","open_ones","head","many","paper"]) Z.h20 fun _ _ _ _ _ _ _ _ hr hu hq nd=>?_;exact j7 (uz (Iz 1 (Df nd rfl (Or.inl rfl) (Kl bw (j4 gj (by decide)))) (fun _ _ _ h=>h)))   (uy (Wk 6000 PassesOwn.leaving (Ds Fe)   (j7 (Jw (i:=2) nd rfl (Or.inl rfl) (o7 m9 (Y5 Z) (hr.mono (by decide)) (by rfl) (ao (aq 0 (pv 0)) bw) (bh eq_nil)))   (j7 (wg (yh (gb Z) m9 (hr.mono (by decide)) (aq 0 (pv 0)) (j6 (Ay (ud Vs (K8 1 Z.b_len rfl (pv 1)) (J7 (by rfl) Z.c_MOST_DEEP) (iw _))) qw) (uq (ur yt))))   (j7 (uz (um (i:=3) nd (Gn (jx (jm hq) (jk hu (aq 2 (pv 2)) bf (fun _ _=>rfl)) fj (iw _)) (jk hu (aq 2 (pv 2)) bf (fun _ _=>rfl)) (Gn (jx (jm hq) (jk hu (aq 2 (pv 2)) bf (fun _ _=>rfl)) fj (iw _)) bf bf))))   (j7 (uz (Cu 1 (Ah (Ie jL kf ki v9 (pv 1) (lu (n8 (ao (aq 2 (pv 2)) (ao (aq 3 (pv 3)) (ao (Jz bw (j4 gj (by decide))) bw))) (j4 (c7 (c7 (c7 gj))) (by decide))) su)))))   (uy (uz (W9 6000 PassesOwn.leaving (jx (jm hq) (a1o (by rfl) Z.b_len (jk hu (Jg 1 (pv 1) (O8 Cg bf) (fun _ _=>rfl)) bf (fun _ _=>rfl))) (jk hu (Jg 1 (pv 1) (O8 Cg bf) (fun _ _=>rfl)) bf (fun _ _=>rfl)) (iw _))   (dz (um (i:=4) nd (dh (Lg Z) (hr.mono (by decide)) (by rfl) (ao (jk hu (Jg 1 (pv 1) (O8 Cg bf) (fun _ _=>rfl)) bf (fun _ _=>rfl)) (ao (Qt (by rfl) Z.b_tuple (jk hu (a95 1 (a7k jL PySem.F.slot_list_pop PySem.F.type_list_pop a7t (pv 1))) bf (fun _ _=>rfl))) bw)) (bh (bh eq_nil))))   (dz (yc (jx (jm hq) (K8 1 Z.b_len rfl (pv 1)) bf (iw _))   (iu (ji (aq 4 (pv 4))))   mz)   (iu (Wz (Ah (Ie jL kf ki v9 (jk hu (Jg 1 (pv 1) (O8 Cg bf) (fun _ _=>rfl)) bf (fun _ _=>rfl)) (lu (aq 4 (pv 4)) su))))))))))))))))
theorem Bv:Av P w K mg base "read_papers" 9 ["text"] cN "row" (_root_.K.Dr cR cN):=by
 refine goX (N:=["text","reading","papers","duty"]) Z.h21 fun _ _ _ _ _ _ _ _ hr hu hq nd=>?_;exact j7 (uz (um (i:=1) nd (ab5 (Kf Z) (hr.mono (by decide)) (by rfl) (ao (aq 0 (pv 0)) bw) (aa5 (bh eq_nil)))))   (j7 (uz (Kc 2 (Df nd rfl (Or.inl rfl) (Jz bw (j4 gj (by decide)))) (fun _ _ _ h=>h)))   (j7 (Wk 6000 PassesOwn.leaving (jx Vs (Gw Z.cls Z.na_number (aq 1 (pv 1))) (gk (jc lq (by rfl) Z.b_len iS (ao (Gw Z.cls Z.na_rows (aq 1 (pv 1))) bw))) (iw _))   (j7 (Jw (i:=3) nd rfl (Or.inl rfl) (o7 m9 (Xq Z) (hr.mono (by decide)) (by rfl) (ao (aq 1 (pv 1)) bw) (bh eq_nil)))   (uy (a0l 2 (Ah (Ie jL kf ki v9 (pv 2) (lu (Gm (j6 (Ay (aq 3 (pv 3))) (j6 (o7 m9 (Nz Z) (hr.mono (by decide)) (by rfl) (ao (aq 1 (pv 1)) bw) (bh eq_nil)) qw)) (Dq (jj (jj Aw)) (by decide))) su)))))))   (uy (uz (ji (aq 2 (pv 2)))))))
theorem T7:qd P w K mg base "_law_rich" 1 ["_law_cell"] (_root_.K.Ck):=by
 refine go (N:=["_law_cell","_law_total","_law_prime"]) Z.h22 fun _ _ _ _ _ _ _ _ hr hu hq nd=>?_;exact dz (um (i:=1) nd bf)   (dz (Io PassesOwn.never rfl (Aq (Ab (ao bf (ao bf (ao bf (ao bf (ao bf (ao bf (ao bf (ao bf bw)))))))) (j4 (c7 (c7 (c7 (c7 (c7 (c7 (c7 (c7 gj)))))))) (by decide)))) (nu 2 (ju nd rfl (Or.inl rfl)))   (dz (um (i:=0) nd (m5 Dy (m5 jo (m5 Nf (aq 0 (pv 0)) (aq 2 (pv 2))) bf) bf))   (iu (um (i:=1) nd (m5 jo (m5 Nf (aq 1 (pv 1)) bf) (aq 0 (pv 0)))))) Am)   (iu (ji (aq 1 (pv 1)))))
theorem Uo:qd P w K mg base "_law_rest" 1 ["_law_cell"] (_root_.K.Cp):=by
 refine go (N:=["_law_cell"]) Z.h23 fun _ _ _ _ _ _ _ _ hr hu hq nd=>?_;exact iu (ji (Jz (ao (aq 0 (pv 0)) (ao (m5 jo bf (m5 Dy (aq 0 (pv 0)) bf)) bw)) (j4 (c7 (c7 gj)) (by decide))))
theorem jy:qd P w K mg base "_law_take" 1 ["_law_rest_here","_law_many"] (_root_.K.gn):=by
 refine go (N:=["_law_rest_here","_law_many","_law_found"]) Z.h24 fun _ _ _ _ _ _ _ _ hr hu hq nd=>?_;exact dz (yc (PW.pt (a2k (jx (jm hq) (Es (aq 0 (pv 0)) bf (fun _ _=>rfl)) bf (iw _)) (Q7 (jx (jm hq) (Es (aq 0 (pv 0)) bf (fun _ _=>rfl)) (O8 Cg bf) (iw _)))))   (dz (V5 (a0t (m5 Dy (m5 jo (m5 Nf (Es (aq 0 (pv 0)) bf (fun _ _=>rfl)) bf) bf) bf) (a76 (aq 0 (pv 0)) bf set_list)))   (iu (ji (m5 Dy (m5 W8 (m5 Dy (m5 Nf (Es (aq 0 (pv 0)) bf (fun _ _=>rfl)) bf) bf) bf) (aq 1 (pv 1))))))   mz)   (dz (um (i:=2) nd (m5 Dy (Es (aq 0 (pv 0)) bf (fun _ _=>rfl)) (aq 1 (pv 1))))   (dz (V5 (a0t (m5 W8 (Es (aq 0 (pv 0)) bf (fun _ _=>rfl)) (aq 1 (pv 1))) (a76 (aq 0 (pv 0)) bf set_list)))   (iu (ji (aq 2 (pv 2))))))
theorem qp:qd P w K mg base "_law_number" 2 ["_law_rest_here","_law_below"] (_root_.K.jr):=by
 refine go (N:=["_law_rest_here","_law_below","_law_number_here"]) Z.h25 fun _ _ _ _ _ _ _ _ hr hu hq nd=>?_;exact dz (um (i:=2) nd (dh (jy Z) (hr.mono (by decide)) (by rfl) (ao (aq 0 (pv 0)) (ao (jk hu (Ab (ao bf (ao (m5 K6 bf bf) (ao (m5 K6 bf bf) bw))) (j4 (c7 (c7 (c7 gj))) (by decide))) (dh (jy Z) (hr.mono (by decide)) (by rfl) (ao (aq 0 (pv 0)) (ao bf bw)) (bh (bh eq_nil))) (fun _ _=>rfl)) bw)) (bh (bh eq_nil))))   (dz (yc (jx (jm hq) (dh (jy Z) (hr.mono (by decide)) (by rfl) (ao (aq 0 (pv 0)) (ao bf bw)) (bh (bh eq_nil))) bf (iw _))   (iu (um (i:=2) nd (m5 jo (m5 K6 bf bf) (aq 2 (pv 2)))))   mz)   (dz (yc (PW.pt (Rp (Ds (aq 1 (pv 1))) (Jr (jx (jm hq) (dh (jy Z) (hr.mono (by decide)) (by rfl) (ao (aq 0 (pv 0)) (ao bf bw)) (bh (bh eq_nil))) bf (iw _)))))   (iu (ji (m5 Nj bf (aq 2 (pv 2)))))   mz)   (iu (ji (aq 2 (pv 2))))))
theorem Ik:qd P w K mg base "_law_times" 3 ["_law_rest_here","_law_rests"] (_root_.K.u9):=by
 refine go (N:=["_law_rest_here","_law_rests","_law_times_here"]) Z.h26 fun _ _ _ _ _ _ _ _ hr hu hq nd=>?_;exact dz (um (i:=2) nd (m5 jo bf (dh (qp Z) (hr.mono (by decide)) (by rfl) (ao (aq 0 (pv 0)) (ao Fe bw)) (bh (bh eq_nil)))))   (dz (yc (PW.pt (Rp (Ds (aq 1 (pv 1))) (Jr (jx (jm hq) (dh (jy Z) (hr.mono (by decide)) (by rfl) (ao (aq 0 (pv 0)) (ao bf bw)) (bh (bh eq_nil))) bf (iw _)))))   (iu (um (i:=2) nd (m5 Nj bf (aq 2 (pv 2)))))   mz)   (dz (yc (PW.pt (Rp (Ds (aq 1 (pv 1))) (Jr (jx (jm hq) (dh (jy Z) (hr.mono (by decide)) (by rfl) (ao (aq 0 (pv 0)) (ao bf bw)) (bh (bh eq_nil))) bf (iw _)))))   (iu (ji (n8 (ao (dh (qp Z) (hr.mono (by decide)) (by rfl) (ao (aq 0 (pv 0)) (ao Fe bw)) (bh (bh eq_nil))) (ao (dh (qp Z) (hr.mono (by decide)) (by rfl) (ao (aq 0 (pv 0)) (ao Fe bw)) (bh (bh eq_nil))) (ao (aq 2 (pv 2)) bw))) (j4 (c7 (c7 (c7 gj))) (by decide)))))   mz)   (iu (ji (n8 (ao (dh (qp Z) (hr.mono (by decide)) (by rfl) (ao (aq 0 (pv 0)) (ao Fe bw)) (bh (bh eq_nil))) (ao (aq 2 (pv 2)) bw)) (j4 (c7 (c7 gj)) (by decide)))))))
theorem Ny {nn:Nat} (aI:qd P w K mg base "_law_paper" (3+nn) ["_law_rest_here","_law_deep"] (_root_.K.kh nn)):qd P w K mg base "_law_paper" (3+nn+1) ["_law_rest_here","_law_deep"] (_root_.K.kh (nn+1)):=by
 refine go (N:=["_law_rest_here","_law_deep","_law_way","_law_number_here","_law_box","_law_many"]) Z.h27 fun _ _ _ _ _ _ _ _ hr hu hq nd=>?_;exact dz (um (i:=2) nd (dh (jy Z) (hr.mono (by omega)) (by rfl) (ao (aq 0 (pv 0)) (ao bf bw)) (bh (bh eq_nil))))   (dz (yc (PW.pt (Rp (jx (jm hq) (aq 2 (pv 2)) bf (iw _)) (Jr (jx Vs (aq 1 (pv 1)) bf (iw _)))))   (dz (um (i:=3) nd (dh (qp Z) (hr.mono (by omega)) (by rfl) (ao (aq 0 (pv 0)) (ao Fe bw)) (bh (bh eq_nil))))   (iu (ji (n8 (ao fj (ao (aq 3 (pv 3)) (ao (gk (jg vh (by rfl) Z.b_tuple kH (ao (wz (Bj (N:=["_law_k","_law_rest_here","_law_deep"]) ⟨rfl,fun j k h=>match j,h with | 0,h=>(by cases h; exact ⟨_,rfl,rfl,⟨.inl rfl,.inr (.inl rfl),.inl rfl⟩⟩) | 1,h=>(by cases h; exact ⟨_,rfl,rfl,⟨.inl rfl,.inr (.inl rfl),.inl rfl⟩⟩) | _+2,h=>(by cases h)⟩ ⟨rfl,rfl,by decide +kernel,by decide +kernel⟩ rfl (Gx (by rfl) Z.b_range (dh (jy Z) (hr.mono (by omega)) (by rfl) (ao (aq 0 (pv 0)) (ao bf bw)) (bh (bh eq_nil)))) G6 (fun C s₀ H₀ ex pn=>pgE fun B=>(nu 0 (ju (show (["_law_k","_law_rest_here","_law_deep"]:List Str).Nodup by decide +kernel) rfl (Or.inl rfl)))) (fun C s₀ H₀ ex pn=>rm) (fun C s₀ H₀ ex pn=>peE fun B=>(dh aI (hr.mono (by omega)) (by rfl) (ao (aq 1 (pv 1)) (ao (m5 jo (aq 2 (pv 2)) bf) bw)) (bh (bh eq_nil)))))) bw))) bw))) (j4 (c7 (c7 (c7 gj))) (by decide))))))   mz)   (dz (yc (PW.pt (Rp (jx (jm hq) (aq 2 (pv 2)) bf (iw _)) (Jr (jx Vs (aq 1 (pv 1)) bf (iw _)))))   (dz (um (i:=4) nd (jk hu (Ab (Tp (.cons (.cons (.cons (.cons .nil))))) (j4 (len_strs _) (by decide))) (dh (jy Z) (hr.mono (by omega)) (by rfl) (ao (aq 0 (pv 0)) (ao bf bw)) (bh (bh eq_nil))) (fun _ _=>rfl)))   (dz (um (i:=3) nd (dh (qp Z) (hr.mono (by omega)) (by rfl) (ao (aq 0 (pv 0)) (ao Fe bw)) (bh (bh eq_nil))))   (iu (ji (n8 (ao fj (ao (aq 4 (pv 4)) (ao (aq 3 (pv 3)) (ao (dh aI (hr.mono (by omega)) (by rfl) (ao (aq 0 (pv 0)) (ao (m5 jo (aq 1 (pv 1)) bf) bw)) (bh (bh eq_nil))) (ao (dh aI (hr.mono (by omega)) (by rfl) (ao (aq 0 (pv 0)) (ao (m5 jo (aq 1 (pv 1)) bf) bw)) (bh (bh eq_nil))) bw))))) (j4 (c7 (c7 (c7 (c7 (c7 gj))))) (by decide)))))))   mz)   (dz (um (i:=5) nd (dh (jy Z) (hr.mono (by omega)) (by rfl) (ao (aq 0 (pv 0)) (ao bf bw)) (bh (bh eq_nil))))   (dz (yc (jx (jm hq) (aq 2 (pv 2)) bf (iw _))   (iu (ji (n8 (ao fj (ao (m5 jo bf (dh (qp Z) (hr.mono (by omega)) (by rfl) (ao (aq 0 (pv 0)) (ao Fe bw)) (bh (bh eq_nil)))) (ao (gk (jg vh (by rfl) Z.b_tuple kH (ao (wz (Bj (N:=["_law_k","_law_rest_here"]) ⟨rfl,fun j k h=>match j,h with | 0,h=>(by cases h; exact ⟨_,rfl,rfl,⟨.inl rfl,.inr (.inl rfl),.inl rfl⟩⟩) | _+1,h=>(by cases h)⟩ ⟨rfl,rfl,by decide +kernel,by decide +kernel⟩ rfl (Gx (by rfl) Z.b_range (aq 5 (pv 5))) G6 (fun C s₀ H₀ ex pn=>pgE fun B=>(nu 0 (ju (show (["_law_k","_law_rest_here"]:List Str).Nodup by decide +kernel) rfl (Or.inl rfl)))) (fun C s₀ H₀ ex pn=>rm) (fun C s₀ H₀ ex pn=>peE fun B=>(dh (Ik Z) (hr.mono (by omega)) (by rfl) (ao (aq 1 (pv 1)) (ao Fe bw)) (bh (bh eq_nil)))))) bw))) bw))) (j4 (c7 (c7 (c7 gj))) (by decide)))))   mz)   (iu (ji (n8 (ao fj (ao (gk (jg vh (by rfl) Z.b_tuple kH (ao (wz (Bj (N:=["_law_k","_law_rest_here"]) ⟨rfl,fun j k h=>match j,h with | 0,h=>(by cases h; exact ⟨_,rfl,rfl,⟨.inl rfl,.inr (.inl rfl),.inl rfl⟩⟩) | _+1,h=>(by cases h)⟩ ⟨rfl,rfl,by decide +kernel,by decide +kernel⟩ rfl (Gx (by rfl) Z.b_range (aq 5 (pv 5))) G6 (fun C s₀ H₀ ex pn=>pgE fun B=>(nu 0 (ju (show (["_law_k","_law_rest_here"]:List Str).Nodup by decide +kernel) rfl (Or.inl rfl)))) (fun C s₀ H₀ ex pn=>rm) (fun C s₀ H₀ ex pn=>peE fun B=>(dh (Ik Z) (hr.mono (by omega)) (by rfl) (ao (aq 1 (pv 1)) (ao Fe bw)) (bh (bh eq_nil)))))) bw))) bw)) (j4 (c7 (c7 gj)) (by decide)))))))))
theorem Gu:∀ nn:Nat,qd P w K mg base "_law_paper" (3+nn) ["_law_rest_here","_law_deep"] (_root_.K.kh nn)
 | 0=>zero Z.h27
 | nn+1=>by
  have ih:=Gu nn;have bg:=ih;exact Ny Z bg
theorem Rj:qd P w K mg base "_law_paper" 11 ["_law_rest_here","_law_deep"] (_root_.K.kh 8):=(Gu Z 8)
theorem Rx:qd P w K mg base "_law_duty" 2 ["_law_rest_here"] (_root_.K.Cm):=by
 refine go (N:=["_law_rest_here","_law_way","_law_hand"]) Z.h28 fun _ _ _ _ _ _ _ _ hr hu hq nd=>?_;exact dz (um (i:=1) nd (dh (jy Z) (hr.mono (by decide)) (by rfl) (ao (aq 0 (pv 0)) (ao bf bw)) (bh (bh eq_nil))))   (dz (um (i:=2) nd (jk hu (Ab (Tp (.cons (.cons (.cons (.cons .nil))))) (j4 (len_strs _) (by decide))) (dh (jy Z) (hr.mono (by decide)) (by rfl) (ao (aq 0 (pv 0)) (ao bf bw)) (bh (bh eq_nil))) (fun _ _=>rfl)))   (dz (yc (jx (jm hq) (aq 1 (pv 1)) bf (iw _))   (iu (ji (n8 (ao fj (ao (aq 2 (pv 2)) bw)) (j4 (c7 (c7 gj)) (by decide)))))   mz)   (dz (yc (jx (jm hq) (aq 1 (pv 1)) bf (iw _))   (iu (ji (n8 (ao fj (ao (dh (jy Z) (hr.mono (by decide)) (by rfl) (ao (aq 0 (pv 0)) (ao bf bw)) (bh (bh eq_nil))) bw)) (j4 (c7 (c7 gj)) (by decide)))))   mz)   (iu (ji (n8 (ao fj (ao (dh (jy Z) (hr.mono (by decide)) (by rfl) (ao (aq 0 (pv 0)) (ao bf bw)) (bh (bh eq_nil))) (ao (aq 2 (pv 2)) (ao (dh (jy Z) (hr.mono (by decide)) (by rfl) (ao (aq 0 (pv 0)) (ao bf bw)) (bh (bh eq_nil))) bw)))) (j4 (c7 (c7 (c7 (c7 gj)))) (by decide))))))))
theorem K1:qd P w K mg base "_law_rows" 1 ["_law_rows_here"] (_root_.K.Er):=by
 refine go (N:=["_law_rows_here","_law_words","_law_row","_law_places"]) Z.h29 fun _ _ _ _ _ _ _ _ hr hu hq nd=>?_;exact dz (Iz 1 (Df nd rfl (Or.inl rfl) (Kl bw (j4 gj (by decide)))) (fun _ _ _ h=>h))   (dz (Io PassesOwn.never rfl (Aq (aq 0 (pv 0))) (nu 2 (ju nd rfl (Or.inl rfl)))   (dz (Kc 3 (Ss (N:=["_law_place"]) ⟨rfl,rfl,by decide +kernel,by decide +kernel⟩ rfl (Aq (Jl (aq 2 (pv 2)) Ak (Af (O8 Cg bf)))) (fun C s₀ H₀ ex pn=>pgE fun B=>(nu 0 (ju (show (["_law_place"]:List Str).Nodup by decide +kernel) rfl (Or.inl rfl)))) (fun C s₀ H₀ ex pn=>rm) (fun C s₀ H₀ ex pn=>peE fun B=>(gk (jg mj (by rfl) Z.b_str (by rfl) (ao (aq 0 (pv 0)) bw)))) (ju nd rfl (Or.inl rfl)) rfl) (fun σ H Q h=>Vc ⟨rfl,fun j k h=>match j,h with | _+0,h=>(by cases h)⟩ Am (Vo h)))   (iu (Cu 1 (Ah (Ie jL kf ki v9 (pv 1) (lu (m5 jo (m5 jo (m5 jo fj (Ec fj (aq 3 (pv 3)))) fj) (gk (jg mj (by rfl) Z.b_str (by rfl) (ao (jk hu (aq 2 (pv 2)) (O8 Cg bf) (fun _ _=>rfl)) bw)))) su)))))) Am)   (iu (ji (Ec fj (aq 1 (pv 1))))))
theorem N7 {nn:Nat} (aJ:qd P w K mg base "_law_lines" (2+nn) ["_law_paper_here"] (_root_.K.jf nn)):qd P w K mg base "_law_lines" (2+nn+1) ["_law_paper_here"] (_root_.K.jf (nn+1)):=by
 refine go (N:=["_law_paper_here","_law_head","_law_lines_here","_law_one"]) Z.h30 fun _ _ _ _ _ _ _ _ hr hu hq nd=>?_;exact dz (yc (jx (jm hq) (jk hu (aq 0 (pv 0)) bf (fun _ _=>rfl)) fj (iw _))   (iu (ji (Ab (ao (m5 jo fj (dh (K1 Z) (hr.mono (by omega)) (by rfl) (ao (jk hu (aq 0 (pv 0)) bf (fun _ _=>rfl)) bw) (bh eq_nil))) bw) (j4 (c7 gj) (by decide)))))   mz)   (dz (yc (jx (jm hq) (jk hu (aq 0 (pv 0)) bf (fun _ _=>rfl)) fj (iw _))   (iu (ji (Ab (ao (m5 jo (m5 jo fj (gk (jg mj (by rfl) Z.b_str (by rfl) (ao (jk hu (aq 0 (pv 0)) bf (fun _ _=>rfl)) bw)))) (dh (K1 Z) (hr.mono (by omega)) (by rfl) (ao (jk hu (aq 0 (pv 0)) bf (fun _ _=>rfl)) bw) (bh eq_nil))) bw) (j4 (c7 gj) (by decide)))))   mz)   (dz (yc (jx (jm hq) (jk hu (aq 0 (pv 0)) bf (fun _ _=>rfl)) fj (iw _))   (dz (um (i:=1) nd (Ab (ao (m5 jo (m5 jo (m5 jo fj (jk hu (aq 0 (pv 0)) bf (fun _ _=>rfl))) fj) (gk (jg mj (by rfl) Z.b_str (by rfl) (ao (jk hu (aq 0 (pv 0)) bf (fun _ _=>rfl)) bw)))) bw) (j4 (c7 gj) (by decide))))   (iu (ji (m5 jo (m5 jo (aq 1 (pv 1)) (dh aJ (hr.mono (by omega)) (by rfl) (ao (jk hu (aq 0 (pv 0)) bf (fun _ _=>rfl)) bw) (bh eq_nil))) (dh aJ (hr.mono (by omega)) (by rfl) (ao (jk hu (aq 0 (pv 0)) bf (fun _ _=>rfl)) bw) (bh eq_nil))))))   mz)   (dz (um (i:=2) nd (Ab (ao (m5 jo (m5 jo (m5 jo fj (gk (jg mj (by rfl) Z.b_str (by rfl) (ao (jk hu (aq 0 (pv 0)) bf (fun _ _=>rfl)) bw)))) fj) (gk (jg mj (by rfl) Z.b_str (by rfl) (ao (gk (jc lq (by rfl) Z.b_len iS (ao (jk hu (aq 0 (pv 0)) bf (fun _ _=>rfl)) bw))) bw)))) bw) (j4 (c7 gj) (by decide))))   (dz (Io PassesOwn.never rfl (Aq (jk hu (aq 0 (pv 0)) bf (fun _ _=>rfl))) (nu 3 (ju nd rfl (Or.inl rfl)))   (iu (um (i:=2) nd (m5 jo (aq 2 (pv 2)) (dh aJ (hr.mono (by omega)) (by rfl) (ao (aq 3 (pv 3)) bw) (bh eq_nil))))) Am)   (iu (ji (aq 2 (pv 2))))))))
theorem Ho:∀ nn:Nat,qd P w K mg base "_law_lines" (2+nn) ["_law_paper_here"] (_root_.K.jf nn)
 | 0=>zero Z.h30
 | nn+1=>by
  have ih:=Ho nn;have bp:=ih;exact N7 Z bp
theorem Qx:qd P w K mg base "_law_lines" 112 ["_law_paper_here"] (_root_.K.jf 110):=(Ho Z 110)
theorem Kd:qd P w K mg base "_law_text" 113 ["_law_papers"] (_root_.K.Bf):=by
 refine go (N:=["_law_papers","_law_lines_here","_law_duty_here","_law_paper_here"]) Z.h31 fun _ _ _ _ _ _ _ _ hr hu hq nd=>?_;exact dz (Iz 1 (Df nd rfl (Or.inl rfl) (Kl bw (j4 gj (by decide)))) (fun _ _ _ h=>h))   (dz (Io PassesOwn.never rfl (Aq (aq 0 (pv 0))) (a03 (is:=[2,3]) (a2a rfl (Fd (ju nd rfl (Or.inl rfl)) (Fd (ju nd rfl (Or.inl rfl)) U5))))   (dz (Cu 1 (Ah (Ie jL kf ki v9 (pv 1) (lu (Ec fj (wz (Bj (N:=["_law_word"]) ⟨rfl,fun j k h=>match j,h with | _+0,h=>(by cases h)⟩ ⟨rfl,rfl,by decide +kernel,by decide +kernel⟩ rfl (Aq (aq 2 (pv 2))) Am (fun C s₀ H₀ ex pn=>pgE fun B=>(nu 0 (ju (show (["_law_word"]:List Str).Nodup by decide +kernel) rfl (Or.inl rfl)))) (fun C s₀ H₀ ex pn=>rm) (fun C s₀ H₀ ex pn=>peE fun B=>(gk (jg mj (by rfl) Z.b_str (by rfl) (ao (aq 0 (pv 0)) bw))))))) su))))   (iu (Iz 1 (Df nd rfl (Or.inl rfl) (Zr 1 (pv 1) (dh (Qx Z) (hr.mono (by decide)) (by rfl) (ao (aq 3 (pv 3)) bw) (bh eq_nil)))) (fun _ _ _ h=>h)))) Am)   (iu (ji (Ec fj (aq 1 (pv 1))))))
theorem O5 {nn:Nat} (bq:qd P w K mg base "_law_alike" (2+nn) ["_law_found","_law_due"] (_root_.K.mq nn)):qd P w K mg base "_law_alike" (2+nn+1) ["_law_found","_law_due"] (_root_.K.mq (nn+1)):=by
 refine go (N:=["_law_found","_law_due"]) Z.h32 fun _ _ _ _ _ _ _ _ hr hu hq nd=>?_;exact dz (yc (Ds (Im (by rfl) Z.b_isinstance (by rfl) Z.b_tuple (aq 1 (pv 1))))   (dz (yc (PW.pt (a2k (Ma (Ds (Im (by rfl) Z.b_isinstance (by rfl) Z.b_tuple (aq 0 (pv 0))))) (Q7 (jx (Oq hq) (gk (jc lq (by rfl) Z.b_len iS (ao (aq 0 (pv 0)) bw))) (gk (jc lq (by rfl) Z.b_len iS (ao (aq 1 (pv 1)) bw))) (iw _)))))   (iu (ji Fe))   mz)   (iu (ji (gk (jc (Jx (by rfl)) (by rfl) Z.b_all mR (ao (wz (Bj (N:=["_law_one","_law_other"]) ⟨rfl,fun j k h=>match j,h with | _+0,h=>(by cases h)⟩ ⟨rfl,rfl,by decide +kernel,by decide +kernel⟩ rfl (ae7 (by rfl) Z.b_zip (aq 0 (pv 0)) (aq 1 (pv 1))) abk (fun C s₀ H₀ ex pn=>pgE fun B=>(a03 (is:=[0,1]) (a2a rfl (Fd (ju (show (["_law_one","_law_other"]:List Str).Nodup by decide +kernel) rfl (Or.inl rfl)) (Fd (ju (show (["_law_one","_law_other"]:List Str).Nodup by decide +kernel) rfl (Or.inl rfl)) U5))))) (fun C s₀ H₀ ex pn=>rm) (fun C s₀ H₀ ex pn=>peE fun B=>(dh bq (hr.mono (by omega)) (by rfl) (ao (aq 0 (pv 0)) (ao (aq 1 (pv 1)) bw)) (bh (bh eq_nil)))))) bw))))))   mz)   (dz (yc (Ds (Ml (by rfl) Z.b_isinstance (by rfl) Z.b_str (aq 1 (pv 1))))   (iu (ji (Eb (Ml (by rfl) Z.b_isinstance (by rfl) Z.b_str (aq 0 (pv 0))) (Hl (ud (jm hq) (aq 0 (pv 0)) (aq 1 (pv 1)) (iw _))))))   mz)   (iu (ji (Eb (Wm (by rfl) Z.b_isinstance (by rfl) Z.b_int (aq 0 (pv 0))) (Eb (abt (U6 (by rfl) Z.b_isinstance (by rfl) Z.b_bool (aq 0 (pv 0)))) (Hl (ud (jm hq) (aq 0 (pv 0)) (aq 1 (pv 1)) (iw _))))))))
theorem G8:∀ nn:Nat,qd P w K mg base "_law_alike" (2+nn) ["_law_found","_law_due"] (_root_.K.mq nn)
 | 0=>zero Z.h32
 | nn+1=>by
  have ih:=G8 nn;have bc:=ih;exact O5 Z bc
theorem Qn:qd P w K mg base "_law_alike" 112 ["_law_found","_law_due"] (_root_.K.mq 110):=(G8 Z 110)
theorem Dw:qd P w K mg base "_law_right" 114 ["_law_papers"] (_root_.K.yw cR cN):=by
 refine go (N:=["_law_papers","_law_handed","_law_text_here","_law_found"]) Z.h33 fun _ _ _ _ _ _ _ _ hr hu hq nd=>?_;exact dz (um (i:=1) nd (gk (jg X8 (by rfl) Z.b_list PyProof.Rows.boot_list (ao (aq 0 (pv 0)) bw))))   (dz (um (i:=2) nd (dh (Kd Z) (hr.mono (by decide)) (by rfl) (ao (aq 0 (pv 0)) bw) (bh eq_nil)))   (dz (yc (PW.pt (a2k (jx (Oq hq) (dh (Lb Z) (hr.mono (by decide)) (by rfl) (ao (aq 1 (pv 1)) bw) (bh eq_nil)) (aq 2 (pv 2)) (iw _)) (Q7 (jx (a0z hr.afy) (aq 1 (pv 1)) (aq 0 (pv 0)) (iw _)))))   (iu (ji Fe))   mz)   (dz (Kc 3 (Df nd rfl (Or.inl rfl) (dh (Bv Z).norm (hr.mono (by decide)) (by rfl) (ao (aq 2 (pv 2)) bw) (bh eq_nil))) (fun _ _ _ h=>h))   (dz (yc (PW.pt (a2k (Ma (Ds (a2v (by rfl) Z.b_isinstance (by rfl) Z.b_list (aq 3 (pv 3))))) (Q7 (Ma (Ds (dh (Qn Z) (hr.mono (by decide)) (by rfl) (ao (Qt (by rfl) Z.b_tuple (aq 3 (pv 3))) (ao (gk (jg vh (by rfl) Z.b_tuple kH (ao (aq 0 (pv 0)) bw))) bw)) (bh (bh eq_nil))))))))   (iu (ji Fe))   mz)   (dz (a3h 3 (Ah (Ie jL kf ki v9 (pv 3) (lu bf su))))   (iu (ji (aap (aa4 hr.afy) (dh (Bv Z).norm (hr.mono (by decide)) (by rfl) (ao (aq 2 (pv 2)) bw) (bh eq_nil)) (aq 0 (pv 0)) (iw _)))))))))
theorem acn {f:Addr} {fd:FuncData} (F:Fun K "law" "law" (top 46) f fd):Du P w K mg base CX0 115 f fd ["_law_script"] (spF K (["_law_script"]:List Str).length (_root_.K.aao cR cN)):=by
 refine go0 (N:=["_law_script","_law_deep","_law_k","_law_cells","_law_papers","_law_cell","_law_rest_here","_law_far"]) F fun _ _ _ _ _ _ _ _ hr hu hq nd=>?_;refine dz ?_ ?_
 ·exact um (i:=1) nd (n8 (ao fj (ao (n8 (ao (n8 (ao bf (ao bf bw)) (j4 (c7 (c7 gj)) (by decide))) bw) (j4 (c7 gj) (by decide))) bw)) (j4 (c7 (c7 gj)) (by decide)))
 ·refine dz ?_ ?_
  ·exact Io PassesOwn.never rfl (Gx (by rfl) Z.b_range bf) (nu 2 (ju nd rfl (Or.inl rfl)))   (iu (um (i:=1) nd (n8 (ao fj (ao fj (ao (aq 2 (pv 2)) (ao (n8 (ao fj (ao (n8 bw (j4 gj (by decide))) bw)) (j4 (c7 (c7 gj)) (by decide))) (ao (aq 1 (pv 1)) bw))))) (j4 (c7 (c7 (c7 (c7 (c7 gj))))) (by decide))))) G6
  ·refine dz ?_ ?_
   ·refine Io ?_ ?_ ?_ ?_ ?_ ?_
    ·exact PassesOwn.never
    ·exact rfl
    ·exact Gx (by rfl) Z.b_range (gk (jc (Hz (by rfl)) (by rfl) Z.b_min mS (ao bf (ao (gk (jc lq (by rfl) Z.b_len iS (ao (aq 0 (pv 0)) bw))) bw))))
    ·exact nu 2 (ju nd rfl (Or.inl rfl))
    ·refine dz ?_ ?_
     ·exact Kc 3 (Ss (N:=["_law_j","_law_script"]) ⟨rfl,rfl,by decide +kernel,by decide +kernel⟩ rfl (a2y (by rfl) Z.b_range (aq 2 (pv 2)) (gk (jc (Hz (by rfl)) (by rfl) Z.b_min mS (ao (gk (jc lq (by rfl) Z.b_len iS (ao (aq 0 (pv 0)) bw))) (ao bf bw)))) bf) (fun C s₀ H₀ ex pn=>pgE fun B=>(nu 0 (ju (show (["_law_j","_law_script"]:List Str).Nodup by decide +kernel) rfl (Or.inl rfl)))) (fun C s₀ H₀ ex pn=>rm) (fun C s₀ H₀ ex pn=>peE fun B=>(jk hu (aq 1 (pv 1)) (aq 0 (pv 0)) (fun _ _=>rfl))) (ju nd rfl (Or.inl rfl)) rfl) (fun σ H Q h=>Vc ⟨rfl,fun j k h=>match j,h with | 0,h=>(by cases h; exact ⟨_,rfl,rfl,⟨.inl rfl,.inr (.inl rfl),.inl rfl⟩⟩) | _+1,h=>(by cases h)⟩ a0e (Vo h))
     ·refine dz ?_ ?_
      ·refine yc ?_ ?_ ?_
       ·exact jx (jm hq) (m5 Dy (jk hu (aq 0 (pv 0)) bf (fun _ _=>rfl)) bf) bf (iw _)
       ·refine iu ?_
        ·exact Kc 3 (Ss (N:=["_law_cell"]) ⟨rfl,rfl,by decide +kernel,by decide +kernel⟩ rfl (Aq (aq 3 (pv 3))) (fun C s₀ H₀ ex pn=>pgE fun B=>(nu 0 (ju (show (["_law_cell"]:List Str).Nodup by decide +kernel) rfl (Or.inl rfl)))) (fun C s₀ H₀ ex pn=>rm) (fun C s₀ H₀ ex pn=>peE fun B=>(dh (T7 Z) (hr.mono (by decide)) (by rfl) (ao (aq 0 (pv 0)) bw) (bh eq_nil))) (ju nd rfl (Or.inl rfl)) rfl) (fun σ H Q h=>Vc ⟨rfl,fun j k h=>match j,h with | _+0,h=>(by cases h)⟩ Am (Vo h))
       ·exact mz
      ·refine dz ?_ ?_
       ·exact Iz 4 (Df nd rfl (Or.inl rfl) (Kl bw (j4 gj (by decide)))) (fun _ _ _ h=>h)
       ·refine dz ?_ ?_
        ·refine Io ?_ ?_ ?_ ?_ ?_ ?_
         ·exact PassesOwn.never
         ·exact rfl
         ·exact Aq (Ja (aq 3 (pv 3)) Ak (Af bf))
         ·exact nu 5 (ju nd rfl (Or.inl rfl))
         ·refine dz ?_ ?_
          ·exact Kc 6 (Df nd rfl (Or.inl rfl) (dh (Uo Z) (hr.mono (by decide)) (by rfl) (ao (m5 jo (aq 5 (pv 5)) (gk (jc (Yr (by rfl)) (by rfl) Z.b_sum PyProof.Rows.boot_sum (ao (Ja (aq 3 (pv 3)) (Af bf) Ak) bw)))) bw) (bh eq_nil))) (fun _ _ _ h=>h)
          ·exact iu (Cu 4 (Ah (Ie jL kf ki v9 (pv 4) (lu (n8 (ao (dh (Rx Z) (hr.mono (by decide)) (by rfl) (ao (aq 6 (pv 6)) bw) (bh eq_nil)) (ao (dh (Rj Z) (hr.mono (by decide)) (by rfl) (ao (aq 6 (pv 6)) (ao bf bw)) (bh (bh eq_nil))) bw)) (j4 (c7 (c7 gj)) (by decide))) su))))
         ·exact Am
        ·exact iu (yc (Ma (Ds (dh (Dw Z) (hr.mono (by decide)) (by rfl) (ao (a4i 4 (pv 4) (Af (m5 Dy (jk hu (aq 3 (pv 3)) bf (fun _ _=>rfl)) bf)) Ak) bw) (bh eq_nil))))   (iu (ji Fe))   mz)
    ·exact G6
   ·refine dz ?_ ?_
    ·refine um (i:=7) ?_ ?_
     ·exact nd
     ·refine n8 ?_ ?_
      ·refine ao ?_ ?_
       ·exact fj
       ·refine ao ?_ ?_
        ·exact fj
        ·refine ao ?_ ?_
         ·exact m5 Nj bf (m5 Vr (m5 K6 bf bf) bf)
         ·exact ao (n8 (ao fj (ao (n8 (ao (n8 (ao (m5 Vr (m5 K6 bf bf) bf) (ao bf bw)) (j4 (c7 (c7 gj)) (by decide))) bw) (j4 (c7 gj) (by decide))) bw)) (j4 (c7 (c7 gj)) (by decide))) (ao (n8 (ao fj (ao (n8 bw (j4 gj (by decide))) bw)) (j4 (c7 (c7 gj)) (by decide))) bw)
      ·exact j4 (c7 (c7 (c7 (c7 (c7 gj))))) (by decide)
    ·refine dz ?_ ?_
     ·refine yc ?_ ?_ ?_
      ·refine a93 (a0z hr.afy) ?_ ?_ ?_
       ·exact dh (Bv Z).norm (hr.mono (by decide)) (by rfl) (ao (dh (Kd Z) (hr.mono (by decide)) (by rfl) (ao (Ab (ao (n8 (ao (n8 (ao fj (ao fj bw)) (j4 (c7 (c7 gj)) (by decide))) (ao (aq 7 (pv 7)) bw)) (j4 (c7 (c7 gj)) (by decide))) bw) (j4 (c7 gj) (by decide))) bw) (bh eq_nil)) bw) (bh eq_nil)
       ·exact Ab (ao (n8 (ao (n8 (ao fj (ao fj bw)) (j4 (c7 (c7 gj)) (by decide))) (ao (aq 7 (pv 7)) bw)) (j4 (c7 (c7 gj)) (by decide))) bw) (j4 (c7 gj) (by decide))
       ·exact iw _
      ·exact iu (ji Fe)
      ·exact mz
     ·refine iu ?_
      ·refine ji ?_
       ·refine Eb ?_ ?_
        ·exact dh (Dw Z) (hr.mono (by decide)) (by rfl) (ao (Ab bw (j4 gj (by decide))) bw) (bh eq_nil)
        ·exact Hl (dh (Dw Z) (hr.mono (by decide)) (by rfl) (ao (Ab (ao (n8 (ao (n8 (ao fj (ao bf bw)) (j4 (c7 (c7 gj)) (by decide))) (ao (aq 1 (pv 1)) bw)) (j4 (c7 (c7 gj)) (by decide))) bw) (j4 (c7 gj) (by decide))) bw) (bh eq_nil))
end
end D
end
section
namespace C
open PySem
theorem R9 {α:Type} {h f:α->T} {g:G} {c:M Bool} {e:M T} {nv:Nat} {aw:List Slot} {sto:List SO} (aO:aw.map Yk=aw) :
  ∀ (l:List α) (acc:List T) (pre:List Slot),pre.length=nv->acc.length+l.length<=lim ->
   (∀ a∈l,∀ pre:List Slot,pre.length=nv->∃ pre',pre'.length=nv/\g (h a) ⟨pre++aw,sto⟩=some ⟨pre'++aw,sto⟩/\c ⟨pre'++aw,sto⟩=some (true,⟨pre'++aw,sto⟩)/\e ⟨pre'++aw,sto⟩=some (f a,⟨pre'++aw,sto⟩)) ->
   ∃ s',Fl g c e (l.map h) ⟨pre++aw,sto⟩ acc=some (acc++l.map f,s')/\s'.sto=sto
 | [],acc,pre,hp,hl,H=>⟨⟨pre++aw,sto⟩,by simp [Fl],rfl⟩
 | a::l,acc,pre,hp,hl,H=>by
  obtain ⟨pre',p1,p2,p3,p4⟩:=H a ie pre hp;have hlen:acc.length<lim:=by simp at hl ⊢; omega
  obtain ⟨s',q1,q2⟩:=R9 aO l (acc++[f a]) (pre'.map Yk) (by simpa using p1) (by simp at hl ⊢; omega) fun b hb=>H b (ij _ hb);refine ⟨s',?_,q2⟩;rw [iL,Fl,p2];dsimp only;rw [p3];dsimp only;rw [p4];dsimp only;rw [hU hlen,jt];dsimp only;rw [jT,aO,q1];simp
theorem Bm {α:Type} (h f:α->T) (l:List α) {g:G} {c:M Bool} {e:M T} {nv:Nat} {ci:List Nat} {it:M (List T)} {s s1:Sta} (env:List Slot) (aw:List Slot) (hit:it s=some (l.map h,s1)) (cG:jq ci s1.env=env) (ed:ci.map (fun i=>(env[i]?).getD none)=aw) (aO:aw.map Yk=aw) (hl:l.length<=lim)
  (H:∀ a∈l,∀ pre:List Slot,pre.length=nv->∃ pre',pre'.length=nv/\g (h a) ⟨pre++aw,s1.sto⟩=some ⟨pre'++aw,s1.sto⟩/\c ⟨pre'++aw,s1.sto⟩=some (true,⟨pre'++aw,s1.sto⟩)/\e ⟨pre'++aw,s1.sto⟩=some (f a,⟨pre'++aw,s1.sto⟩)) :
  qm nv ci g it c e s=some (.lst (l.map f),⟨env,s1.sto⟩):=by
 obtain ⟨s',q1,q2⟩:=R9 aO l [] (List.replicate nv none) (by simp) (by simpa using hl) H;unfold qm;rw [hit];dsimp only;rw [cG,ed,q1];dsimp only;rw [q2]; rfl
def okS (x:Str):Prop:=PyData.canLay0 (.str x)=true
theorem Ef {x:Str} (h:okS x):dat (.str x)=some (.str x):=by
 unfold okS at h;simp [dat,h]
theorem Tj {a b:Str} (ha:okS a) (hb:okS b):neO (.str a) (.str b)=some (.bl (!(a==b))):=by
 simp [neO,eqT,eqD,Ef ha,Ef hb,PyData.depth,PyData.eqv]
def Pl (n:Nat) (t:T):Prop:=∃ d,dat t=some d/\d.depth<=n
mutual
theorem Wd:∀ d:PyData,d.canLay0=true->PyData.eqv d d=true
 | .none,_=>by simp [PyData.eqv]
 | .bool b,_=>by simp [PyData.eqv]
 | .int i,_=>by simp [PyData.eqv]
 | .str x,_=>by simp [PyData.eqv]
 | .list xs,h=>by simp only [PyData.eqv]; exact Jy xs (by simpa [PyData.canLay0] using h)
 | .tuple xs,h=>by simp only [PyData.eqv]; exact Jy xs (by simpa [PyData.canLay0] using h)
 | .dict _,h=>by simp [PyData.canLay0] at h
theorem Jy:∀ xs:List PyData,PyData.canLayAll0 xs=true->PyData.eqvAll xs xs=true
 | [],_=>by simp [PyData.eqvAll]
 | x::xs,h=>by
  simp only [PyData.canLayAll0,Bool.and_eq_true] at h;simp only [PyData.eqvAll,Wd x h.1,Jy xs h.2,Bool.and_self]
end
end C
namespace C
open PySem
end C
namespace C
open PySem
theorem Gh {α:Type} (h:α->T) (l:List α) {k:Nat} (hk:k<l.length):dw (.lst (l.map h)) (.int (k:Int))=some (h l[k]):=by
 have h1:(k:Int)<(l.length:Int):=by omega
 simp [dw,ixI,h1,List.getElem?_eq_getElem hk]
end C
end
open C
local macro_rules | `(tactic| simp! [$ls,*])=>`(tactic| simp [v8,nj,sIf,nq,sNew,xg,Ce,sGo,U9,n6,Ai,Az,cu,Mi,Ep,mOr,yd,mIf,mOp,mUn,au,gq,aj,cj,ak,Rq,f9,jz,hName,a81,Ad,Bg,ltT,leT,Ax,uo,a1a,Mf,Ql,Ey,J4,p7,jq,Yk,$ls,*])
section
namespace C
open PySem
theorem wu {a b:Int}:eqO (.int a) (.int b)=some (.bl (a==b)):=rfl
theorem a2q {a b:Int}:neO (.int a) (.int b)=some (.bl (!(a==b))):=by simp [neO,eqT,eqD,dat,PyData.depth,PyData.eqv]
theorem qx {a b:Str} (ha:okS a) (hb:okS b):eqO (.str a) (.str b)=some (.bl (a==b)):=by
 simp [eqO,eqT,eqD,Ef ha,Ef hb,PyData.depth,PyData.eqv]
end C
end
section
namespace K
open C PySem
section
variable {a b:M T} {l r:M (List T)} {s s1 s2:Sta} {t u v:T} {ts:List T} {i:Nat} {F:Fn} {z:List SO} {x y:S}
theorem zo {f:T->T->Option T} (h1:a s=some (t,s1)) (h2:b s1=some (u,s2)) (h3:f t u=some v):mOp f a b s=some (v,s2):=by
 unfold mOp; rw [h1]; dsimp only; rw [h2]; dsimp only; rw [h3]
theorem zm {f:List T->Option T} (h:l s=some (ts,s1)) (h2:f ts=some u):gq f l s=some (u,s1):=by
 unfold gq; rw [h]; dsimp only; rw [h2]
theorem zc (h:a s=some (t,s1)) (h2:l s1=some (ts,s2)):aj a l s=some (t::ts,s2):=by
 unfold aj; rw [h]; dsimp only; rw [h2]
theorem zf (h:l s=some (ts,s1)) (h2:F ts s1.sto=some (t,z)):f9 F l s=some (t,⟨s1.env,z⟩):=by
 unfold f9; rw [h]; dsimp only; rw [h2]
theorem zs (h:a s=some (t,s1)):nq i a s=some (.next,jz i t false s1):=by unfold nq; rw [h]
theorem zr (h:a s=some (t,s1)):xg a s=some (.ret t,s1):=by unfold xg; rw [h]
theorem zq {q:Option (C.Flow × Sta)} (h:x s=some (.next,s1)) (h2:y s1=q):nj x y s=q:=by unfold nj; rw [h]; exact h2
theorem zt {k:Bool} (h:a s=some (.bl k,s1)):cu a s=some (k,s1):=by unfold cu; rw [h]
theorem zk {c:M Bool} (h:c s=some (true,s1)) {q:Option (C.Flow × Sta)} (h2:x s1=q):sIf c x y s=q:=by unfold sIf; rw [h]; exact h2
theorem ze {c:M Bool} (h:c s=some (false,s1)) {q:Option (C.Flow × Sta)} (h2:y s1=q):sIf c x y s=q:=by unfold sIf; rw [h]; exact h2
theorem ys {s':Sta} (h:a s=some (t,s1)) (e:jz i t false s1=s'):nq i a s=some (.next,s'):=by unfold nq; rw [h,<- e]
theorem yn {s':Sta} (h:a s=some (t,s1)) (e:jz i t true s1=s'):sNew i a s=some (.next,s'):=by unfold sNew; rw [h,<- e]
theorem md {i j:Int} (h:0<j):Mf (.int i) (.int j)=some (.int (i%j)):=hU h
theorem a71 {α:Type} {f:α->T} {l:List α}:Ax [.lst (l.map f)]=some (.int l.length):=by show some (T.int ((l.map f).length:Int))=_; rw [hZ]
theorem ad {p q:Str} (h:p.length+q.length<lim):uo (.str p) (.str q)=some (.str (p++q)):=hU h
theorem zun {f:T->Option T} (h:a s=some (t,s1)) (h2:f t=some u):mUn f a s=some (u,s1):=by unfold mUn; rw [h]; dsimp only; rw [h2]
theorem zis {α:Type} {f:α->T} {k:List α} (h:a s=some (.lst (k.map f),s1)) (hl:k.length<lim):Bg a s=some (k.map f,s1):=by
 unfold Bg; rw [h]; dsimp only; rw [hZ,hU hl]
theorem zqr (h:x s=some (.ret t,s1)):nj x y s=some (.ret t,s1):=by unfold nj; rw [h]
theorem a86 {c:M Bool} {k:Bool} (h:c s=some (k,s1)):Mi c s=some (!k,s1):=by unfold Mi; rw [h]
theorem afk {c d:M Bool} (h:c s=some (true,s1)):mOr c d s=some (true,s1):=by unfold mOr; rw [h]
theorem a7v {c d:M Bool} {q:Option (Bool × Sta)} (h:c s=some (false,s1)) (h2:d s1=q):mOr c d s=q:=by unfold mOr; rw [h]; exact h2
theorem zb {c:M Bool} {k:Bool} (h:c s=some (k,s1)):yd c s=some (.bl k,s1):=by unfold yd; rw [h]
theorem za {s':Sta} {xs:List T} (h:a s=some (t,s1)) (hx:s1.env[i]? = some (some (.lst xs,true))) (hl:xs.length<lim) (hs:Az i s=true) (e:jz i (.lst (xs++[t])) true s1=s'):n6 i a s=some (.next,s'):=by
 unfold n6; rw [hU hs,h]; dsimp only; rw [hx]; dsimp only; rw [hU hl,e]
theorem abo {α:Type} {f:α->Bool}:∀ {l:List α},a9r [.lst (l.map fun r=>.bl (f r))]=some (.bl (l.all f))/\ah8 [.lst (l.map fun r=>.bl (f r))]=some (.bl (l.any f)):=fun {l}=>by
 have q:∀ l:List α,Ip (l.map fun r=>.bl (f r))=some (l.map f):=fun l=>by
  induction l with
  | nil=>rfl
  | cons a l ih=>rw [iL,Ip,ih]; rfl
 refine ⟨?_,?_⟩
 ·show (Ip (l.map fun r=>.bl (f r))).map _=_;rw [q]; simp
 ·show (Ip (l.map fun r=>.bl (f r))).map _=_;rw [q]; simp
theorem adg {c d:M Bool} {j k:Bool} (h1:c s=some (j,s)) (h2:d s=some (k,s)):Ep c d s=some (j&&k,s):=by
 unfold Ep; rw [h1];cases j
 ·rfl
 ·exact h2
theorem mu2 {p q:Int} (h:a5a q=true):a3n (.int p) (.int q)=some (.int (p * q)):=hU (by rw [h]; simp)
theorem zf0 (h:l s=some (ts,s1)) (h2:F ts s1.sto=some (t,s1.sto)):f9 F l s=some (t,s1):=by
 unfold f9; rw [h]; dsimp only; rw [h2]
theorem zex {s':Sta} {xs zs:List T} (h:a s=some (t,s1)) (hq:J4 t=some zs) (hx:s1.env[i]? = some (some (.lst xs,true))) (hl:xs.length+zs.length<lim) (hs:Az i s=true) (e:jz i (.lst (xs++zs)) true s1=s'):Ai i a s=some (.next,s'):=by
 unfold Ai; rw [hU hs,h]; dsimp only; rw [hq,hx]; dsimp only; rw [hU hl,e]
theorem zos {p:Int} (h:a s=some (.int p,s1)):qe a s=some (some p,s1):=by unfold qe; rw [h]
theorem zrun {n:Nat} {A:List T} {z0:List SO} (h:x ⟨A.map (fun t=>some (t,false))++List.replicate (n - A.length) none,z0⟩=some (.ret t,s1)) (h2:s1.sto=z):v8 n x A z0=some (t,z):=by
 unfold v8; rw [h]; dsimp only; rw [h2]
end
section
variable {a b:SX} {u:S} {s s1 s2:Sta} {q:Option ((C.Flow ⊕ T) × Sta)} {t x:T} {fl:C.Flow} {c:M Bool} {ms:M (List T)} {F:FnX} {ts:List T} {z z0:List SO} {m:M T} {n i:Nat} {A:List T} {r:T ⊕ T} {mx:MX} {l:MXs}
theorem xq (h:a s=some (.inl .next,s1)) (h2:b s1=q):zu a b s=q:=by unfold zu; rw [h]; exact h2
theorem xqr (h:a s=some (.inr t,s1)):zu a b s=some (.inr t,s1):=by unfold zu; rw [h]
theorem xqt (h:a s=some (.inl (.ret t),s1)):zu a b s=some (.inl (.ret t),s1):=by unfold zu; rw [h]
theorem xl (h:u s=some (fl,s1)):lx u s=some (.inl fl,s1):=by unfold lx; rw [h]
theorem xik (h:c s=some (true,s1)) (h2:a s1=q):xIf c a b s=q:=by unfold xIf; rw [h]; exact h2
theorem xie (h:c s=some (false,s1)) (h2:b s1=q):xIf c a b s=q:=by unfold xIf; rw [h]; exact h2
theorem xra (h:m s=some (t,s1)):Km m s=some (.inr t,s1):=by unfold Km; rw [h]
theorem ah0 (h:a ⟨A.map (fun t=>some (t,false))++List.replicate (n - A.length) none,z0⟩=some (.inl .next,s1)) (e:s1.sto=z):uw n a A z0=some (.inl .non,z):=by unfold uw; rw [h]; dsimp only; rw [e]
theorem Ed (h:a ⟨A.map (fun t=>some (t,false))++List.replicate (n - A.length) none,z0⟩=some (.inl (.ret t),s1)) (e:s1.sto=z):uw n a A z0=some (.inl t,z):=by unfold uw; rw [h]; dsimp only; rw [e]
theorem sy (h:a ⟨A.map (fun t=>some (t,false))++List.replicate (n - A.length) none,z0⟩=some (.inr t,s1)) (e:s1.sto=z):uw n a A z0=some (.inr t,z):=by unfold uw; rw [h]; dsimp only; rw [e]
theorem xup (h:m s=some (t,s1)):Fg m s=some (.inl t,s1):=by unfold Fg; rw [h]
theorem xmc (h:ms s=some (ts,s1)) (h2:F ts s1.sto=some (r,z)):j9 F ms s=some (r,⟨s1.env,z⟩):=by unfold j9; rw [h]; dsimp only; rw [h2]
theorem xcs (h:mx s=some (.inl t,s1)) (h2:l s1=some (.inl ts,s2)):iz mx l s=some (.inl (t::ts),s2):=by unfold iz; rw [h]; dsimp only; rw [h2]
theorem Yl (h:mx s=some (.inr x,s1)):iz mx l s=some (.inr x,s1):=by unfold iz; rw [h]
theorem xst (h:mx s=some (.inl t,s1)) (e:jz i t false s1=s2):Kw i mx s=some (.inl .next,s2):=by unfold Kw; rw [h]; dsimp only; rw [e]
theorem xsr (h:mx s=some (.inr x,s1)):Kw i mx s=some (.inr x,s1):=by unfold Kw; rw [h]
theorem xrt (h:mx s=some (.inl t,s1)):P0 mx s=some (.inl (.ret t),s1):=by unfold P0; rw [h]
theorem xrr (h:mx s=some (.inr x,s1)):P0 mx s=some (.inr x,s1):=by unfold P0; rw [h]
theorem xdt (h:mx s=some (.inl t,s1)):Bo mx s=some (.inl .next,s1):=by unfold Bo; rw [h]
theorem xdr (h:mx s=some (.inr x,s1)):Bo mx s=some (.inr x,s1):=by unfold Bo; rw [h]
theorem xtu (h:l s=some (.inl ts,s1)):Bb (fun l=>some (.tup l)) l s=some (.inl (.tup ts),s1):=by unfold Bb; rw [h]
theorem xtr (h:l s=some (.inr x,s1)):Bb (fun l=>some (.tup l)) l s=some (.inr x,s1):=by unfold Bb; rw [h]
theorem ac0 {c:M Bool} {m1 m2:M T} {q:Option (T × Sta)} (h:c s=some (true,s1)) (h2:m1 s1=q):mIf c m1 m2 s=q:=by unfold mIf; rw [h]; exact h2
theorem a6p {c:M Bool} {m1 m2:M T} {q:Option (T × Sta)} (h:c s=some (false,s1)) (h2:m2 s1=q):mIf c m1 m2 s=q:=by unfold mIf; rw [h]; exact h2
theorem wxf {k:Nat} (h:c s=some (false,s1)):qg (k+1) c a s=some (.inl .next,s1):=by rw [qg]; dsimp only; rw [h]
theorem wxt {k:Nat} (h:c s=some (true,s1)) (h1:a s1=some (.inl .next,s2)) (h2:qg k c a s2=q):qg (k+1) c a s=q:=by rw [qg]; dsimp only; rw [h]; dsimp only; rw [h1]; exact h2
theorem wxr {k:Nat} (h:c s=some (true,s1)) (h1:a s1=some (.inr x,s2)):qg (k+1) c a s=some (.inr x,s2):=by rw [qg]; dsimp only; rw [h]; dsimp only; rw [h1]
end
abbrev cs (x:Str):List Nat:=x.cps.toList
def ab7 (c:Nat):Bool:=decide (97<=c)&&decide (c<=122)
def Xm (c:Nat):Bool:=decide (48<=c)&&decide (c<=57)
def ac8 (c:Nat):Bool:=ab7 c||Xm c
def st (l:List Nat):Str:=⟨l.toArray⟩
theorem afz (l:List Nat):cs (st l)=l:=rfl
theorem Ng (x:Str):st (cs x)=x:=by cases x; simp [st,cs]
theorem zx (x:Str):x.length=(cs x).length:=by show x.cps.size=_; simp [cs]
theorem S8 (c:Nat) (y:Str):inS (.str ⟨#[c]⟩) (.str y)=some (.bl (decide (c∈cs y))):=by
 show some (T.bl _)=_;rw [StrLaws.found_one]
theorem Zh (c:Nat):decide (c∈cs "abcdefghijklmnopqrstuvwxyz")=ab7 c:=by
 have e:cs "abcdefghijklmnopqrstuvwxyz" = [97,98,99,100,101,102,103,104,105,106,107,108,109,110,111,112,113,114,115,116,117,118,119,120,121,122]:=by decide +kernel
 rw [e,jA,iG];simp only [List.mem_cons,List.not_mem_nil,or_false,ab7,Bool.and_eq_true,decide_eq_true_eq];omega
theorem Zg (c:Nat):decide (c∈cs "0123456789")=Xm c:=by
 have e:cs "0123456789" = [48,49,50,51,52,53,54,55,56,57]:=by decide +kernel
 rw [e,jA,iG];simp only [List.mem_cons,List.not_mem_nil,or_false,Xm,Bool.and_eq_true,decide_eq_true_eq];omega
theorem ab2 (c:Nat):decide (c∈cs "abcdefghijklmnopqrstuvwxyz0123456789")=ac8 c:=by
 have e:cs "abcdefghijklmnopqrstuvwxyz0123456789" = cs "abcdefghijklmnopqrstuvwxyz" ++ cs "0123456789" := by decide +kernel
 have h1:=Zh c;have h2:=Zg c;rw [jA,iG] at h1 h2 ⊢;rw [e,jn,h1,h2,ac8,lR]
theorem adn (c:Nat):inS (.str ⟨#[c]⟩) (.str "abcdefghijklmnopqrstuvwxyz")=some (.bl (ab7 c)):=by rw [S8,Zh]
theorem ada (c:Nat):inS (.str ⟨#[c]⟩) (.str "0123456789")=some (.bl (Xm c)):=by rw [S8,Zg]
theorem ac6 (c:Nat):inS (.str ⟨#[c]⟩) (.str "abcdefghijklmnopqrstuvwxyz0123456789")=some (.bl (ac8 c)):=by rw [S8,ab2]
def Pn (x:Str):Prop:=(∀ c∈cs x,c<128)/\(cs x).length<1000
theorem Pn.okS {x:Str} (h:Pn x):okS x:=by
 unfold C.okS PyData.canLay0 PyData.strOk;rw [<- mT,lA];intro c hc;have:=h.1 c hc;simp only [decide_eq_true_eq];omega
theorem Pn.lt {x:Str} (h:Pn x):x.length<lim:=by have:=h.2; rw [zx]; show _<1000000; omega
theorem Pn.all {x:Str} (h:Pn x):x.cps.all (· < 128)=true:=by
 rw [<- mT,lA];intro c hc;exact iF (h.1 c hc)
theorem Zf {c:Nat} (h:c<128):okS (⟨#[c]⟩:Str):=by
 unfold C.okS PyData.canLay0 PyData.strOk;simp; omega
theorem item_at {x:Str} {k:Nat} (hl:x.length<lim) (hk:k<(cs x).length):dw (.str x) (.int (k:Int))=some (.str ⟨#[(cs x)[k]]⟩):=by
 have h1:(k:Int)<((cs x).length:Int):=by omega
 simp only [dw,hl,if_true,ixI,Int.natCast_nonneg,h1,Int.toNat_natCast,Option.bind_some];rw [jC hk];rfl
variable {sto:List SO}
theorem Oj {x:Str} (h:Pn x) {y:Str} {p:Nat->Bool} (hp:∀ c,inS (.str ⟨#[c]⟩) (.str y)=some (.bl (p c))) :
  gq a9r (aj (qm 1 [] (hName 0) (Gg (au 0)) p7 (mOp inS (au 0) (ak (.str y)))) cj) ⟨[some (.str x,false)],sto⟩=some (.bl ((cs x).all p),⟨[some (.str x,false)],sto⟩):=by
 have e:qm 1 [] (hName 0) (Gg (au 0)) p7 (mOp inS (au 0) (ak (.str y))) ⟨[some (.str x,false)],sto⟩=some (.lst ((cs x).map fun c=>.bl (p c)),⟨[some (.str x,false)],sto⟩):=by
  refine Bm (fun c=>T.str ⟨#[c]⟩) (fun c=>.bl (p c)) (cs x) (s1:=⟨[some (.str x,false)],sto⟩) _ [] ?_ rfl rfl rfl (by have:=h.2; show _<=1000000; omega) ?_
  ·unfold Gg;dsimp only [au,List.getElem?_cons_zero];rw [hU ⟨h.lt,h.all⟩];rfl
  ·intro c hc pre aF
   obtain ⟨a,rfl⟩:∃ a,pre=[a]:=by
    match pre,aF with
    | [a],_=>exact ⟨a,rfl⟩
   exact ⟨[some (.str ⟨#[c]⟩,false)],rfl,rfl,rfl,zo rfl rfl (hp c)⟩
 exact zm (zc e rfl) abo.1
noncomputable def ae8:List Str:=["box","lock","hand","own","end","set","wait","if","else","while","rounds","either","or","and","not","take","give","label","say","at","divides","true","false"]
noncomputable def nameB (x:Str):Bool:=decide (1<=(cs x).length)&&(decide ((cs x).length<=8)&&((cs x).headD 0 |> ab7)&&(cs x).all ac8 && !(ae8.contains x))
noncomputable def Ym (x:Str):Bool:=!(cs x).isEmpty&&(cs x).all Xm&&(decide (cs x=[48])||decide ((cs x).headD 48≠48))
theorem W6 {x:Str} (hx:okS x):∀ l:List Str,(∀ y∈l,okS y)->inL (.str x) (l.map T.str)=some (l.contains x)
 | [],_=>rfl
 | y::l,h=>by
  have hy:=h y ie;have ih:=W6 hx l fun z hz=>h z (ij _ hz);have e:eqD (.str y) (.str x)=some (y==x):=by simp [eqD,Ef hx,Ef hy,PyData.depth,PyData.eqv]
  have c:(x==y)=(y==x):=by rw [jA,jI,jI]; exact eq_comm
  rw [iL,inL,e];dsimp only;rw [ih,List.contains_cons,c];rfl
theorem a8p {x:Str} (hx:okS x) {l:List Str} (h:∀ y∈l,okS y):inT (.str x) (.tup (l.map T.str))=some (.bl (l.contains x)):=by
 unfold inT;dsimp only;rw [Ef hx];dsimp only [Option.isSome];rw [hU rfl,W6 hx l h];rfl
theorem Ye {x:Str} (hx:okS x) {l:List Str} (h:∀ y∈l,okS y):Og (.str x) (.tup (l.map T.str))=some (.bl (!l.contains x)):=by
 unfold Og; rw [a8p hx h]
theorem a9j:∀ y∈ae8,okS y:=by
 unfold ae8 okS
 decide +kernel
theorem len_str {x:Str} (h:Pn x):Ax [.str x]=some (.int ((cs x).length:Int)):=by
 show (if x.length<lim then some (T.int (x.length:Int)) else none)=_;rw [hU h.lt,zx]
theorem zba {a b:M T} {s:Sta} {j k:Bool} (h1:a s=some (.bl j,s)) (h2:j=true->b s=some (.bl k,s)):yd (Ep (cu a) (cu b)) s=some (.bl (j&&k),s):=by
 unfold yd Ep;rw [zt h1];cases j with
 | true=>dsimp only; rw [zt (h2 rfl)]; rfl
 | false=>rfl
theorem aci {l:List Nat} {d:Nat} (h:0<l.length):l.headD d=l[0]:=by
 cases l with
 | nil=>cases h
 | cons a l=>rfl
theorem a8x {x:Str} (h:Pn x):Hi [.str x] sto=some (.bl (nameB x),sto):=by
 have hl:=h.lt;refine zrun (s1:=⟨[some (.str x,false)],sto⟩) (zr ?_) rfl
 have e1:Ks leT leT (ak (.int 1)) (gq Ax (aj (au 0) cj)) (ak (.int 8)) ⟨[some (.str x,false)],sto⟩=some (.bl (decide (1<=(cs x).length)&&decide ((cs x).length<=8)),⟨[some (.str x,false)],sto⟩):=by
  unfold Ks ak;dsimp only;rw [show gq Ax (aj (au 0) cj) ⟨[some (.str x,false)],sto⟩=some (.int ((cs x).length:Int),⟨[some (.str x,false)],sto⟩) from zm (zc rfl rfl) (len_str h)];dsimp only [leT]
  by_cases h1:1<=(cs x).length
  ·rw [iF (show (1:Int)<=((cs x).length:Int) by omega),iF h1];dsimp only;rw [lY]
   by_cases h2:(cs x).length<=8
   ·rw [iF (show ((cs x).length:Int)<=8 by omega),iF h2]
   ·rw [iC (show ¬ ((cs x).length:Int)<=8 by omega),iC h2]
  ·rw [iC (show ¬ (1:Int)<=((cs x).length:Int) by omega),iC h1];rfl
 have e:nameB x=((decide (1<=(cs x).length)&&decide ((cs x).length<=8))&&(ab7 ((cs x).headD 0)&&((cs x).all ac8 && !(ae8.contains x)))):=by
  unfold nameB;simp only [Bool.and_assoc]
 rw [e];refine zba e1 fun g1=>?_
 have g2:0<(cs x).length:=by
  rw [ja,iG] at g1;omega
 refine zba ?_ fun _=>?_
 ·have i0:=item_at (k:=0) hl g2;rw [aci g2];exact zo (zo rfl rfl i0) rfl (adn _)
 ·refine zba (Oj h ac6) fun _=>?_;exact zo rfl rfl (Ye h.okS a9j)
theorem Yx {x:Str} (h:Pn x):Dl [.str x] sto=some (.bl (Ym x),sto):=by
 have hl:=h.lt;have e0:eqO (.str x) (.str "")=some (.bl (x == "")):=qx h.okS (by unfold okS; decide +kernel)
 have ee:(x==("" : Str))=(cs x).isEmpty:=by
  rw [jA,jI,List.isEmpty_iff];constructor
  ·intro z; rw [z]; rfl
  ·intro z; rw [<- Ng x,z]; rfl
 have ha:=Oj (sto:=sto) h ada
 by_cases z:(!(cs x).isEmpty&&(cs x).all Xm)=true
 ·obtain ⟨z1,z2⟩:=(ja _ _).mp z;have eN:(cs x).isEmpty=false:=by simpa using z1
  have ne:cs x≠[]:=fun q=>by rw [q] at eN; cases eN
  have g2:0<(cs x).length:=mU.mpr ne;have i0:=item_at (k:=0) hl g2;have q0:okS (⟨#[(cs x)[0]]⟩:Str):=Zf (h.1 _ (mV g2));have k0:okS ("0" : Str):=by unfold okS; decide +kernel
  have a1:=qx h.okS k0;have a2:=Tj q0 k0
  have b1:(x==("0" : Str))=decide (cs x=[48]):=by
   rw [jA,jI,iG];constructor
   ·intro z; rw [z]; decide +kernel
   ·intro z; rw [<- Ng x,z]; decide +kernel
  have b2:(!((⟨#[(cs x)[0]]⟩:Str)==("0" : Str)))=decide ((cs x).headD 48≠48):=by
   rw [aci g2];have k:(("0" : Str))=⟨#[48]⟩:=by decide +kernel
   rw [k]
   by_cases y:(cs x)[0]=48
   ·rw [y]; decide +kernel
   ·have:((⟨#[(cs x)[0]]⟩:Str)==⟨#[48]⟩)=false:=iY.mpr fun q=>y (by injection q with q; injection q with q; injection q);rw [this,iF y]; rfl
  rw [z2] at ha;have r:Ym x=(decide (cs x=[48])||decide ((cs x).headD 48≠48)):=by unfold Ym; rw [z,lY]
  rw [r,<- b1,<- b2];refine zrun (s1:=⟨[some (.str x,false)],sto⟩) (zq (ze (a7v (zt (zo rfl rfl (by rw [e0,ee,eN]))) (a86 (k:=true) (zt ha))) rfl) (zr (zb ?_))) rfl;cases y:(x==("0" : Str)) with
  | true=>exact afk (zt (zo rfl rfl (by rw [a1,y])))
  | false=>exact a7v (zt (zo rfl rfl (by rw [a1,y]))) (zt (zo (zo rfl rfl i0) rfl a2))
 ·have r:Ym x=false:=by unfold Ym; rw [Bool.eq_false_iff.mpr z,Bool.false_and]
  rw [r];refine zrun (s1:=⟨[some (.str x,false)],sto⟩) (zqr (zk ?_ (zr rfl))) rfl;cases y:(cs x).isEmpty with
  | true=>exact afk (zt (zo rfl rfl (by rw [e0,ee,y])))
  | false =>
   have:(cs x).all Xm=false:=by
    rw [y] at z;simpa using z
   rw [this] at ha;exact a7v (zt (zo rfl rfl (by rw [e0,ee,y]))) (a86 (k:=false) (zt ha))
end K
end
section
namespace K
open C PySem
variable {cR cN k:Nat} {sto:List SO} {rs:List Str} {n:Nat}
abbrev f2 (a b:T):List (Str × T):=[("rows",a),("number",b)]
abbrev rdF (rs:List Str) (n:Nat):List (Str × T):=f2 (.lst (rs.map .str)) (.int (n:Int))
abbrev Ek (cR k:Nat) (rs:List Str) (n:Nat) (sto:List SO):Prop:=sto[k]? = some (.ins cR (rdF rs n))
abbrev up (cR k:Nat) (rs:List Str) (n:Nat) (sto:List SO):List SO:=sto.set k (.ins cR (rdF rs n))
theorem Np {fs:List (Str × T)} (h:sto[k]? = some (.ins cR fs)):Ue cR k sto=some fs:=by
 unfold Ue; rw [h]; exact hU rfl
theorem Ek.up {m:Nat} (h:Ek cR k rs n sto):Ek cR k rs m (up cR k rs m sto):=by
 have hl:k<sto.length:=(iE.mp h).1;exact iM hl
section
variable {s s1 s2:Sta} {o v:M T} {fs:List (Str × T)} {t:T} {f:Str}
theorem fld (h:o s=some (.obj k,s1)) (hs:s1.sto[k]? = some (.ins cR fs)) (hf:fs.lookup f=some t):Lf cR f o s=some (t,s1):=by
 unfold Lf;rw [h]; dsimp only;rw [Np hs]; dsimp only;rw [hf]
theorem a2t (hv:v s=some (t,s1)) (h:o s1=some (.obj k,s2)) (hs:s2.sto[k]? = some (.ins cR fs)) (hl:fs.length<100):Bh cR f o v s=some (.next,⟨s2.env,s2.sto.set k (.ins cR (a4w f t fs))⟩):=by
 unfold Bh;rw [hv]; dsimp only;rw [h]; dsimp only;rw [Np hs]; dsimp only;rw [hU hl]
theorem a4s {m:Str} {F:FnX} {a:MXs} {ts:List T} {r:T ⊕ T} {z:List SO} (h:o s=some (.obj k,s1)) (hs:s1.sto[k]? = some (.ins cR fs)) (hn:fs.lookup m=none) (ha:a s1=some (.inl ts,s2)) (hF:F (.obj k::ts) s2.sto=some (r,z)):oh cR m F o a s=some (r,⟨s2.env,z⟩):=by
 unfold oh;rw [h]; dsimp only;rw [Np hs]; dsimp only;rw [hU hn,ha]; dsimp only;rw [hF]
end
theorem a85 {a b:T}:(f2 a b).lookup ("rows" : Str)=some a:=by rfl
theorem a6o {a b:T}:(f2 a b).lookup ("number" : Str)=some b:=by rfl
theorem ag4 {a b:T}:(f2 a b).lookup ("next_words" : Str)=none:=by rfl
theorem agc {a b:T}:(f2 a b).lookup ("need_that" : Str)=none:=by rfl
def Aj (c:Nat) (x:Str):List Str:=(cutAt c (cs x)).map Ru
theorem Hh {x y:Str} {c:Nat} (hy:cs y=[c]) (hl:x.length<lim):Cq (.str x) (.str y)=some (.lst ((Aj c x).map .str)):=by
 have h1:y.cps.size=1:=by rw [<- jQ]; show (cs y).length=1; rw [hy]; rfl
 show (if y.cps.size=1/\x.length<lim then some (T.lst ((cutAt (y.cps.toList.headD 0) x.cps.toList).map fun p=>.str (Ru p))) else none)=_;rw [hU ⟨h1,hl⟩];show some (T.lst ((cutAt ((cs y).headD 0) (cs x)).map fun p=>.str (Ru p)))=_;rw [hy];unfold Aj;rw [ko];rfl
theorem T4:cs " " = [32]:=by decide +kernel
theorem a5m:cs "\n" = [10]:=by decide +kernel
theorem O2:cs "*" = [42]:=by decide +kernel
theorem aa7:cs "," = [44]:=by decide +kernel
def ws (x:Str):List Str:=Aj 32 x
theorem Nt {c a:Nat}:∀ {l:List Nat},∀ p∈cutAt c l,a∈p->a∈l
 | [],p,hp,ha=>by
  rw [ik.mp hp] at ha; cases ha
 | b::r,p,hp,ha=>by
  unfold cutAt at hp;split at hp
  ·rcases ir.mp hp with rfl | hp
   ·cases ha
   ·exact ij _ (Nt p hp ha)
  ·split at hp
   ·rw [ik.mp hp,ik] at ha;rw [ha]; exact ie
   ·rename_i q u e;rcases ir.mp hp with rfl | hp
    ·rcases ir.mp ha with rfl | ha
     ·exact ie
     ·exact ij _ (Nt q (by rw [e]; exact ie) ha)
    ·exact ij _ (Nt p (by rw [e]; exact ij _ hp) ha)
theorem Nx {c:Nat}:∀ {l:List Nat},∀ p∈cutAt c l,p.length<=l.length
 | [],p,hp=>by rw [ik.mp hp]; exact ic _
 | b::r,p,hp=>by
  unfold cutAt at hp;split at hp
  ·rcases ir.mp hp with rfl | hp
   ·exact iZ _
   ·exact lZ (Nx p hp)
  ·split at hp
   ·rw [ik.mp hp]; simp
   ·rename_i q u e;rcases ir.mp hp with rfl | hp
    ·have:=Nx (c:=c) (l:=r) q (by rw [e]; exact ie);simpa using this
    ·exact lZ (Nx p (by rw [e]; exact ij _ hp))
theorem Wh {c:Nat} {x:Str} (h:Pn x):∀ w∈Aj c x,Pn w:=by
 intro w hw;obtain ⟨p,hp,rfl⟩:=iN.mp hw;exact ⟨fun a ha=>h.1 a (Nt p hp ha),kd (Nx p hp) h.2⟩
theorem Vy {c:Nat} {x:Str} (h:Pn x):(Aj c x).length<lim:=by
 unfold Aj;rw [hZ];have h1:=T3 c (cs x);have h2:=h.2;show _<1000000;omega
def Prs (rs:List Str):Prop:=rs.length<lim/\∀ r∈rs,Pn r
def row (rs:List Str) (n:Nat):Str:=rs.getD n ""
theorem a7z:Pn ("" : Str):=⟨fun c h=>absurd h (show ¬ c∈([]:List Nat) from List.not_mem_nil),show (0:Nat)<1000 by decide⟩
theorem Prs.row (h:Prs rs) (n:Nat):Pn (row rs n):=by
 unfold K.row
 by_cases z:n<rs.length
 ·rw [jS,jC z]; exact h.2 _ (mV z)
 ·rw [jS,List.getElem?_eq_none_iff.mpr (by omega)]; exact a7z
def has (rs:List Str) (n:Nat):Bool:=decide (n<rs.length)&&decide (n<5000)
abbrev tws (l:List Str):T:=.lst (l.map .str)
theorem M9 (h:Prs rs) (hk:Ek cR k rs n sto):je cR cN [.obj k] sto=some (if has rs n=true then .inl (tws (ws (row rs n))) else .inr (.int ((n+1:Nat):Int)),up cR k rs (n+1) sto):=by
 have hu:Ek cR k rs (n+1) (up cR k rs (n+1) sto):=hk.up
 have A:lx (Bh cR "number" (au 0) (mOp uo (Lf cR "number" (au 0)) (ak (.int 1)))) ⟨[some (.obj k,false)],sto⟩=some (.inl .next,⟨[some (.obj k,false)],up cR k rs (n+1) sto⟩) :=
  xl (a2t (s1:=⟨[some (.obj k,false)],sto⟩) (s2:=⟨[some (.obj k,false)],sto⟩) (t:=.int ((n+1:Nat):Int)) (zo (fld rfl hk a6o) rfl rfl) rfl hk (show 2<100 by decide))
 have N:Lf cR "number" (au 0) ⟨[some (.obj k,false)],up cR k rs (n+1) sto⟩=some (.int ((n+1:Nat):Int),⟨[some (.obj k,false)],up cR k rs (n+1) sto⟩):=fld rfl hu a6o;have R:Lf cR "rows" (au 0) ⟨[some (.obj k,false)],up cR k rs (n+1) sto⟩=some (.lst (rs.map .str),⟨[some (.obj k,false)],up cR k rs (n+1) sto⟩):=fld rfl hu a85
 have B:cu (mOp gtT (Lf cR "number" (au 0)) (gq Mt (aj (gq Ax (aj (Lf cR "rows" (au 0)) cj)) (aj (ak (.int 5000)) cj)))) ⟨[some (.obj k,false)],up cR k rs (n+1) sto⟩=some (!has rs n,⟨[some (.obj k,false)],up cR k rs (n+1) sto⟩):=by
  refine zt (zo N (zm (zc (zm (zc R rfl) a71) (zc rfl rfl)) rfl) ?_);show some (T.bl (decide ((if (5000:Int)<(rs.length:Int) then (5000:Int) else (rs.length:Int))<((n+1:Nat):Int))))=_;congr 2;unfold has;rw [jA,Bool.not_eq_true',Bool.and_eq_false_iff,iG,decide_eq_false_iff_not,decide_eq_false_iff_not];split <;> omega
 cases e:has rs n with
 | false =>
  rw [e] at B;rw [hV (by decide)];exact sy (xq A (xqr (xik B (xra N)))) rfl
 | true =>
  rw [e] at B;rw [hU rfl]
  have hn:n<rs.length:=by
   unfold has at e;rw [ja,iG] at e;exact e.1
  have I:dw (.lst (rs.map .str)) (.int (n:Int))=some (.str (row rs n)):=by
   rw [Gh T.str rs hn];unfold row;rw [jS,jC hn];rfl
  have S:a1a (.int ((n+1:Nat):Int)) (.int 1)=some (.int (n:Int)):=by
   show some (T.int (((n+1:Nat):Int) - 1))=_;congr 2;omega
  exact Ed (xq A (xq (xie B (xl rfl)) (xl (zr (zo (zo R (zo N rfl S) I) rfl (Hh T4 (h.row n).lt)))))) rfl
theorem Q0 {b:Bool} (hk:Ek cR k rs n sto):dg cR cN [.obj k,.bl b] sto=some (if b=true then .inl .non else .inr (.int (n:Int)),sto):=by
 have B:Mi (cu (au 1)) ⟨[some (.obj k,false),some (.bl b,false)],sto⟩=some (!b,⟨[some (.obj k,false),some (.bl b,false)],sto⟩):=a86 (zt rfl);cases b with
 | true=>exact ah0 (xie B (xl rfl)) rfl
 | false=>exact sy (xik B (xra (fld rfl hk a6o))) rfl
section
variable {e:List C.Slot} {c:M T}
theorem ni (hk:Ek cR k rs n sto) (h:c ⟨some (.obj k,false)::e,sto⟩=some (.bl true,⟨some (.obj k,false)::e,sto⟩)) :
  Bo (oh cR "need_that" (dg cR cN) (au 0) (iz (Fg c) pq)) ⟨some (.obj k,false)::e,sto⟩=some (.inl .next,⟨some (.obj k,false)::e,sto⟩) :=
 xdt (t:=.non) (a4s (s1:=⟨some (.obj k,false)::e,sto⟩) (s2:=⟨some (.obj k,false)::e,sto⟩) (ts:=[.bl true]) rfl hk agc (xcs (xup h) rfl) (Q0 hk))
theorem Dc (hk:Ek cR k rs n sto) (h:c ⟨some (.obj k,false)::e,sto⟩=some (.bl false,⟨some (.obj k,false)::e,sto⟩)) :
  Bo (oh cR "need_that" (dg cR cN) (au 0) (iz (Fg c) pq)) ⟨some (.obj k,false)::e,sto⟩=some (.inr (.int (n:Int)),⟨some (.obj k,false)::e,sto⟩) :=
 xdr (a4s (s1:=⟨some (.obj k,false)::e,sto⟩) (s2:=⟨some (.obj k,false)::e,sto⟩) (ts:=[.bl false]) rfl hk agc (xcs (xup h) rfl) (Q0 hk))
end
end K
end
section
namespace K
open C PySem PySem.W PySem.NumText
variable {cR cN k:Nat} {sto:List SO} {rs:List Str} {n:Nat}
def val (x:Str):Nat:=digitsVal (cs x)
theorem a9q {x:Str} (h:Ym x=true) (hl:(cs x).length<=640):ae4 [.str x]=some (.int (val x:Int)):=by
 unfold Ym at h;simp only [Bool.and_eq_true,Bool.not_eq_true',List.isEmpty_eq_false_iff,List.all_eq_true] at h;obtain ⟨⟨h1,h2⟩,_⟩:=h
 have hd:AllDigits (cs x):=fun c hc=>by
  have:=h2 c hc;simp only [Xm,Bool.and_eq_true,decide_eq_true_eq] at this;exact this
 unfold ae4;dsimp only;rw [hU (by rw [zx]; omega),intText_digits hd h1 (by rw [zx]; omega)];rfl
theorem agf {p q:Int}:leT (.int p) (.int q)=some (.bl (decide (p<=q))):=rfl
theorem ag5 {p q:Int}:geT (.int p) (.int q)=some (.bl (decide (q<=p))):=rfl
noncomputable def pNum (w:Str) (l:Int):Option Int:=if Ym w&&decide ((cs w).length<=400)&&decide (l<=(val w:Int)) then some (val w:Int) else none
abbrev a5l (n:Nat) (o:Option Int):T ⊕ T:=match o with
 | some v=>.inl (.int v)
 | none=>.inr (.int (n:Int))
theorem Dg (hk:Ek cR k rs n sto) {w:Str} {l:Int} (h:Pn w):iy cR cN [.obj k,.str w,.int l] sto=some (a5l n (pNum w l),sto):=by
 have B:yd (Ep (cu (f9 Dl (aj (au 1) cj))) (cu (mOp leT (gq Ax (aj (au 1) cj)) (ak (.int 400))))) ⟨[some (.obj k,false),some (.str w,false),some (.int l,false),none],sto⟩=some (.bl (Ym w&&decide ((cs w).length<=400)),⟨[some (.obj k,false),some (.str w,false),some (.int l,false),none],sto⟩):=by
  refine zba (zf0 (zc rfl rfl) (Yx h)) fun _=>zo (zm (zc rfl rfl) (len_str h)) rfl ?_;rw [agf]
  by_cases z:(cs w).length<=400
  ·rw [iF z,iF (by omega)]
  ·rw [iC z,iC (by omega)]
 cases e:(Ym w&&decide ((cs w).length<=400)) with
 | false =>
  rw [e] at B;have z:pNum w l=none:=by unfold pNum; rw [e]; rfl
  rw [z];exact sy (xqr (Dc hk B)) rfl
 | true =>
  rw [e] at B;obtain ⟨e1,e2⟩:=(ja _ _).mp e;have iv:=a9q e1 (by have:=of_decide_eq_true e2; omega);have C':lx (nq 3 (gq ae4 (aj (au 1) cj))) ⟨[some (.obj k,false),some (.str w,false),some (.int l,false),none],sto⟩=some (.inl .next,⟨[some (.obj k,false),some (.str w,false),some (.int l,false),some (.int (val w:Int),false)],sto⟩):=xl (ys (zm (zc rfl rfl) iv) rfl);have D:mOp geT (au 3) (au 2) ⟨[some (.obj k,false),some (.str w,false),some (.int l,false),some (.int (val w:Int),false)],sto⟩=some (.bl (decide (l<=(val w:Int))),⟨[some (.obj k,false),some (.str w,false),some (.int l,false),some (.int (val w:Int),false)],sto⟩):=zo rfl rfl ag5;cases y:decide (l<=(val w:Int)) with
  | true =>
   rw [y] at D;have z:pNum w l=some (val w:Int):=by unfold pNum; rw [e,y]; rfl
   rw [z];exact Ed (xq (ni hk B) (xq C' (xq (ni hk D) (xl (zr rfl))))) rfl
  | false =>
   rw [y] at D;have z:pNum w l=none:=by unfold pNum; rw [e,y]; rfl
   rw [z];exact sy (xq (ni hk B) (xq C' (xqr (Dc hk D)))) rfl
theorem Zm (hk:Ek cR k rs n sto) {w:Str} (h:Pn w):Bl cR cN [.obj k,.str w] sto=some (if nameB w=true then .inl (.str w) else .inr (.int (n:Int)),sto):=by
 have B:f9 Hi (aj (au 1) cj) ⟨[some (.obj k,false),some (.str w,false)],sto⟩=some (.bl (nameB w),⟨[some (.obj k,false),some (.str w,false)],sto⟩):=zf0 (zc rfl rfl) (a8x h);cases e:nameB w with
 | true =>
  rw [e] at B;rw [hU rfl];exact Ed (xq (ni hk B) (xl (zr rfl))) rfl
 | false =>
  rw [e] at B;rw [hV (by decide)];exact sy (xqr (Dc hk B)) rfl
theorem Z7 {x:Str}:a3p x none (some 1)=st ((cs x).take 1):=by
 unfold a3p;have h0:HT.sIx x.length 0 none=0:=rfl;rw [h0];show (⟨_⟩:Str)=⟨_⟩;congr 2;rw [kP,lX];show (cs x).take _=_
 have h1:HT.sIx x.length x.length (some 1)=min 1 (cs x).length:=by
  rw [zx];simp only [HT.sIx,show ¬ ((1:Int)<0) by decide,if_false];omega
 rw [h1]
 by_cases z:1<=(cs x).length
 ·rw [mm z]
 ·have:(cs x).length=0:=by omega
  rw [mW.mp this]; rfl
theorem a4f {x:Str}:a3p x (some 1) none=st ((cs x).drop 1):=by
 unfold a3p;have h0:HT.sIx x.length x.length none=x.length:=rfl
 have h1:HT.sIx x.length 0 (some 1)=min 1 (cs x).length:=by
  rw [zx];simp only [HT.sIx,show ¬ ((1:Int)<0) by decide,if_false];omega
 rw [h0,h1];show (⟨_⟩:Str)=⟨_⟩;congr 2;rw [zx];show ((cs x).drop _).take _=_
 by_cases z:1<=(cs x).length
 ·rw [mm z,<- jV,lS]
 ·have:(cs x).length=0:=by omega
  rw [mW.mp this]; rfl
theorem Vu {x:Str} (h:Pn x) {s:Sta} {i:Nat} (hi:au i s=some (.str x,s)):qy (au i) ou (qe (ak (.int 1))) s=some (.str (st ((cs x).take 1)),s):=by
 unfold qy;rw [hi]; dsimp only;rw [show ou s=some (none,s) from rfl]; dsimp only;rw [zos (show ak (.int 1) s=some (.int 1,s) from rfl)]; dsimp only;unfold Zb;dsimp only;rw [hU h.lt,Z7]
theorem a3m {x:Str} (h:Pn x) {s:Sta} {i:Nat} (hi:au i s=some (.str x,s)):qy (au i) (qe (ak (.int 1))) ou s=some (.str (st ((cs x).drop 1)),s):=by
 unfold qy;rw [hi]; dsimp only;rw [zos (show ak (.int 1) s=some (.int 1,s) from rfl)]; dsimp only;rw [show ou s=some (none,s) from rfl]; dsimp only;unfold Zb;dsimp only;rw [hU h.lt,a4f]
theorem Zu {x:Str} (h:Pn x):Pn (st ((cs x).take 1)):=⟨fun c hc=>h.1 c (List.mem_of_mem_take hc),kd (List.length_take_le ..) (by decide)⟩
theorem a3d {x:Str} (h:Pn x):Pn (st ((cs x).drop 1)):=⟨fun c hc=>h.1 c (mr hc),by rw [afz,jV]; have:=h.2; omega⟩
theorem Vj {x:Str} {c:Nat} {y:Str} (hy:cs y=[c]):(st ((cs x).take 1)==y)=decide ((cs x).head? = some c):=by
 rw [jA,jI,iG]
 have k:st ((cs x).take 1)=y↔(cs x).take 1=[c]:=by
  constructor
  ·intro z; rw [<- hy,<- z]; rfl
  ·intro z; rw [z,<- hy,Ng]
 rw [k];cases cs x with
 | nil=>simp
 | cons a l=>simp
theorem abz:cs "@" = [64]:=by decide +kernel
theorem adp:cs "-" = [45]:=by decide +kernel
theorem ad7 {y:Str} {c:Nat} (hy:cs y=[c]) (hc:c<128):okS y:=by
 rw [<- Ng y,hy]; exact Zf hc
def Xa (w:Str):Bool:=if (cs w).head? = some 64 then nameB (st ((cs w).drop 1)) else nameB w
theorem ae6 (hk:Ek cR k rs n sto) {w:Str} (h:Pn w):J8 cR cN [.obj k,.str w] sto=some (if Xa w=true then .inl (.str w) else .inr (.int (n:Int)),sto):=by
 have q:=qx (Zu h).okS (ad7 abz (by decide));rw [Vj abz] at q;have t:cu (mOp eqO (qy (au 1) ou (qe (ak (.int 1)))) (ak (.str "@"))) ⟨[some (.obj k,false),some (.str w,false)],sto⟩=some (decide ((cs w).head? = some 64),⟨[some (.obj k,false),some (.str w,false)],sto⟩):=zt (zo (Vu h rfl) rfl q)
 have I:mIf (cu (mOp eqO (qy (au 1) ou (qe (ak (.int 1)))) (ak (.str "@")))) (qy (au 1) (qe (ak (.int 1))) ou) (au 1) ⟨[some (.obj k,false),some (.str w,false)],sto⟩=some (.str (if (cs w).head? = some 64 then st ((cs w).drop 1) else w),⟨[some (.obj k,false),some (.str w,false)],sto⟩):=by
  by_cases z:(cs w).head? = some 64
  ·rw [iF z] at t;rw [hU z];exact ac0 t (a3m h rfl)
  ·rw [iC z] at t;rw [hV z];exact a6p t rfl
 have p:Pn (if (cs w).head? = some 64 then st ((cs w).drop 1) else w):=by split; exact a3d h; exact h
 have b:Xa w=nameB (if (cs w).head? = some 64 then st ((cs w).drop 1) else w):=by unfold Xa; split <;> rfl
 have N:j9 (Bl cR cN) (aj (au 0) (aj (mIf (cu (mOp eqO (qy (au 1) ou (qe (ak (.int 1)))) (ak (.str "@")))) (qy (au 1) (qe (ak (.int 1))) ou) (au 1)) cj)) ⟨[some (.obj k,false),some (.str w,false)],sto⟩=some (if Xa w=true then .inl (.str (if (cs w).head? = some 64 then st ((cs w).drop 1) else w)) else .inr (.int (n:Int)),⟨[some (.obj k,false),some (.str w,false)],sto⟩):=by
  rw [b];exact xmc (s1:=⟨[some (.obj k,false),some (.str w,false)],sto⟩) (zc rfl (zc I rfl)) (Zm hk p)
 cases e:Xa w with
 | true =>
  rw [e,hU rfl] at N;rw [hU rfl];exact Ed (xq (xdt N) (xl (zr rfl))) rfl
 | false =>
  rw [e,hV (by decide)] at N;rw [hV (by decide)];exact sy (xqr (xdr N)) rfl
noncomputable def Rt (w:Str):Option Int:=if (cs w).head? = some 45 then (pNum (st ((cs w).drop 1)) 1).map (fun v=>-v) else pNum w 0
theorem xun {g:T->Option T} {a:MX} {s s1:Sta} {t u:T} (h:a s=some (.inl t,s1)) (h2:g t=some u):a9b g a s=some (.inl u,s1):=by unfold a9b; rw [h]; dsimp only; rw [h2]
theorem ahi {g:T->Option T} {a:MX} {s s1:Sta} {t:T} (h:a s=some (.inr t,s1)):a9b g a s=some (.inr t,s1):=by unfold a9b; rw [h]
theorem Qe (hk:Ek cR k rs n sto) {w:Str} (h:Pn w):vm cR cN [.obj k,.str w] sto=some (a5l n (Rt w),sto):=by
 have q:=Tj (Zu h).okS (ad7 adp (by decide));rw [Vj adp] at q;have t:cu (mOp neO (qy (au 1) ou (qe (ak (.int 1)))) (ak (.str "-"))) ⟨[some (.obj k,false),some (.str w,false)],sto⟩=some (!decide ((cs w).head? = some 45),⟨[some (.obj k,false),some (.str w,false)],sto⟩):=zt (zo (Vu h rfl) rfl q)
 by_cases z:(cs w).head? = some 45
 ·rw [iF z] at t;have N:j9 (iy cR cN) (aj (au 0) (aj (qy (au 1) (qe (ak (.int 1))) ou) (aj (ak (.int 1)) cj))) ⟨[some (.obj k,false),some (.str w,false)],sto⟩=some (a5l n (pNum (st ((cs w).drop 1)) 1),⟨[some (.obj k,false),some (.str w,false)],sto⟩):=xmc (s1:=⟨[some (.obj k,false),some (.str w,false)],sto⟩) (zc rfl (zc (a3m h rfl) (zc rfl rfl))) (Dg hk (a3d h));have e:Rt w=(pNum (st ((cs w).drop 1)) 1).map (fun v=>-v):=hU z;rw [e];cases y:pNum (st ((cs w).drop 1)) 1 with
  | some v =>
   rw [y] at N;exact Ed (xq (xie t (xl rfl)) (xrt (xun N rfl))) rfl
  | none =>
   rw [y] at N;exact sy (xq (xie t (xl rfl)) (xrr (ahi N))) rfl
 ·rw [iC z] at t;have N:j9 (iy cR cN) (aj (au 0) (aj (au 1) (aj (ak (.int 0)) cj))) ⟨[some (.obj k,false),some (.str w,false)],sto⟩=some (a5l n (pNum w 0),⟨[some (.obj k,false),some (.str w,false)],sto⟩):=xmc (s1:=⟨[some (.obj k,false),some (.str w,false)],sto⟩) (zc rfl (zc rfl (zc rfl rfl))) (Dg hk h);have e:Rt w=pNum w 0:=hV z;rw [e];cases y:pNum w 0 with
  | some v =>
   rw [y] at N;exact Ed (xqt (xik t (xrt N))) rfl
  | none =>
   rw [y] at N;exact sy (xqr (xik t (xrr N))) rfl
end K
end
section
namespace K
open C PySem PySem.W PySem.NumText
variable {cR cN k:Nat} {sto:List SO} {rs:List Str} {n:Nat}
theorem Qk {mx:MX} {l:MXs} {s s1 s2:Sta} {t x:T} (h:mx s=some (.inl t,s1)) (h2:l s1=some (.inr x,s2)):iz mx l s=some (.inr x,s2):=by unfold iz; rw [h]; dsimp only; rw [h2]
theorem xop {f:T->T->Option T} {a b:MX} {s s1 s2:Sta} {x y w:T} (h:a s=some (.inl x,s1)) (h2:b s1=some (.inl y,s2)) (h3:f x y=some w):a7m f a b s=some (.inl w,s2):=by unfold a7m; rw [h]; dsimp only; rw [h2]; dsimp only; rw [h3]
theorem ah7 {f:T->T->Option T} {a b:MX} {s s1:Sta} {x:T} (h:a s=some (.inr x,s1)):a7m f a b s=some (.inr x,s1):=by unfold a7m; rw [h]
noncomputable def Iu (p:Str->Option T):List Str->Option (List T)
 | []=>some []
 | w::r=>match p w with
  | none=>none
  | some t=>(Iu p r).map (t :: ·)
abbrev a8u (n:Nat) (o:Option T):T ⊕ T:=match o with
 | some v=>.inl v
 | none=>.inr (.int (n:Int))
theorem Wg {p:Str->Option T}:∀ {l:List Str} {ts:List T},Iu p l=some ts->ts.length=l.length
 | [],_,h=>by cases h; rfl
 | w::r,ts,h=>by
  unfold Iu at h;split at h
  ·cases h
  ·obtain ⟨us,e,rfl⟩:=iO.mp h;rw [iA,iA,Wg e]
abbrev ceS (k:Nat) (o:C.Slot) (sto:List SO):Sta:=⟨[o,some (.obj k,false)],sto⟩
theorem a7g {p:Str->Option T} {e:MX}:∀ (l:List Str) (o:C.Slot) (acc:List T),(∀ w∈l,e (ceS k (some (.str w,false)) sto)=some (a8u n (p w),ceS k (some (.str w,false)) sto))->acc.length+l.length<=lim ->
  ∃ o',Ej (hName 0) e (l.map .str) (ceS k o sto) acc=some ((match Iu p l with | some ts=>.inl (acc++ts) | none=>.inr (.int (n:Int))),ceS k o' sto)
 | [],o,acc,_,_=>⟨o,by rw [jK,Ej]; unfold Iu; dsimp only; rw [iU]⟩
 | w::r,o,acc,h,hl=>by
  have hw:=h w ie;have hg:hName 0 (.str w) (ceS k o sto)=some (ceS k (some (.str w,false)) sto):=rfl;rw [iL,Ej,hg];dsimp only;rw [hw];cases e1:p w with
  | none =>
   refine ⟨some (.str w,false),?_⟩;unfold Iu;rw [e1]
  | some t =>
   have al:acc.length<lim:=by rw [iA] at hl; omega
   dsimp only;rw [hU al];obtain ⟨o',q⟩:=a7g r (some (.str w,false)) (acc++[t]) (fun w hw=>h w (ij _ hw)) (by rw [il,iP]; rw [iA] at hl; omega);have fz:jt (ceS k (some (.str w,false)) sto)=ceS k (some (.str w,false)) sto:=rfl;rw [fz];refine ⟨o',q.trans ?_⟩
   conv=>rhs; unfold Iu
   rw [e1];dsimp only;cases Iu p r with
   | none=>rfl
   | some ts=>simp only [Option.map_some,List.append_assoc,List.singleton_append]
theorem U4 {p:Str->Option T} {e:MX} {it:M (List T)} {l:List Str} {r:List C.Slot} (hi:it ⟨some (.obj k,false)::r,sto⟩=some (l.map .str,⟨some (.obj k,false)::r,sto⟩)) (h:∀ w∈l,e (ceS k (some (.str w,false)) sto)=some (a8u n (p w),ceS k (some (.str w,false)) sto)) (hl:l.length<=lim) :
  Bb zp (iz (G7 1 [0] (hName 0) it e) pq) ⟨some (.obj k,false)::r,sto⟩=some (a8u n ((Iu p l).map .tup),⟨some (.obj k,false)::r,sto⟩):=by
 obtain ⟨o',q⟩:=a7g (n:=n) l none [] h (by simpa using hl)
 have c:G7 1 [0] (hName 0) it e ⟨some (.obj k,false)::r,sto⟩=some ((match Iu p l with | some ts=>.inl (.lst ts) | none=>.inr (.int (n:Int))),⟨some (.obj k,false)::r,sto⟩):=by
  unfold G7;rw [hi];dsimp only;have e0:(⟨List.replicate 1 none++[0].map (fun i=>((jq [0] (some (T.obj k,false)::r))[i]?).getD none),sto⟩:Sta)=ceS k none sto:=rfl;rw [e0,q];cases Iu p l with
  | none=>rfl
  | some ts=>rfl
 unfold Bb iz;rw [c];cases Iu p l with
 | none=>rfl
 | some ts=>rfl
noncomputable def wk (w:Str):Option T:=match Aj 42 w with
 | [a,b]=>match pNum a 0 with
  | none=>none
  | some x=>match pNum b 1 with
   | none=>none
   | some y=>some (.tup [.int x,.int y])
 | _=>none
theorem afv {p q:Nat}:eqO (.int (p:Int)) (.int (q:Int))=some (.bl (decide (p=q))):=by
 rw [wu];congr 2;rw [jA,jI,iG];omega
theorem a96 (hk:Ek cR k rs n sto) {w:Str} (h:Pn w):Ga cR cN [.obj k,.str w] sto=some (a8u n (wk w),sto):=by
 have hc:=Wh (c:=42) h
 have A:lx (nq 2 (mOp Cq (au 1) (ak (.str "*")))) ⟨[some (.obj k,false),some (.str w,false),none],sto⟩=some (.inl .next,⟨[some (.obj k,false),some (.str w,false),some (tws (Aj 42 w),false)],sto⟩) :=
  xl (ys (zo rfl rfl (Hh O2 h.lt)) rfl)
 have B:mOp eqO (gq Ax (aj (au 2) cj)) (ak (.int 2)) ⟨[some (.obj k,false),some (.str w,false),some (tws (Aj 42 w),false)],sto⟩=some (.bl (decide ((Aj 42 w).length=2)),⟨[some (.obj k,false),some (.str w,false),some (tws (Aj 42 w),false)],sto⟩) :=
  zo (zm (zc rfl rfl) a71) rfl (afv (q:=2))
 by_cases z:(Aj 42 w).length=2
 ·rw [iF z] at B
  obtain ⟨a,b,e⟩:∃ a b,Aj 42 w=[a,b]:=by
   match hq:Aj 42 w,z with
   | [a,b],_=>exact ⟨a,b,rfl⟩
  have p:wk w=(match pNum a 0 with | none=>none | some x=>match pNum b 1 with | none=>none | some y=>some (.tup [.int x,.int y])):=by unfold wk; rw [e]
  rw [e] at A B hc;rw [p]
  have Na:j9 (iy cR cN) (aj (au 0) (aj (mOp dw (au 2) (ak (.int 0))) (aj (ak (.int 0)) cj))) ⟨[some (.obj k,false),some (.str w,false),some (tws [a,b],false)],sto⟩=some (a5l n (pNum a 0),⟨[some (.obj k,false),some (.str w,false),some (tws [a,b],false)],sto⟩) :=
   xmc (s1:=⟨[some (.obj k,false),some (.str w,false),some (tws [a,b],false)],sto⟩) (zc rfl (zc (zo rfl rfl rfl) (zc rfl rfl))) (Dg hk (hc a ie))
  have Nb:j9 (iy cR cN) (aj (au 0) (aj (mOp dw (au 2) (ak (.int 1))) (aj (ak (.int 1)) cj))) ⟨[some (.obj k,false),some (.str w,false),some (tws [a,b],false)],sto⟩=some (a5l n (pNum b 1),⟨[some (.obj k,false),some (.str w,false),some (tws [a,b],false)],sto⟩) :=
   xmc (s1:=⟨[some (.obj k,false),some (.str w,false),some (tws [a,b],false)],sto⟩) (zc rfl (zc (zo rfl rfl rfl) (zc rfl rfl))) (Dg hk (hc b (ij _ ie)))
  cases e1:pNum a 0 with
  | none =>
   rw [e1] at Na;exact sy (xq A (xq (ni hk B) (xrr (xtr (Yl Na))))) rfl
  | some x =>
   rw [e1] at Na;cases e2:pNum b 1 with
   | none =>
    rw [e2] at Nb;exact sy (xq A (xq (ni hk B) (xrr (xtr (Qk Na (Yl Nb)))))) rfl
   | some y =>
    rw [e2] at Nb;exact Ed (xq A (xq (ni hk B) (xrt (xtu (xcs Na (xcs Nb rfl)))))) rfl
 ·rw [iC z] at B
  have p:wk w=none:=by
   unfold wk;split
   ·rename_i a b e; rw [e] at z; exact absurd rfl z
   ·rfl
  rw [p];exact sy (xq A (xqr (Dc hk B))) rfl
theorem ahf {p q:Nat}:leT (.int (p:Int)) (.int (q:Int))=some (.bl (decide (p<=q))):=by
 rw [agf];congr 2;rw [jA,iG,iG];omega
theorem aha {p q:Nat}:geT (.int (p:Int)) (.int (q:Int))=some (.bl (decide (q<=p))):=by
 rw [ag5];congr 2;rw [jA,iG,iG];omega
theorem ne_0 {v:Int}:neO (.int v) (.int 0)=some (.bl (decide (v≠0))):=by
 rw [a2q];congr 2;rw [jA,iG]
 by_cases z:v=0
 ·rw [z]; decide
 ·simp [z]
def ac5:Option Int->Option T
 | some v=>some (.int v)
 | none=>none
noncomputable def qz (w:Str):Option T:=match Aj 42 w with
 | [a,b]=>match Rt b with
  | none=>none
  | some v=>if decide ((Aj 44 a).length<=2)&&decide (v≠0) then (Iu (fun x=>ac5 (pNum x 0)) (Aj 44 a)).map fun ts=>.tup (ts++[.int v]) else none
 | _=>none
theorem isl {l:List Str} {s:Sta} {i:Nat} (h:s.env[i]? = some (some (tws l,false))) (hl:l.length<lim):Bg (au i) s=some (l.map .str,s):=by
 have e:au i s=some (tws l,s):=by
  obtain ⟨env,z⟩:=s;have h:env[i]? = some (some (tws l,false)):=h;obtain ⟨hi,e⟩:=iE.mp h;unfold au;dsimp only;rw [h]
 exact zis e hl
theorem a5h (hk:Ek cR k rs n sto) {w:Str} (h:Pn w):Fb cR cN [.obj k,.str w] sto=some (a8u n (qz w),sto):=by
 have hc:=Wh (c:=42) h
 have A:lx (nq 2 (mOp Cq (au 1) (ak (.str "*")))) ⟨[some (.obj k,false),some (.str w,false),none,none,none],sto⟩=some (.inl .next,⟨[some (.obj k,false),some (.str w,false),some (tws (Aj 42 w),false),none,none],sto⟩) :=
  xl (ys (zo rfl rfl (Hh O2 h.lt)) rfl)
 have B:mOp eqO (gq Ax (aj (au 2) cj)) (ak (.int 2)) ⟨[some (.obj k,false),some (.str w,false),some (tws (Aj 42 w),false),none,none],sto⟩=some (.bl (decide ((Aj 42 w).length=2)),⟨[some (.obj k,false),some (.str w,false),some (tws (Aj 42 w),false),none,none],sto⟩) :=
  zo (zm (zc rfl rfl) a71) rfl (afv (q:=2))
 by_cases z:(Aj 42 w).length=2
 ·rw [iF z] at B
  obtain ⟨a,b,e⟩:∃ a b,Aj 42 w=[a,b]:=by
   match hq:Aj 42 w,z with
   | [a,b],_=>exact ⟨a,b,rfl⟩
  have p:qz w=(match Rt b with | none=>none | some v=>if (decide ((Aj 44 a).length<=2)&&decide (v≠0))=true then (Iu (fun x=>ac5 (pNum x 0)) (Aj 44 a)).map fun ts=>.tup (ts++[.int v]) else none):=by unfold qz; rw [e]
  rw [e] at A B hc;rw [p];have ha:=hc a ie;have hb:=hc b (ij _ ie)
  have C':lx (nq 3 (mOp Cq (mOp dw (au 2) (ak (.int 0))) (ak (.str ",")))) ⟨[some (.obj k,false),some (.str w,false),some (tws [a,b],false),none,none],sto⟩=some (.inl .next,⟨[some (.obj k,false),some (.str w,false),some (tws [a,b],false),some (tws (Aj 44 a),false),none],sto⟩) :=
   xl (ys (zo (zo rfl rfl rfl) rfl (Hh aa7 ha.lt)) rfl)
  have Nb:j9 (vm cR cN) (aj (au 0) (aj (mOp dw (au 2) (ak (.int 1))) cj)) ⟨[some (.obj k,false),some (.str w,false),some (tws [a,b],false),some (tws (Aj 44 a),false),none],sto⟩=some (a5l n (Rt b),⟨[some (.obj k,false),some (.str w,false),some (tws [a,b],false),some (tws (Aj 44 a),false),none],sto⟩) :=
   xmc (s1:=⟨[some (.obj k,false),some (.str w,false),some (tws [a,b],false),some (tws (Aj 44 a),false),none],sto⟩) (zc rfl (zc (zo rfl rfl rfl) rfl)) (Qe hk hb)
  cases e1:Rt b with
  | none =>
   rw [e1] at Nb;exact sy (xq A (xq (ni hk B) (xq C' (xqr (xsr Nb))))) rfl
  | some v =>
   rw [e1] at Nb;have V:Kw 4 (j9 (vm cR cN) (aj (au 0) (aj (mOp dw (au 2) (ak (.int 1))) cj))) ⟨[some (.obj k,false),some (.str w,false),some (tws [a,b],false),some (tws (Aj 44 a),false),none],sto⟩=some (.inl .next,⟨[some (.obj k,false),some (.str w,false),some (tws [a,b],false),some (tws (Aj 44 a),false),some (.int v,false)],sto⟩):=xst Nb rfl
   have D:yd (Ep (cu (mOp leT (gq Ax (aj (au 3) cj)) (ak (.int 2)))) (cu (mOp neO (au 4) (ak (.int 0))))) ⟨[some (.obj k,false),some (.str w,false),some (tws [a,b],false),some (tws (Aj 44 a),false),some (.int v,false)],sto⟩=some (.bl (decide ((Aj 44 a).length<=2)&&decide (v≠0)),⟨[some (.obj k,false),some (.str w,false),some (tws [a,b],false),some (tws (Aj 44 a),false),some (.int v,false)],sto⟩) :=
    zba (zo (zm (zc rfl rfl) a71) rfl (ahf (q:=2))) fun _=>zo rfl rfl ne_0
   cases e2:(decide ((Aj 44 a).length<=2)&&decide (v≠0)) with
   | false =>
    rw [e2] at D;dsimp only; rw [e2]; show _=some ((.inr (.int (n:Int)):T ⊕ T),sto);exact sy (xq A (xq (ni hk B) (xq C' (xq V (xqr (Dc hk D)))))) rfl
   | true =>
    rw [e2] at D;have pc:=Wh (c:=44) ha;have cl:=Vy (c:=44) ha
    have M:=U4 (n:=n) (k:=k) (sto:=sto) (p:=fun x=>ac5 (pNum x 0)) (e:=j9 (iy cR cN) (aj (au 1) (aj (au 0) (aj (ak (.int 0)) cj)))) (it:=Bg (au 3)) (l:=Aj 44 a) (r:=[some (.str w,false),some (tws [a,b],false),some (tws (Aj 44 a),false),some (.int v,false)]) (isl rfl cl) (by
     intro x hx;have q:=xmc (F:=iy cR cN) (ms:=aj (au 1) (aj (au 0) (aj (ak (.int 0)) cj))) (s:=ceS k (some (.str x,false)) sto) (s1:=ceS k (some (.str x,false)) sto) (zc rfl (zc rfl (zc rfl rfl))) (Dg hk (pc x hx));rw [q];cases pNum x 0 <;> rfl) (iK cl)
    cases e3:Iu (fun x=>ac5 (pNum x 0)) (Aj 44 a) with
    | none =>
     rw [e3] at M;dsimp only; rw [e2]; show _=some ((.inr (.int (n:Int)):T ⊕ T),sto);exact sy (xq A (xq (ni hk B) (xq C' (xq V (xq (ni hk D) (xrr (ah7 M))))))) rfl
    | some ts =>
     rw [e3] at M;have tl:=Wg e3;have l2:(Aj 44 a).length<=2:=of_decide_eq_true ((ja _ _).mp e2).1;dsimp only; rw [e2]; show _=some ((.inl (.tup (ts++[.int v])):T ⊕ T),sto);have ad:uo (.tup ts) (.tup [.int v])=some (.tup (ts++[.int v])):=hU (by show ts.length+1<1000000; omega);exact Ed (xq A (xq (ni hk B) (xq C' (xq V (xq (ni hk D) (xrt (xop M (xup (zm (zc rfl rfl) rfl)) ad))))))) rfl
 ·rw [iC z] at B
  have p:qz w=none:=by
   unfold qz;split
   ·rename_i a b e; rw [e] at z; exact absurd rfl z
   ·rfl
  rw [p];exact sy (xq A (xqr (Dc hk B))) rfl
end K
end
section
namespace K
open C PySem PySem.W PySem.NumText
variable {cR cN k:Nat} {sto:List SO} {rs:List Str} {n:Nat}
inductive Hd where
 | orr (i m:Int)
 | cut (b:Str) (v:Int)
 | sum (l:List T)
 | rest (d:Int) (l:List T)
noncomputable def hdT:Hd->T
 | .orr i m=>.tup [.str "or",.int i,.int m]
 | .cut b v=>.tup [.str "cut",.str b,.int v]
 | .sum l=>.tup [.str "sum",.tup l]
 | .rest d l=>.tup [.str "rest",.int d,.tup l]
def wd (l:List Str) (i:Nat):Str:=l.getD i ""
noncomputable def vg (l:List Str):Option Hd :=
 if wd l 0 == "or" then
  (if l.length=3 then (match pNum (wd l 1) 0,pNum (wd l 2) 0 with
   | some i,some m=>some (.orr i m)
   | _,_=>none) else none)
 else if wd l 0 == "cut" then
  (if l.length=3 then (if Xa (wd l 1) then (Rt (wd l 2)).map (.cut (wd l 1)) else none) else none)
 else if wd l 0 == "sum" then (Iu wk (l.drop 1)).map .sum
 else if wd l 0 == "rest" && decide (2<=l.length) then (match pNum (wd l 1) 2 with
   | some d=>(Iu qz (l.drop 2)).map (.rest d)
   | none=>none)
 else none
noncomputable def yg (l:List Str):Option T :=
 if wd l 0 == "start" then
  (if l.length=2 then (if nameB (wd l 1) then some (.tup [.str "start",.str (wd l 1)]) else none) else none)
 else if wd l 0 == "own" then
  (if l.length=2 then (pNum (wd l 1) 0).map (fun v=>.tup [.str "own",.int v]) else none)
 else if wd l 0 == "other" && decide (l.length=4) then (match pNum (wd l 1) 0 with
   | some v=>if nameB (wd l 2) then (pNum (wd l 3) 0).map (fun u=>.tup [.str "other",.int v,.str (wd l 2),.int u]) else none
   | none=>none)
 else none
structure Pws (l:List Str):Prop where
 ne:l≠[]
 lt:l.length<lim
 pn:∀ w∈l,Pn w
theorem pws {x:Str} (h:Pn x):Pws (ws x):=⟨fun e=>a4u 32 (cs x) (lB.mp e),Vy h,Wh h⟩
section
variable {l:List Str}
theorem Pws.wd (h:Pws l) (i:Nat):Pn (wd l i):=by
 unfold K.wd
 by_cases z:i<l.length
 ·rw [jS,jC z]; exact h.pn _ (mV z)
 ·rw [jS,List.getElem?_eq_none_iff.mpr (by omega)]; exact a7z
theorem Zc {i:Nat} (hi:i<l.length):dw (tws l) (.int (i:Int))=some (.str (wd l i)):=by
 rw [show tws l=.lst (l.map T.str) from rfl,Gh T.str l hi];unfold wd;rw [jS,jC hi];rfl
theorem aed {n d k:Nat}:C.sIx n d (some (k:Int))=min k n:=by
 show (if (k:Int)<0 then ((k:Int)+(n:Int)).toNat else min (k:Int).toNat n)=min k n;rw [hV (by omega),mM]
theorem Va {s:Sta} {m:M T} {i:Nat} (hm:m s=some (tws l,s)):Ao m (qe (ak (.int (i:Int)))) ou s=some (tws (l.drop i),s):=by
 unfold Ao;rw [hm]; dsimp only;rw [zos (show ak (.int (i:Int)) s=some (.int (i:Int),s) from rfl)]; dsimp only;rw [show ou s=some (none,s) from rfl]; dsimp only
 have e:ab6 (some (i:Int)) none (tws l)=some (tws (l.drop i)):=by
  show some (T.lst (Od (l.map .str) (some (i:Int)) none))=_;congr 2;unfold Od;rw [aed,show C.sIx (l.map T.str).length (l.map T.str).length none=(l.map T.str).length from rfl];rw [List.map_drop]
  by_cases z:i<=(l.map T.str).length
  ·rw [mm z,<- jV,lS]
  ·rw [Nat.min_eq_right (by omega),lP,List.drop_eq_nil_of_le (by omega)]; exact List.take_nil
 rw [e]
end
abbrev agh (n:Nat) (o:Option Hd):T ⊕ T:=match o with
 | some v=>.inl (hdT v)
 | none=>.inr (.int (n:Int))
theorem eqS {x y:Str} (hx:Pn x) (hy:okS y):eqO (.str x) (.str y)=some (.bl (x==y)):=qx hx.okS hy
theorem Al:okS ("or" : Str):=by unfold okS; decide +kernel
theorem uf:okS ("cut" : Str):=by unfold okS; decide +kernel
theorem Ac:okS ("sum" : Str):=by unfold okS; decide +kernel
theorem vo:okS ("rest" : Str):=by unfold okS; decide +kernel
theorem Vg:okS ("start" : Str):=by unfold okS; decide +kernel
theorem a84:okS ("own" : Str):=by unfold okS; decide +kernel
theorem Wc:okS ("other" : Str):=by unfold okS; decide +kernel
abbrev hS (k:Nat) (l:List Str) (o:C.Slot) (sto:List SO):Sta:=⟨[some (.obj k,false),some (tws l,false),o],sto⟩
section
variable {l:List Str} {o:C.Slot}
theorem hW (h:Pws l) {y:Str} (hy:okS y):mOp eqO (mOp dw (au 1) (ak (.int 0))) (ak (.str y)) (hS k l o sto)=some (.bl (wd l 0==y),hS k l o sto) :=
 zo (zo rfl rfl (Zc (i:=0) (mU.mpr h.ne))) rfl (eqS (h.wd 0) hy)
theorem hL {m:Nat}:mOp eqO (gq Ax (aj (au 1) cj)) (ak (.int (m:Int))) (hS k l o sto)=some (.bl (decide (l.length=m)),hS k l o sto) :=
 zo (zm (zc rfl rfl) a71) rfl afv
theorem hN (hk:Ek cR k rs n sto) (h:Pws l) {i:Nat} (hi:i<l.length) {v:Int}:j9 (iy cR cN) (aj (au 0) (aj (mOp dw (au 1) (ak (.int (i:Int)))) (aj (ak (.int v)) cj))) (hS k l o sto)=some (a5l n (pNum (wd l i) v),hS k l o sto) :=
 xmc (s1:=hS k l o sto) (zc rfl (zc (zo rfl rfl (Zc hi)) (zc rfl rfl))) (Dg hk (h.wd i))
theorem hSg (hk:Ek cR k rs n sto) (h:Pws l) {i:Nat} (hi:i<l.length):j9 (vm cR cN) (aj (au 0) (aj (mOp dw (au 1) (ak (.int (i:Int)))) cj)) (hS k l o sto)=some (a5l n (Rt (wd l i)),hS k l o sto) :=
 xmc (s1:=hS k l o sto) (zc rfl (zc (zo rfl rfl (Zc hi)) rfl)) (Qe hk (h.wd i))
theorem hB (hk:Ek cR k rs n sto) (h:Pws l) {i:Nat} (hi:i<l.length):j9 (J8 cR cN) (aj (au 0) (aj (mOp dw (au 1) (ak (.int (i:Int)))) cj)) (hS k l o sto)=some (if Xa (wd l i)=true then .inl (.str (wd l i)) else .inr (.int (n:Int)),hS k l o sto) :=
 xmc (s1:=hS k l o sto) (zc rfl (zc (zo rfl rfl (Zc hi)) rfl)) (ae6 hk (h.wd i))
theorem hNm (hk:Ek cR k rs n sto) (h:Pws l) {i:Nat} (hi:i<l.length):j9 (Bl cR cN) (aj (au 0) (aj (mOp dw (au 1) (ak (.int (i:Int)))) cj)) (hS k l o sto)=some (if nameB (wd l i)=true then .inl (.str (wd l i)) else .inr (.int (n:Int)),hS k l o sto) :=
 xmc (s1:=hS k l o sto) (zc rfl (zc (zo rfl rfl (Zc hi)) rfl)) (Zm hk (h.wd i))
end
section
variable {l:List Str}
theorem aa9 (h:Prs rs) (hk:Ek cR k rs n sto):Cy cR cN [.obj k] sto=some (if has rs n=true then agh (n+1) (vg (ws (row rs n))) else .inr (.int ((n+1:Nat):Int)),up cR k rs (n+1) sto):=by
 have hu:Ek cR k rs (n+1) (up cR k rs (n+1) sto):=hk.up
 have W:oh cR "next_words" (je cR cN) (au 0) pq ⟨[some (.obj k,false),none,none],sto⟩=some (if has rs n=true then .inl (tws (ws (row rs n))) else .inr (.int ((n+1:Nat):Int)),⟨[some (.obj k,false),none,none],up cR k rs (n+1) sto⟩) :=
  a4s (s1:=⟨[some (.obj k,false),none,none],sto⟩) (s2:=⟨[some (.obj k,false),none,none],sto⟩) (ts:=[]) rfl hk ag4 rfl (M9 h hk)
 cases e:has rs n with
 | false =>
  rw [e,hV (by decide)] at W;rw [hV (by decide)];exact sy (xqr (xsr W)) rfl
 | true =>
  rw [e,hU rfl] at W;rw [hU rfl];have pl:=pws (h.row n);generalize ws (row rs n)=l at W pl;have A:Kw 1 (oh cR "next_words" (je cR cN) (au 0) pq) ⟨[some (.obj k,false),none,none],sto⟩=some (.inl .next,hS k l none (up cR k rs (n+1) sto)):=xst W rfl;generalize up cR k rs (n+1) sto=z at A hu;generalize n+1=m at hu;clear W hk;have w1:=zt (hW (k:=k) (sto:=z) (o:=none) pl Al);have w2:=zt (hW (k:=k) (sto:=z) (o:=none) pl uf);have w3:=zt (hW (k:=k) (sto:=z) (o:=none) pl Ac);have w4:=hW (k:=k) (sto:=z) (o:=none) pl vo;have L3:=hL (k:=k) (l:=l) (sto:=z) (o:=none) (m:=3);cases c1:(wd l 0 == "or") with
  | true =>
   rw [c1] at w1
   by_cases z3:l.length=3
   ·rw [iF z3] at L3;have e1:vg l=(match pNum (wd l 1) 0,pNum (wd l 2) 0 with | some i,some m=>some (.orr i m) | _,_=>none):=by unfold vg; rw [hU c1,hU z3]
    have N1:=hN (cN:=cN) (o:=none) hu pl (i:=1) (by omega) (v:=0);have N2:=hN (cN:=cN) (o:=none) hu pl (i:=2) (by omega) (v:=0);rw [e1];cases q1:pNum (wd l 1) 0 with
    | none =>
     rw [q1] at N1;exact sy (xq A (xqr (xik w1 (xq (ni hu L3) (xrr (xtr (Qk (xup rfl) (Yl N1)))))))) rfl
    | some i =>
     rw [q1] at N1;cases q2:pNum (wd l 2) 0 with
     | none =>
      rw [q2] at N2;exact sy (xq A (xqr (xik w1 (xq (ni hu L3) (xrr (xtr (Qk (xup rfl) (Qk N1 (Yl N2))))))))) rfl
     | some m2 =>
      rw [q2] at N2;exact Ed (xq A (xqt (xik w1 (xq (ni hu L3) (xrt (xtu (xcs (xup rfl) (xcs N1 (xcs N2 rfl))))))))) rfl
   ·rw [iC z3] at L3;have e1:vg l=none:=by unfold vg; rw [hU c1,hV z3]
    rw [e1];exact sy (xq A (xqr (xik w1 (xqr (Dc hu L3))))) rfl
  | false =>
   rw [c1] at w1;cases c2:(wd l 0 == "cut") with
   | true =>
    rw [c2] at w2
    by_cases z3:l.length=3
    ·rw [iF z3] at L3;have e1:vg l=(if Xa (wd l 1)=true then (Rt (wd l 2)).map (.cut (wd l 1)) else none):=by unfold vg; rw [hV (by rw [c1]; decide),hU c2,hU z3]
     have N1:=hB (cN:=cN) (o:=none) hu pl (i:=1) (by omega);have N2:=hSg (cN:=cN) (o:=none) hu pl (i:=2) (by omega);rw [e1];cases q1:Xa (wd l 1) with
     | false =>
      rw [q1,hV (by decide)] at N1;rw [hV (by decide)];exact sy (xq A (xq (xie w1 (xl rfl)) (xqr (xik w2 (xq (ni hu L3) (xrr (xtr (Qk (xup rfl) (Yl N1))))))))) rfl
     | true =>
      rw [q1,hU rfl] at N1;rw [hU rfl];cases q2:Rt (wd l 2) with
      | none =>
       rw [q2] at N2;exact sy (xq A (xq (xie w1 (xl rfl)) (xqr (xik w2 (xq (ni hu L3) (xrr (xtr (Qk (xup rfl) (Qk N1 (Yl N2)))))))))) rfl
      | some v =>
       rw [q2] at N2;exact Ed (xq A (xq (xie w1 (xl rfl)) (xqt (xik w2 (xq (ni hu L3) (xrt (xtu (xcs (xup rfl) (xcs N1 (xcs N2 rfl)))))))))) rfl
    ·rw [iC z3] at L3;have e1:vg l=none:=by unfold vg; rw [hV (by rw [c1]; decide),hU c2,hV z3]
     rw [e1];exact sy (xq A (xq (xie w1 (xl rfl)) (xqr (xik w2 (xqr (Dc hu L3)))))) rfl
   | false =>
    rw [c2] at w2;cases c3:(wd l 0 == "sum") with
    | true =>
     rw [c3] at w3;have e1:vg l=(Iu wk (l.drop 1)).map .sum:=by unfold vg; rw [hV (by rw [c1]; decide),hV (by rw [c2]; decide),hU c3]
     have dl:(l.drop 1).length<lim:=kd (by rw [jV]; omega) pl.lt
     have M:=U4 (n:=m) (k:=k) (sto:=z) (p:=wk) (e:=j9 (Ga cR cN) (aj (au 1) (aj (au 0) cj))) (it:=Bg (Ao (au 1) (qe (ak (.int 1))) ou)) (l:=l.drop 1) (r:=[some (tws l,false),none]) (zis (Va (i:=1) rfl) dl) (by
      intro x hx;exact xmc (s1:=ceS k (some (.str x,false)) z) (zc rfl (zc rfl rfl)) (a96 hu (pl.pn x (mr hx)))) (iK dl)
     rw [e1];cases q1:Iu wk (l.drop 1) with
     | none =>
      rw [q1] at M;exact sy (xq A (xq (xie w1 (xl rfl)) (xq (xie w2 (xl rfl)) (xqr (xik w3 (xrr (xtr (Qk (xup rfl) (Yl M))))))))) rfl
     | some ts =>
      rw [q1] at M;exact Ed (xq A (xq (xie w1 (xl rfl)) (xq (xie w2 (xl rfl)) (xqt (xik w3 (xrt (xtu (xcs (xup rfl) (xcs M rfl))))))))) rfl
    | false =>
     rw [c3] at w3
     have D:yd (Ep (cu (mOp eqO (mOp dw (au 1) (ak (.int 0))) (ak (.str "rest")))) (cu (mOp geT (gq Ax (aj (au 1) cj)) (ak (.int 2))))) (hS k l none z)=some (.bl ((wd l 0 == "rest")&&decide (2<=l.length)),hS k l none z) :=
      zba w4 fun _=>zo (zm (zc rfl rfl) a71) rfl (aha (q:=2))
     cases c4:((wd l 0 == "rest")&&decide (2<=l.length)) with
     | false =>
      rw [c4] at D;have e1:vg l=none:=by unfold vg; rw [hV (by rw [c1]; decide),hV (by rw [c2]; decide),hV (by rw [c3]; decide),hV (by rw [c4]; decide)]
      rw [e1];exact sy (xq A (xq (xie w1 (xl rfl)) (xq (xie w2 (xl rfl)) (xq (xie w3 (xl rfl)) (xqr (Dc hu D)))))) rfl
     | true =>
      rw [c4] at D;have l2:2<=l.length:=of_decide_eq_true ((ja _ _).mp c4).2;have e1:vg l=(match pNum (wd l 1) 2 with | some d=>(Iu qz (l.drop 2)).map (.rest d) | none=>none):=by unfold vg; rw [hV (by rw [c1]; decide),hV (by rw [c2]; decide),hV (by rw [c3]; decide),hU c4]
      have N1:=hN (cN:=cN) (o:=none) hu pl (i:=1) (by omega) (v:=2);rw [e1];cases q1:pNum (wd l 1) 2 with
      | none =>
       rw [q1] at N1;exact sy (xq A (xq (xie w1 (xl rfl)) (xq (xie w2 (xl rfl)) (xq (xie w3 (xl rfl)) (xq (ni hu D) (xqr (xsr N1))))))) rfl
      | some d =>
       rw [q1] at N1;have V:Kw 2 (j9 (iy cR cN) (aj (au 0) (aj (mOp dw (au 1) (ak (.int 1))) (aj (ak (.int 2)) cj)))) (hS k l none z)=some (.inl .next,hS k l (some (.int d,false)) z):=xst N1 rfl;have dl:(l.drop 2).length<lim:=kd (by rw [jV]; omega) pl.lt
       have M:=U4 (n:=m) (k:=k) (sto:=z) (p:=qz) (e:=j9 (Fb cR cN) (aj (au 1) (aj (au 0) cj))) (it:=Bg (Ao (au 1) (qe (ak (.int 2))) ou)) (l:=l.drop 2) (r:=[some (tws l,false),some (.int d,false)]) (zis (Va (i:=2) rfl) dl) (by
        intro x hx;exact xmc (s1:=ceS k (some (.str x,false)) z) (zc rfl (zc rfl rfl)) (a5h hu (pl.pn x (mr hx)))) (iK dl)
       cases q2:Iu qz (l.drop 2) with
       | none =>
        rw [q2] at M;exact sy (xq A (xq (xie w1 (xl rfl)) (xq (xie w2 (xl rfl)) (xq (xie w3 (xl rfl)) (xq (ni hu D) (xq V (xrr (xtr (Qk (xup rfl) (Qk (xup rfl) (Yl M)))))))))) ) rfl
       | some ts =>
        rw [q2] at M;exact Ed (xq A (xq (xie w1 (xl rfl)) (xq (xie w2 (xl rfl)) (xq (xie w3 (xl rfl)) (xq (ni hu D) (xq V (xrt (xtu (xcs (xup rfl) (xcs (xup rfl) (xcs M rfl))))))))))) rfl
end
end K
end
section
namespace K
open C PySem PySem.W PySem.NumText
variable {cR cN k:Nat} {sto:List SO} {rs:List Str} {n:Nat}
theorem a8k (h:Prs rs) (hk:Ek cR k rs n sto):Cr cR cN [.obj k] sto=some (if has rs n=true then a8u (n+1) (yg (ws (row rs n))) else .inr (.int ((n+1:Nat):Int)),up cR k rs (n+1) sto):=by
 have hu:Ek cR k rs (n+1) (up cR k rs (n+1) sto):=hk.up
 have W:oh cR "next_words" (je cR cN) (au 0) pq ⟨[some (.obj k,false),none,none],sto⟩=some (if has rs n=true then .inl (tws (ws (row rs n))) else .inr (.int ((n+1:Nat):Int)),⟨[some (.obj k,false),none,none],up cR k rs (n+1) sto⟩) :=
  a4s (s1:=⟨[some (.obj k,false),none,none],sto⟩) (s2:=⟨[some (.obj k,false),none,none],sto⟩) (ts:=[]) rfl hk ag4 rfl (M9 h hk)
 cases e:has rs n with
 | false =>
  rw [e,hV (by decide)] at W;rw [hV (by decide)];exact sy (xqr (xsr W)) rfl
 | true =>
  rw [e,hU rfl] at W;rw [hU rfl];have pl:=pws (h.row n);generalize ws (row rs n)=l at W pl;have A:Kw 1 (oh cR "next_words" (je cR cN) (au 0) pq) ⟨[some (.obj k,false),none,none],sto⟩=some (.inl .next,hS k l none (up cR k rs (n+1) sto)):=xst W rfl;generalize up cR k rs (n+1) sto=z at A hu;generalize n+1=m at hu;clear W hk;have w1:=zt (hW (k:=k) (sto:=z) (o:=none) pl Vg);have w2:=zt (hW (k:=k) (sto:=z) (o:=none) pl a84);have w4:=hW (k:=k) (sto:=z) (o:=none) pl Wc;have L2:=hL (k:=k) (l:=l) (sto:=z) (o:=none) (m:=2);cases c1:(wd l 0 == "start") with
  | true =>
   rw [c1] at w1
   by_cases z3:l.length=2
   ·rw [iF z3] at L2;have e1:yg l=(if nameB (wd l 1)=true then some (.tup [.str "start",.str (wd l 1)]) else none):=by unfold yg; rw [hU c1,hU z3]
    have N1:=hNm (cN:=cN) (o:=none) hu pl (i:=1) (by omega);rw [e1];cases q1:nameB (wd l 1) with
    | false =>
     rw [q1,hV (by decide)] at N1;rw [hV (by decide)];exact sy (xq A (xqr (xik w1 (xq (ni hu L2) (xrr (xtr (Qk (xup rfl) (Yl N1)))))))) rfl
    | true =>
     rw [q1,hU rfl] at N1;rw [hU rfl];exact Ed (xq A (xqt (xik w1 (xq (ni hu L2) (xrt (xtu (xcs (xup rfl) (xcs N1 rfl)))))))) rfl
   ·rw [iC z3] at L2;have e1:yg l=none:=by unfold yg; rw [hU c1,hV z3]
    rw [e1];exact sy (xq A (xqr (xik w1 (xqr (Dc hu L2))))) rfl
  | false =>
   rw [c1] at w1;cases c2:(wd l 0 == "own") with
   | true =>
    rw [c2] at w2
    by_cases z3:l.length=2
    ·rw [iF z3] at L2;have e1:yg l=(pNum (wd l 1) 0).map (fun v=>.tup [.str "own",.int v]):=by unfold yg; rw [hV (by rw [c1]; decide),hU c2,hU z3]
     have N1:=hN (cN:=cN) (o:=none) hu pl (i:=1) (by omega) (v:=0);rw [e1];cases q1:pNum (wd l 1) 0 with
     | none =>
      rw [q1] at N1;exact sy (xq A (xq (xie w1 (xl rfl)) (xqr (xik w2 (xq (ni hu L2) (xrr (xtr (Qk (xup rfl) (Yl N1))))))))) rfl
     | some v =>
      rw [q1] at N1;exact Ed (xq A (xq (xie w1 (xl rfl)) (xqt (xik w2 (xq (ni hu L2) (xrt (xtu (xcs (xup rfl) (xcs N1 rfl))))))))) rfl
    ·rw [iC z3] at L2;have e1:yg l=none:=by unfold yg; rw [hV (by rw [c1]; decide),hU c2,hV z3]
     rw [e1];exact sy (xq A (xq (xie w1 (xl rfl)) (xqr (xik w2 (xqr (Dc hu L2)))))) rfl
   | false =>
    rw [c2] at w2
    have D:yd (Ep (cu (mOp eqO (mOp dw (au 1) (ak (.int 0))) (ak (.str "other")))) (cu (mOp eqO (gq Ax (aj (au 1) cj)) (ak (.int 4))))) (hS k l none z)=some (.bl ((wd l 0 == "other")&&decide (l.length=4)),hS k l none z) :=
     zba w4 fun _=>hL (m:=4)
    cases c4:((wd l 0 == "other")&&decide (l.length=4)) with
    | false =>
     rw [c4] at D;have e1:yg l=none:=by unfold yg; rw [hV (by rw [c1]; decide),hV (by rw [c2]; decide),hV (by rw [c4]; decide)]
     rw [e1];exact sy (xq A (xq (xie w1 (xl rfl)) (xq (xie w2 (xl rfl)) (xqr (Dc hu D))))) rfl
    | true =>
     rw [c4] at D;have l4:l.length=4:=of_decide_eq_true ((ja _ _).mp c4).2;have e1:yg l=(match pNum (wd l 1) 0 with | some v=>if nameB (wd l 2)=true then (pNum (wd l 3) 0).map (fun u=>.tup [.str "other",.int v,.str (wd l 2),.int u]) else none | none=>none):=by unfold yg; rw [hV (by rw [c1]; decide),hV (by rw [c2]; decide),hU c4]; try (cases pNum (wd l 1) 0 <;> rfl)
     have N1:=hN (cN:=cN) (o:=none) hu pl (i:=1) (by omega) (v:=0);rw [e1];cases q1:pNum (wd l 1) 0 with
     | none =>
      rw [q1] at N1;exact sy (xq A (xq (xie w1 (xl rfl)) (xq (xie w2 (xl rfl)) (xq (ni hu D) (xqr (xsr N1)))))) rfl
     | some v =>
      rw [q1] at N1;have V:Kw 2 (j9 (iy cR cN) (aj (au 0) (aj (mOp dw (au 1) (ak (.int 1))) (aj (ak (.int 0)) cj)))) (hS k l none z)=some (.inl .next,hS k l (some (.int v,false)) z):=xst N1 rfl;have N2:=hNm (cN:=cN) (o:=some (.int v,false)) hu pl (i:=2) (by omega);have N3:=hN (cN:=cN) (o:=some (.int v,false)) hu pl (i:=3) (by omega) (v:=0);cases q2:nameB (wd l 2) with
      | false =>
       rw [q2,hV (by decide)] at N2;dsimp only;rw [hV (by decide)];exact sy (xq A (xq (xie w1 (xl rfl)) (xq (xie w2 (xl rfl)) (xq (ni hu D) (xq V (xrr (xtr (Qk (xup rfl) (Qk (xup rfl) (Yl N2)))))))))) rfl
      | true =>
       rw [q2,hU rfl] at N2;dsimp only;rw [hU rfl];cases q3:pNum (wd l 3) 0 with
       | none =>
        rw [q3] at N3;exact sy (xq A (xq (xie w1 (xl rfl)) (xq (xie w2 (xl rfl)) (xq (ni hu D) (xq V (xrr (xtr (Qk (xup rfl) (Qk (xup rfl) (Qk N2 (Yl N3))))))))))) rfl
       | some u =>
        rw [q3] at N3;exact Ed (xq A (xq (xie w1 (xl rfl)) (xq (xie w2 (xl rfl)) (xq (ni hu D) (xq V (xrt (xtu (xcs (xup rfl) (xcs (xup rfl) (xcs N2 (xcs N3 rfl))))))))))) rfl
end K
end
section
namespace K
open C PySem
variable {cR cN k:Nat} {rs:List Str}
abbrev Fr:=Hd × List T
def many:Hd->Int
 | .orr _ m=>m
 | .cut _ _=>2
 | _=>0
noncomputable def vf (h:Hd) (ps:List T):T:=match h with
 | .orr i _=>.tup [.str "or",.int i,.tup ps]
 | .cut b v=>.tup ([.str "cut",.str b,.int v]++ps)
 | .sum l=>.tup ([.str "sum",.tup l]++ps)
 | .rest d l=>.tup ([.str "rest",.int d,.tup l]++ps)
noncomputable def close (f:Fr):List Fr->T ⊕ List Fr
 | []=>if (f.2.length:Int)=many f.1 then .inl (vf f.1 f.2) else .inr [f]
 | g::r=>if (f.2.length:Int)=many f.1 then close (g.1,g.2++[vf f.1 f.2]) r else .inr (f::g::r)
abbrev Fi:=Hd × Nat
abbrev fiT (f:Fi):T:=.tup [hdT f.1,.int (many f.1),.obj f.2]
structure Lk (k:Nat) (sto:List SO) (st:List (Fi × List T)):Prop where
 at':∀ f∈st,sto[f.1.2]? = some (.lst f.2)
 nd:(st.map fun f=>f.1.2).Nodup
abbrev erase (st:List (Fi × List T)):List Fr:=st.map fun f=>(f.1.1,f.2)
abbrev opL (st:List (Fi × List T)):T:=.lst (st.reverse.map fun f=>fiT f.1)
theorem Dk (f:Fi × List T) (st:List (Fi × List T)):opL (f::st)=.lst ((st.reverse.map fun f=>fiT f.1)++[fiT f.1]):=by
 unfold opL;rw [kM,jT]; rfl
abbrev nS (k:Nat) (op:T) (a b c:C.Slot) (sto:List SO):Sta:=⟨[some (.obj k,false),some (op,true),a,b,c],sto⟩
theorem N6 {L:List T} {t:T} {s:Sta} (h:s.env[1]? = some (some (.lst (L++[t]),true))):zj 1 (mUn Ey (ak (.int 1))) s=some (t,s):=by
 have hl:Az 1 s=true:=by unfold Az; rw [h]
 unfold zj;rw [hU hl,show mUn Ey (ak (.int 1)) s=some (.int (-1),s) from rfl];dsimp only;rw [h];dsimp only
 have e:ixI (L++[t]).length (-1)=some L.length:=by
  unfold ixI;rw [hV (by decide),il,iP,hU (by omega)];congr 1;omega
 rw [e];simp
theorem Tz {sto:List SO} {h:Hd} {ps:List T} (hl:ps.length<lim) (hs:(many h=0->ps=[])) (h2:∀ b v,h=.cut b v->ps.length=2):uh [hdT h,.tup ps] sto=some (vf h ps,sto):=by
 cases h with
 | orr i m =>
  exact zrun (zqr (zk (zt (zo (zo rfl rfl rfl) rfl (qx Al Al))) (zr (zm (zc rfl (zc (zo rfl rfl rfl) (zc rfl rfl))) rfl)))) rfl
 | cut b v =>
  have e:=h2 b v rfl;have ad:uo (.tup [.str "cut",.str b,.int v]) (.tup ps)=some (vf (.cut b v) ps):=hU (by show 3+ps.length<1000000; omega);exact zrun (zq (ze (zt (zo (zo rfl rfl rfl) rfl (qx uf Al))) rfl) (zr (zo rfl rfl ad))) rfl
 | sum l =>
  have e:=hs rfl;subst e;exact zrun (zq (ze (zt (zo (zo rfl rfl rfl) rfl (qx Ac Al))) rfl) (zr (zo rfl rfl rfl))) rfl
 | rest d l =>
  have e:=hs rfl;subst e;exact zrun (zq (ze (zt (zo (zo rfl rfl rfl) rfl (qx vo Al))) rfl) (zr (zo rfl rfl rfl))) rfl
abbrev clC:M Bool:=cu (mOp eqO (G4 (mOp dw (zj 1 (mUn Ey (ak (.int 1)))) (ak (.int 2)))) (mOp dw (zj 1 (mUn Ey (ak (.int 1)))) (ak (.int 1))))
abbrev clB:S:=nj (nq 4 (f9 uh (aj (mOp dw (zj 1 (mUn Ey (ak (.int 1)))) (ak (.int 0))) (aj (Bp (mOp dw (O1 1) (ak (.int 2)))) cj))))
 (nj (sIf (cu (mOp eqO (yq 1) (ak (.int 0))))
 (xg (au 4))
 Ce)
 (Eu (mOp dw (zj 1 (mUn Ey (ak (.int 1)))) (ak (.int 2))) (au 4)))
theorem a2j {o:M T} {s s1:Sta} {i:Nat} {xs:List T} (h:o s=some (.obj i,s1)) (hs:s1.sto[i]? = some (.lst xs)):G4 o s=some (.int (xs.length:Int),s1):=by
 unfold G4; rw [h]; dsimp only; rw [hs]
theorem pop_at {L:List T} {t:T} {e0 a b c:C.Slot} {sto:List SO}:O1 1 ⟨[e0,some (.lst (L++[t]),true),a,b,c],sto⟩=some (t,⟨[e0,some (.lst L,true),a,b,c],sto⟩):=by
 unfold O1;dsimp only [List.getElem?_cons_succ,List.getElem?_cons_zero];rw [show (L++[t])[(L++[t]).length - 1]? = some t from by simp];dsimp only;rw [List.dropLast_concat];rfl
theorem a9t {st:List (Fi × List T)} {f:Fi × List T} {a b c:C.Slot} {sto:List SO} (h:Lk k sto (f::st)):clC (nS k (opL (f::st)) a b c sto)=some (decide ((f.2.length:Int)=many f.1.1),nS k (opL (f::st)) a b c sto):=by
 have o:=h.at' f ie;rw [Dk];refine zt (zo (a2j (i:=f.1.2) (xs:=f.2) (s1:=nS k (.lst ((st.reverse.map fun f=>fiT f.1)++[fiT f.1])) a b c sto) (zo (N6 rfl) rfl rfl) o) (zo (N6 rfl) rfl rfl) ?_);rw [wu];rw [jA.mpr (by rw [jI,iG]:((f.2.length:Int)==many f.1.1)=true↔decide ((f.2.length:Int)=many f.1.1)=true)]
theorem Lk.tail {sto:List SO} {f:Fi × List T} {st:List (Fi × List T)} (h:Lk k sto (f::st)):Lk k sto st :=
 ⟨fun g hg=>h.at' g (ij _ hg),(jN.mp h.nd).2⟩
theorem Lk.app {sto:List SO} {g:Fi × List T} {st:List (Fi × List T)} {p:T} (h:Lk k sto (g::st)):Lk k (sto.set g.1.2 (.lst (g.2++[p]))) ((g.1,g.2++[p])::st):=by
 have o:=h.at' g ie;have aS:g.1.2<sto.length:=(iE.mp o).1;refine ⟨fun f hf=>?_,h.nd⟩;rcases ir.mp hf with rfl | hf
 ·exact iM aS
 ·have ne:g.1.2≠f.1.2:=fun z=>(jN.mp h.nd).1 (iN.mpr ⟨f,hf,z.symm⟩);show (sto.set g.1.2 _)[f.1.2]? = _;rw [iJ ne];exact h.at' f (ij _ hf)
theorem wnf {c:M Bool} {b:S} {s s1:Sta} {j:Nat} (h:c s=some (false,s1)):uc (j+1) c b s=some (.next,s1):=by rw [uc]; dsimp only; rw [h]
theorem wnt {c:M Bool} {b:S} {s s1 s2:Sta} {j:Nat} {q:Option (C.Flow × Sta)} (h:c s=some (true,s1)) (h1:b s1=some (.next,s2)) (h2:uc j c b s2=q):uc (j+1) c b s=q:=by rw [uc]; dsimp only; rw [h]; dsimp only; rw [h1]; exact h2
theorem wnr {c:M Bool} {b:S} {s s1 s2:Sta} {j:Nat} {t:T} (h:c s=some (true,s1)) (h1:b s1=some (.ret t,s2)):uc (j+1) c b s=some (.ret t,s2):=by rw [uc]; dsimp only; rw [h]; dsimp only; rw [h1]
theorem O4 {f:Fr} (h:¬ (f.2.length:Int)=many f.1):∀ r:List Fr,close f r=.inr (f::r)
 | []=>by unfold close; rw [hV h]
 | g::r=>by unfold close; rw [hV h]
theorem Ou {f:Fr} (h:(f.2.length:Int)=many f.1):close f []=.inl (vf f.1 f.2):=by unfold close; rw [hU h]
theorem Qo {f g:Fr} {r:List Fr} (h:(f.2.length:Int)=many f.1):close f (g::r)=close (g.1,g.2++[vf f.1 f.2]) r:=by
 conv=>lhs; unfold close
 rw [hU h]
theorem Ke {L:List T} {s:Sta} (h:s.env[1]? = some (some (.lst L,true))):yq 1 s=some (.int (L.length:Int),s):=by
 have hl:Az 1 s=true:=by unfold Az; rw [h]
 unfold yq
 first
 | (rw [h])
 | (rw [hU hl,h])
theorem a2h {N:Nat} (hN:N+2<lim) {a b:C.Slot}:∀ (r:List (Fi × List T)) (f:Fi × List T) (sto:List SO) (c:C.Slot) (fu:Nat),r.length<fu->Lk k sto (f::r)->f.2.length<=N+1->(∀ g∈r,g.2.length<=N) ->
  ∃ ae c',ae.length=sto.length/\(∀ j,(∀ g∈f::r,g.1.2≠j)->ae[j]? = sto[j]?) /\
   match close (f.1.1,f.2) (erase r) with
   | .inl p=>uc fu clC clB (nS k (opL (f::r)) a b c sto)=some (.ret p,nS k (opL []) a b c' ae)
   | .inr aa=>∃ aQ:List (Fi × List T),erase aQ=aa/\Lk k ae aQ/\(∀ g∈aQ,g.2.length<=N+1)/\(∀ g∈aQ,∃ g'∈f::r,g'.1.2=g.1.2)/\uc fu clC clB (nS k (opL (f::r)) a b c sto)=some (.next,nS k (opL aQ) a b c' ae)
 | r,f,sto,c,0,hf,_,_,_=>absurd hf (lQ _)
 | r,f,sto,c,fu+1,hf,h,hl,hr=>by
  have t:=a9t (a:=a) (b:=b) (c:=c) h
  by_cases z:(f.2.length:Int)=many f.1.1
  ·rw [iF z] at t;have o:=h.at' f ie
   have W:uh [hdT f.1.1,.tup f.2] sto=some (vf f.1.1 f.2,sto):=Tz (by show _<1000000; have:lim=1000000:=rfl; omega) (fun q=>by
    rw [q] at z;exact mW.mp (by omega)) (fun b v q=>by
    rw [q] at z;have:(f.2.length:Int)=2:=z;omega)
   have A:nq 4 (f9 uh (aj (mOp dw (zj 1 (mUn Ey (ak (.int 1)))) (ak (.int 0))) (aj (Bp (mOp dw (O1 1) (ak (.int 2)))) cj))) (nS k (opL (f::r)) a b c sto)=some (.next,nS k (opL r) a b (some (vf f.1.1 f.2,false)) sto):=by
    have ot:Bp (mOp dw (O1 1) (ak (.int 2))) (nS k (opL (f::r)) a b c sto)=some (.tup f.2,nS k (opL r) a b c sto):=by
     have p:mOp dw (O1 1) (ak (.int 2)) (nS k (opL (f::r)) a b c sto)=some (.obj f.1.2,nS k (opL r) a b c sto):=by
      rw [Dk];exact zo pop_at rfl rfl
     unfold Bp;rw [p];dsimp only;rw [o]
    have fi:mOp dw (zj 1 (mUn Ey (ak (.int 1)))) (ak (.int 0)) (nS k (opL (f::r)) a b c sto)=some (hdT f.1.1,nS k (opL (f::r)) a b c sto):=by
     rw [Dk];exact zo (N6 rfl) rfl rfl
    exact ys (zf0 (s1:=nS k (opL r) a b c sto) (zc fi (zc ot rfl)) W) rfl
   cases r with
   | nil =>
    refine ⟨sto,some (vf f.1.1 f.2,false),rfl,fun _ _=>rfl,?_⟩;rw [show erase ([]:List (Fi × List T))=[] from rfl,Ou z];exact wnr t (zq A (zqr (zk (zt (zo (Ke rfl) rfl rfl)) (zr rfl))))
   | cons g r =>
    have o2:=h.tail.at' g ie;have hg:=hr g ie
    have L:cu (mOp eqO (yq 1) (ak (.int 0))) (nS k (opL (g::r)) a b (some (vf f.1.1 f.2,false)) sto)=some (false,nS k (opL (g::r)) a b (some (vf f.1.1 f.2,false)) sto):=by
     refine zt (zo (Ke rfl) rfl ?_);rw [wu];congr 2;rw [iY];rw [hZ,ke,iA];omega
    have B:Eu (mOp dw (zj 1 (mUn Ey (ak (.int 1)))) (ak (.int 2))) (au 4) (nS k (opL (g::r)) a b (some (vf f.1.1 f.2,false)) sto)=some (.next,nS k (opL ((g.1,g.2++[vf f.1.1 f.2])::r)) a b (some (vf f.1.1 f.2,false)) (sto.set g.1.2 (.lst (g.2++[vf f.1.1 f.2])))):=by
     have e1:mOp dw (zj 1 (mUn Ey (ak (.int 1)))) (ak (.int 2)) (nS k (opL (g::r)) a b (some (vf f.1.1 f.2,false)) sto)=some (.obj g.1.2,nS k (opL (g::r)) a b (some (vf f.1.1 f.2,false)) sto):=by
      rw [Dk];exact zo (N6 rfl) rfl rfl
     have e2:au 4 (nS k (opL (g::r)) a b (some (vf f.1.1 f.2,false)) sto)=some (vf f.1.1 f.2,nS k (opL (g::r)) a b (some (vf f.1.1 f.2,false)) sto):=rfl;unfold Eu;rw [e1];dsimp only;rw [o2];dsimp only;rw [e2];dsimp only;rw [o2];dsimp only;rw [hU (show g.2.length<1000000 by have:lim=1000000:=rfl; omega)];rw [Dk,Dk]
    obtain ⟨ae,c',q1,q2,q3⟩:=a2h hN (a:=a) (b:=b) r (g.1,g.2++[vf f.1.1 f.2]) (sto.set g.1.2 (.lst (g.2++[vf f.1.1 f.2]))) (some (vf f.1.1 f.2,false)) fu (by rw [iA] at hf; omega) h.tail.app (by show (g.2++[vf f.1.1 f.2]).length<=N+1; rw [il,iP]; omega) (fun x hx=>hr x (ij _ hx));have S:clB (nS k (opL (f::g::r)) a b c sto)=some (.next,nS k (opL ((g.1,g.2++[vf f.1.1 f.2])::r)) a b (some (vf f.1.1 f.2,false)) (sto.set g.1.2 (.lst (g.2++[vf f.1.1 f.2])))):=zq A (zq (ze L rfl) B);have cl:close (f.1.1,f.2) (erase (g::r))=close (g.1.1,g.2++[vf f.1.1 f.2]) (erase r):=Qo z;refine ⟨ae,c',by rw [q1,jG],fun j hj=>?_,?_⟩
    ·rw [q2 j (fun x hx=>?_),iJ (hj g (ij _ ie))];rcases ir.mp hx with rfl | hx
     ·exact hj g (ij _ ie)
     ·exact hj x (ij _ (ij _ hx))
    ·rw [cl];dsimp only at q3;split at q3
     ·rename_i p e;exact wnt t S q3
     ·rename_i aa e;obtain ⟨aQ,u1,u2,u3,u4,u5⟩:=q3;refine ⟨aQ,u1,u2,u3,fun x hx=>?_,wnt t S u5⟩;obtain ⟨g',cw,e'⟩:=u4 x hx;rcases ir.mp cw with rfl | cw
      ·exact ⟨g,ij _ ie,e'⟩
      ·exact ⟨g',ij _ (ij _ cw),e'⟩
  ·rw [iC z] at t;refine ⟨sto,c,rfl,fun _ _=>rfl,?_⟩;rw [O4 z];refine ⟨f::r,rfl,h,fun g hg=>?_,fun g hg=>⟨g,hg,rfl⟩,wnf t⟩;rcases ir.mp hg with rfl | hg
   ·exact hl
   ·exact lZ (hr g hg)
end K
end
section
namespace K
open C PySem
variable {cR cN k:Nat} {rs:List Str}
noncomputable def goP (rs:List Str):Nat->Nat->List Fr->(T × Nat) ⊕ Nat
 | 0,n,_=>.inr (n+1)
 | fu+1,n,st=>if has rs n=true then (match vg (ws (row rs n)) with
   | none=>.inr (n+1)
   | some h=>if st.length<90 then (match close (h,[]) st with
     | .inl p=>.inl (p,n+1)
     | .inr aa=>goP rs fu (n+1) aa)
    else .inr (n+1))
  else .inr (n+1)
theorem a8s {h:Hd} {e0 e1 b c:C.Slot} {sto:List SO}:mIf (cu (mOp eqO (mOp dw (au 2) (ak (.int 0))) (ak (.str "or")))) (mOp dw (au 2) (ak (.int 2))) (mIf (cu (mOp eqO (mOp dw (au 2) (ak (.int 0))) (ak (.str "cut")))) (ak (.int 2)) (ak (.int 0))) ⟨[e0,e1,some (hdT h,false),b,c],sto⟩=some (.int (many h),⟨[e0,e1,some (hdT h,false),b,c],sto⟩):=by
 cases h with
 | orr i m=>exact ac0 (zt (zo (zo rfl rfl rfl) rfl (qx Al Al))) (zo rfl rfl rfl)
 | cut v w=>exact a6p (zt (zo (zo rfl rfl rfl) rfl (qx uf Al))) (ac0 (zt (zo (zo rfl rfl rfl) rfl (qx uf uf))) rfl)
 | sum l=>exact a6p (zt (zo (zo rfl rfl rfl) rfl (qx Ac Al))) (a6p (zt (zo (zo rfl rfl rfl) rfl (qx Ac uf))) rfl)
 | rest d l=>exact a6p (zt (zo (zo rfl rfl rfl) rfl (qx vo Al))) (a6p (zt (zo (zo rfl rfl rfl) rfl (qx vo uf))) rfl)
theorem Lk.ne {sto:List SO} {st:List (Fi × List T)} {n:Nat} (h:Lk k sto st) (hk:Ek cR k rs n sto):∀ g∈st,g.1.2≠k:=fun g hg z=>by
 have a:=h.at' g hg;rw [z,hk] at a;cases a
theorem Lk.up {sto:List SO} {st:List (Fi × List T)} {n m:Nat} (h:Lk k sto st) (hk:Ek cR k rs n sto):Lk k (up cR k rs m sto) st :=
 ⟨fun g hg=>by
  show (sto.set k _)[g.1.2]? = _;rw [iJ (Ne.symm (h.ne hk g hg))];exact h.at' g hg,h.nd⟩
theorem Lk.lt {sto:List SO} {st:List (Fi × List T)} (h:Lk k sto st):∀ g∈st,g.1.2<sto.length:=fun g hg=>(iE.mp (h.at' g hg)).1
theorem Lk.new {sto:List SO} {st:List (Fi × List T)} (h:Lk k sto st) (x:Hd):Lk k (sto++[.lst []]) (((x,sto.length),[])::st):=by
 refine ⟨fun g hg=>?_,?_⟩
 ·rcases ir.mp hg with rfl | hg
  ·show (sto++[SO.lst []])[sto.length]? = _;rw [jO (ic _),kD]; rfl
  ·show (sto++[SO.lst []])[g.1.2]? = _;rw [jJ (h.lt g hg)];exact h.at' g hg
 ·rw [iL,jN];refine ⟨fun z=>?_,h.nd⟩;obtain ⟨g,hg,e⟩:=iN.mp z;have:=h.lt g hg;have e:g.1.2=sto.length:=e;omega
abbrev npB (cR cN:Nat):SX:=zu (Kw 2 (j9 (Cy cR cN) (aj (au 0) cj)))
 (zu (Bo (oh cR "need_that" (dg cR cN) (au 0) (iz (Fg (mOp ltT (yq 1) (ak (.int 90)))) pq)))
 (zu (lx (nq 3 (mIf (cu (mOp eqO (mOp dw (au 2) (ak (.int 0))) (ak (.str "or")))) (mOp dw (au 2) (ak (.int 2))) (mIf (cu (mOp eqO (mOp dw (au 2) (ak (.int 0))) (ak (.str "cut")))) (ak (.int 2)) (ak (.int 0))))))
 (zu (lx (n6 1 (gq (fun l=>some (.tup l)) (aj (au 2) (aj (au 3) (aj (Ci cj) cj))))))
 (lx (uc 6000 clC clB)))))
theorem wxT {c:M Bool} {a:SX} {s s1 s2:Sta} {j:Nat} {t:T} (h:c s=some (true,s1)) (h1:a s1=some (.inl (.ret t),s2)):qg (j+1) c a s=some (.inl (.ret t),s2):=by rw [qg]; dsimp only; rw [h]; dsimp only; rw [h1]
structure Pz (k:Nat) (P:Nat->Prop) (sto ae:List SO):Prop where
 len:sto.length<=ae.length
 eq:∀ i,i<sto.length->i≠k->P i->ae[i]? = sto[i]?
theorem Pz.up {P:Nat->Prop} {sto:List SO} {o:SO}:Pz k P sto (sto.set k o):=⟨by rw [jG]; exact ic _,fun i _ h _=>iJ (Ne.symm h)⟩
theorem Pz.trans {P:Nat->Prop} {a b c:List SO} (h:Pz k P a b) (h2:Pz k P b c):Pz k P a c:=⟨ip h.len h2.len,fun i hi hk hp=>by rw [h2.eq i (iD hi h.len) hk hp,h.eq i hi hk hp]⟩
theorem Z2 (hp:Prs rs):∀ (fu n:Nat) (st:List (Fi × List T)) (sto:List SO) (a b c:C.Slot),n<=5000->5001<=n+fu->Ek cR k rs n sto->Lk k sto st->(∀ g∈st,g.2.length<=n) ->
  ∃ ae a' b' c' bX,Pz k (fun i=>∀ g∈st,g.1.2≠i) sto ae/\match goP rs fu n (erase st) with
   | .inl (p,n')=>Ek cR k rs n' ae/\n'<=5000/\n<n'/\qg fu (cu (ak (.bl true))) (npB cR cN) (nS k (opL st) a b c sto)=some (.inl (.ret p),nS k bX a' b' c' ae)
   | .inr m=>qg fu (cu (ak (.bl true))) (npB cR cN) (nS k (opL st) a b c sto)=some (.inr (.int (m:Int)),nS k bX a' b' c' ae)
 | 0,n,_,_,_,_,_,h1,h2,_,_,_=>absurd h2 (by omega)
 | fu+1,n,st,sto,a,b,c,h1,h2,hk,hL,hN=>by
  have H:=aa9 (cN:=cN) hp hk;have hu:Ek cR k rs (n+1) (up cR k rs (n+1) sto):=hk.up;have fy:Lk k (up cR k rs (n+1) sto) st:=hL.up hk
  have X:j9 (Cy cR cN) (aj (au 0) cj) (nS k (opL st) a b c sto)=some (if has rs n=true then agh (n+1) (vg (ws (row rs n))) else .inr (.int ((n+1:Nat):Int)),nS k (opL st) a b c (up cR k rs (n+1) sto)) :=
   xmc (s1:=nS k (opL st) a b c sto) (zc rfl rfl) H
  rw [goP];cases e:has rs n with
  | false =>
   rw [e,hV (by decide)] at X;rw [hV (by decide)];exact ⟨up cR k rs (n+1) sto,a,b,c,opL st,.up,wxr rfl (xqr (xsr X))⟩
  | true =>
   rw [e,hU rfl] at X;rw [hU rfl]
   have n1:n+1<=5000:=by
    unfold has at e;rw [ja,iG,iG] at e;omega
   cases e1:vg (ws (row rs n)) with
   | none =>
    rw [e1] at X;exact ⟨up cR k rs (n+1) sto,a,b,c,opL st,.up,wxr rfl (xqr (xsr X))⟩
   | some h =>
    rw [e1] at X;dsimp only;have cP:Pz k (fun i=>∀ g∈st,g.1.2≠i) sto (up cR k rs (n+1) sto):=.up;have zl:(up cR k rs (n+1) sto).length=sto.length:=jG ..;generalize up cR k rs (n+1) sto=z at X hu fy cP zl;have A:Kw 2 (j9 (Cy cR cN) (aj (au 0) cj)) (nS k (opL st) a b c sto)=some (.inl .next,nS k (opL st) (some (hdT h,false)) b c z):=xst X rfl
    have D:mOp ltT (yq 1) (ak (.int 90)) (nS k (opL st) (some (hdT h,false)) b c z)=some (.bl (decide (st.length<90)),nS k (opL st) (some (hdT h,false)) b c z):=by
     refine zo (Ke rfl) rfl ?_;show some (T.bl (decide ((((st.reverse.map fun f=>fiT f.1).length:Nat):Int)<90)))=_;rw [hZ,ke];congr 2;rw [jA,iG,iG];omega
    have se:(erase st).length=st.length:=hZ _;rw [se]
    by_cases d:st.length<90
    ·rw [iF d] at D;rw [hU d];have M:lx (nq 3 (mIf (cu (mOp eqO (mOp dw (au 2) (ak (.int 0))) (ak (.str "or")))) (mOp dw (au 2) (ak (.int 2))) (mIf (cu (mOp eqO (mOp dw (au 2) (ak (.int 0))) (ak (.str "cut")))) (ak (.int 2)) (ak (.int 0))))) (nS k (opL st) (some (hdT h,false)) b c z)=some (.inl .next,nS k (opL st) (some (hdT h,false)) (some (.int (many h),false)) c z):=xl (ys a8s rfl)
     have P:lx (n6 1 (gq (fun l=>some (.tup l)) (aj (au 2) (aj (au 3) (aj (Ci cj) cj))))) (nS k (opL st) (some (hdT h,false)) (some (.int (many h),false)) c z)=some (.inl .next,nS k (opL (((h,z.length),[])::st)) (some (hdT h,false)) (some (.int (many h),false)) c (z++[.lst []])):=by
      refine xl (za (s1:=nS k (opL st) (some (hdT h,false)) (some (.int (many h),false)) c (z++[.lst []])) (xs:=st.reverse.map fun f=>fiT f.1) (t:=fiT (h,z.length)) rfl rfl ?_ rfl ?_)
      ·rw [hZ,ke]; show _<1000000; omega
      ·rw [Dk]; rfl
     have hz:Ek cR k rs (n+1) (z++[.lst []]):=by
      show (z++[SO.lst []])[k]? = _;rw [jJ (iE.mp hu).1];exact hu
     have hn:=fy.new h;obtain ⟨ae,c',q1,q2,q3⟩:=a2h (k:=k) (N:=n) (by have:lim=1000000:=rfl; omega) (a:=some (hdT h,false)) (b:=some (.int (many h),false)) st ((h,z.length),[]) (z++[.lst []]) c 6000 (by omega) hn (iZ _) hN
     have hs:Ek cR k rs (n+1) ae:=by
      show ae[k]? = _;rw [q2 k (hn.ne hz)];exact hz
     have cB:Pz k (fun i=>∀ g∈st,g.1.2≠i) sto ae:=cP.trans ⟨by rw [q1,il]; omega,fun i hi cH hP=>by
      rw [q2 i (fun g hg=>?_),jJ hi];rcases ir.mp hg with rfl | hg
      ·show z.length≠i;omega
      ·exact hP g hg⟩
     dsimp only at q3;split at q3
     ·rename_i p ep
      try rw [ep]
      exact ⟨ae,_,_,c',opL [],cB,hs,n1,jZ n,wxT rfl (xq A (xq (ni hu D) (xq M (xq P (xl q3)))))⟩
     ·rename_i aa ep
      try rw [ep]
      obtain ⟨aQ,u1,u2,u3,u4,u5⟩:=q3;subst u1;obtain ⟨sto2,a2,b2,c2,op2,dI,r⟩:=Z2 hp fu (n+1) aQ ae (some (hdT h,false)) (some (.int (many h),false)) c' n1 (by omega) hs u2 u3;have S:∀ q,qg fu (cu (ak (.bl true))) (npB cR cN) (nS k (opL aQ) (some (hdT h,false)) (some (.int (many h),false)) c' ae)=q->qg (fu+1) (cu (ak (.bl true))) (npB cR cN) (nS k (opL st) a b c sto)=q:=fun q w=>wxt rfl (xq A (xq (ni hu D) (xq M (xq P (xl u5))))) w
      have dX:Pz k (fun i=>∀ g∈st,g.1.2≠i) sto sto2:=⟨ip cB.len dI.len,fun i hi cH hP=>by
       rw [dI.eq i (iD hi cB.len) cH (fun g hg z'=>?_),cB.eq i hi cH hP];obtain ⟨g',cw,e'⟩:=u4 g hg;rcases ir.mp cw with rfl | cw
       ·have:z.length=g.1.2:=e';omega
       ·exact hP g' cw (e'.trans z')⟩
      refine ⟨sto2,a2,b2,c2,op2,dX,?_⟩
      try dsimp only
      split at r
      ·rename_i p n' eg;exact ⟨r.1,r.2.1,lM (jZ n) r.2.2.1,S _ r.2.2.2⟩
      ·rename_i m eg;exact S _ r
    ·rw [iC d] at D;rw [hV d];exact ⟨z,_,_,_,_,cP,wxr rfl (xq A (xqr (Dc hu D)))⟩
theorem Ws (hp:Prs rs) {n:Nat} {sto:List SO} (hn:n<=5000) (hk:Ek cR k rs n sto):∃ ae,Pz k (fun _=>True) sto ae/\match goP rs 6000 n [] with
   | .inl (p,n')=>Ek cR k rs n' ae/\n'<=5000/\n<n'/\u6 cR cN [.obj k] sto=some (.inl p,ae)
   | .inr m=>u6 cR cN [.obj k] sto=some (.inr (.int (m:Int)),ae):=by
 obtain ⟨ae,a',b',c',bX,pz,r⟩:=Z2 (cN:=cN) hp 6000 n [] sto none none none hn (by omega) hk ⟨fun f hf=>(nomatch hf),List.nodup_nil⟩ (fun f hf=>(nomatch hf));refine ⟨ae,⟨pz.len,fun i hi cH _=>pz.eq i hi cH fun g hg=>(nomatch hg)⟩,?_⟩;have A:lx (sNew 1 (gq (fun l=>some (.lst l)) cj)) ⟨[some (.obj k,false),none,none,none,none],sto⟩=some (.inl .next,nS k (opL []) none none none sto):=xl (yn rfl rfl);rw [show erase ([]:List (Fi × List T))=[] from rfl] at r;split at r
 ·rename_i p n' eg;exact ⟨r.1,r.2.1,r.2.2.1,Ed (xq A r.2.2.2) rfl⟩
 ·rename_i m eg;exact sy (xq A r) rfl
end K
end
section
namespace K
open C PySem
variable {cR cN k:Nat} {rs:List Str}
structure Ptx (x:Str):Prop where
 pl:∀ c∈cs x,c<128
 lt:(cs x).length<lim
theorem Ptx.okS {x:Str} (h:Ptx x):okS x:=by
 unfold C.okS PyData.canLay0 PyData.strOk;rw [<- mT,lA];intro c hc;have:=h.pl c hc;simp only [decide_eq_true_eq];omega
theorem Ptx.len {x:Str} (h:Ptx x):x.length<lim:=by rw [zx]; exact h.lt
def rowsOf (x:Str):List Str:=if x == "" then [] else Aj 10 x
noncomputable def goR (rs:List Str):Nat->Nat->List T->List T ⊕ Nat
 | 0,n,_=>.inr (n+1)
 | fu+1,n,acc=>if n<rs.length then (if has rs n=true then (match yg (ws (row rs n)) with
   | none=>.inr (n+1)
   | some d=>match goP rs 6000 (n+1) [] with
    | .inl (p,n')=>goR rs fu n' (acc++[.tup [d,p]])
    | .inr m=>.inr m)
   else .inr (n+1)) else .inl acc
theorem afp {x:S} {n:Nat} {A:List T} {z0 z:List SO} {s1:Sta} (h:x ⟨A.map (fun t=>some (t,false))++List.replicate (n - A.length) none,z0⟩=some (.next,s1)) (h2:s1.sto=z):v8 n x A z0=some (.non,z):=by
 unfold v8; rw [h]; dsimp only; rw [h2]
theorem init {x:Str} (h:Ptx x) {sto:List SO}:v7 cR cN [.obj sto.length,.str x] (sto++[.ins cR []])=some (.non,sto++[.ins cR (rdF (rowsOf x) 0)]):=by
 have eR:∀ fs:List (Str × T),(sto++[SO.ins cR fs])[sto.length]? = some (.ins cR fs):=fun fs=>by
  rw [jO (ic _),kD]; rfl
 have df:∀ a b:SO,(sto++[a]).set sto.length b=sto++[b]:=fun a b=>by
  rw [List.set_append_right _ _ (ic _),kD]; rfl
 have t:cu (mOp eqO (au 1) (ak (.str ""))) ⟨[some (.obj sto.length,false),some (.str x,false)],sto++[.ins cR []]⟩=some (x == "",⟨[some (.obj sto.length,false),some (.str x,false)],sto++[.ins cR []]⟩):=zt (zo rfl rfl (qx h.okS (by unfold C.okS; decide +kernel)))
 have I:mIf (cu (mOp eqO (au 1) (ak (.str "")))) (gq (fun l=>some (.lst l)) cj) (mOp Cq (au 1) (ak (.str "\n"))) ⟨[some (.obj sto.length,false),some (.str x,false)],sto++[.ins cR []]⟩=some (.lst ((rowsOf x).map .str),⟨[some (.obj sto.length,false),some (.str x,false)],sto++[.ins cR []]⟩):=by
  unfold rowsOf;cases e:(x == "") with
  | true=>rw [e] at t; exact ac0 t rfl
  | false=>rw [e] at t; exact a6p t (zo rfl rfl (Hh a5m h.len))
 have A:=a2t (cR:=cR) (k:=sto.length) (f := "rows") (o:=au 0) (fs:=[]) I (show au 0 ⟨[some (.obj sto.length,false),some (.str x,false)],sto++[.ins cR []]⟩=some (.obj sto.length,⟨[some (.obj sto.length,false),some (.str x,false)],sto++[.ins cR []]⟩) from rfl) (eR []) (by decide);dsimp only at A;rw [df] at A;have B:=a2t (cR:=cR) (k:=sto.length) (f := "number") (o:=au 0) (v:=ak (.int 0)) (s:=⟨[some (.obj sto.length,false),some (.str x,false)],sto++[.ins cR (a4w "rows" (.lst ((rowsOf x).map .str)) [])]⟩) (fs:=a4w "rows" (.lst ((rowsOf x).map .str)) []) rfl rfl (eR _) (show 1<100 by decide);dsimp only at B;rw [df] at B;have S:nj (Bh cR "rows" (au 0) (mIf (cu (mOp eqO (au 1) (ak (.str "")))) (gq (fun l=>some (.lst l)) cj) (mOp Cq (au 1) (ak (.str "\n"))))) (Bh cR "number" (au 0) (ak (.int 0))) ⟨[some (.obj sto.length,false),some (.str x,false)],sto++[.ins cR []]⟩=some (.next,⟨[some (.obj sto.length,false),some (.str x,false)],sto++[.ins cR (rdF (rowsOf x) 0)]⟩):=zq A B;exact afp S rfl
abbrev rS (k:Nat) (x:Str) (p:Nat) (d:C.Slot) (sto:List SO):Sta:=⟨[some (.str x,false),some (.obj k,false),some (.obj p,false),d],sto⟩
abbrev rpC (cR:Nat):M Bool:=cu (mOp ltT (Lf cR "number" (au 1)) (gq Ax (aj (Lf cR "rows" (au 1)) cj)))
abbrev rpB (cR cN:Nat):SX:=zu (Kw 3 (j9 (Cr cR cN) (aj (au 1) cj)))
 (Hv 2 (Bb (fun l=>some (.tup l)) (iz (Fg (au 3)) (iz (j9 (u6 cR cN) (aj (au 1) cj)) pq))))
theorem a1v {x:Str} {q:Nat} (hq:q≠k) (hp:Prs rs):∀ (fu n:Nat) (acc:List T) (sto:List SO) (d:C.Slot) (l:List T),n<=5000->5001<=n+fu->Ek cR k rs n sto->sto[q]? = some (.lst acc)->acc.length<=n->goR rs fu n acc=.inl l ->
  ∃ ae d',Pz k (fun i=>i≠q) sto ae/\ae[q]? = some (.lst l)/\qg fu (rpC cR) (rpB cR cN) (rS k x q d sto)=some (.inl .next,rS k x q d' ae)
 | 0,n,_,_,_,_,h1,h2,_,_,_,_=>absurd h2 (by omega)
 | fu+1,n,acc,sto,d,l,h1,h2,hk,hs,hN,hg=>by
  have c:rpC cR (rS k x q d sto)=some (decide (n<rs.length),rS k x q d sto):=by
   refine zt (zo (fld rfl hk a6o) (zm (zc (fld rfl hk a85) rfl) a71) ?_);show some (T.bl (decide ((n:Int)<(rs.length:Int))))=_;congr 2;rw [jA,iG,iG];omega
  rw [goR] at hg
  by_cases z:n<rs.length
  ·rw [iF z] at c;rw [hU z] at hg;have D:=a8k (cN:=cN) hp hk;have hu:Ek cR k rs (n+1) (up cR k rs (n+1) sto):=hk.up;have X:j9 (Cr cR cN) (aj (au 1) cj) (rS k x q d sto)=some (if has rs n=true then a8u (n+1) (yg (ws (row rs n))) else .inr (.int ((n+1:Nat):Int)),rS k x q d (up cR k rs (n+1) sto)):=xmc (s1:=rS k x q d sto) (zc rfl rfl) D;cases e:has rs n with
   | false =>
    rw [e,hV (by decide)] at hg;cases hg
   | true =>
    rw [e,hU rfl] at X hg
    have n1:n+1<=5000:=by
     unfold has at e;rw [ja,iG,iG] at e;omega
    cases e1:yg (ws (row rs n)) with
    | none =>
     rw [e1] at hg;cases hg
    | some dt =>
     rw [e1] at X hg;dsimp only at hg;have cP:Pz k (fun i=>i≠q) sto (up cR k rs (n+1) sto):=.up
     have w0:(up cR k rs (n+1) sto)[q]? = some (.lst acc):=by
      show (sto.set k _)[q]? = _;rw [iJ (Ne.symm hq)]; exact hs
     generalize up cR k rs (n+1) sto=w at X hu cP w0;have A:Kw 3 (j9 (Cr cR cN) (aj (au 1) cj)) (rS k x q d sto)=some (.inl .next,rS k x q (some (dt,false)) w):=xst X rfl;obtain ⟨ae,cB,r⟩:=Ws (cN:=cN) hp n1 hu;cases eg:goP rs 6000 (n+1) [] with
     | inr m=>rw [eg] at hg; cases hg
     | inl pn =>
      obtain ⟨p,n'⟩:=pn;rw [eg] at hg r;dsimp only at hg r;obtain ⟨r1,r2,r3,r4⟩:=r;have ql:q<w.length:=(iE.mp w0).1;have w1:ae[q]? = some (.lst acc):=by rw [cB.eq q ql hq trivial]; exact w0
      have P:j9 (u6 cR cN) (aj (au 1) cj) (rS k x q (some (dt,false)) w)=some (.inl p,rS k x q (some (dt,false)) ae):=xmc (s1:=rS k x q (some (dt,false)) w) (zc rfl rfl) r4
      have Q:Hv 2 (Bb (fun l=>some (.tup l)) (iz (Fg (au 3)) (iz (j9 (u6 cR cN) (aj (au 1) cj)) pq))) (rS k x q (some (dt,false)) w)=some (.inl .next,rS k x q (some (dt,false)) (ae.set q (.lst (acc++[.tup [dt,p]])))):=by
       unfold Hv;rw [show (rS k x q (some (dt,false)) w).env[2]? = some (some (.obj q,false)) from rfl];dsimp only;rw [w0];dsimp only;rw [xtu (xcs (xup (s1:=rS k x q (some (dt,false)) w) rfl) (xcs P rfl))];dsimp only;rw [w1];dsimp only;rw [hU (show acc.length<1000000 by omega)]
      have fB:q<ae.length:=(iE.mp w1).1
      have k2:Ek cR k rs n' (ae.set q (.lst (acc++[.tup [dt,p]]))):=by
       show (ae.set q _)[k]? = _;rw [iJ hq]; exact r1
      have dI:Pz k (fun i=>i≠q) w (ae.set q (.lst (acc++[.tup [dt,p]]))):=⟨by rw [jG]; exact cB.len,fun i hi cH hP=>by rw [iJ (Ne.symm hP)]; exact cB.eq i hi cH trivial⟩;obtain ⟨sto2,d2,dX,g1,g2⟩:=a1v (x:=x) hq hp fu n' (acc++[.tup [dt,p]]) _ (some (dt,false)) l r2 (by omega) k2 (iM fB) (by rw [il,iP]; omega) hg;exact ⟨sto2,d2,(cP.trans dI).trans dX,g1,wxt c (xq A Q) g2⟩
  ·rw [iC z] at c;rw [hV z] at hg;cases hg;exact ⟨sto,d,⟨ic _,fun _ _ _ _=>rfl⟩,hs,wxf c⟩
def a2r (x:Str):List T ⊕ Nat:=goR (rowsOf x) 6000 0 []
theorem aa8 {x:Str} (h:Ptx x) (hp:Prs (rowsOf x)) {l:List T} (hr:a2r x=.inl l) {sto:List SO}:∃ ae q,sto.length<=ae.length/\(∀ i,i<sto.length->ae[i]? = sto[i]?)/\ae[q]? = some (.lst l)/\o9 cR cN [.str x] sto=some (.obj q,ae):=by
 have M:Uj cR (v7 cR cN) (aj (au 0) cj) ⟨[some (.str x,false),none,none,none],sto⟩=some (.obj sto.length,⟨[some (.str x,false),none,none,none],sto++[.ins cR (rdF (rowsOf x) 0)]⟩):=by
  unfold Uj;rw [show aj (au 0) cj ⟨[some (.str x,false),none,none,none],sto⟩=some ([.str x],⟨[some (.str x,false),none,none,none],sto⟩) from rfl];dsimp only;rw [init h]
 have A:lx (nq 1 (Uj cR (v7 cR cN) (aj (au 0) cj))) ⟨[some (.str x,false),none,none,none],sto⟩=some (.inl .next,⟨[some (.str x,false),some (.obj sto.length,false),none,none],sto++[.ins cR (rdF (rowsOf x) 0)]⟩):=xl (ys M rfl);have ll:(sto++[SO.ins cR (rdF (rowsOf x) 0)]).length=sto.length+1:=by rw [il]; rfl
 have B:lx (nq 2 (Ci cj)) ⟨[some (.str x,false),some (.obj sto.length,false),none,none],sto++[.ins cR (rdF (rowsOf x) 0)]⟩=some (.inl .next,rS sto.length x (sto.length+1) none (sto++[.ins cR (rdF (rowsOf x) 0)]++[.lst []])):=by
  refine xl (ys (t:=.obj (sto++[SO.ins cR (rdF (rowsOf x) 0)]).length) rfl ?_);rw [ll];rfl
 have hk:Ek cR sto.length (rowsOf x) 0 (sto++[.ins cR (rdF (rowsOf x) 0)]++[.lst []]):=by
  show (sto++[SO.ins cR (rdF (rowsOf x) 0)]++[SO.lst []])[sto.length]? = _;rw [jJ (by omega),jO (ic _),kD]; rfl
 have hs:(sto++[SO.ins cR (rdF (rowsOf x) 0)]++[SO.lst []])[sto.length+1]? = some (.lst []):=by
  rw [jO (by omega),ll,kD]; rfl
 obtain ⟨ae,d',pz,g1,g2⟩:=a1v (cN:=cN) (x:=x) (q:=sto.length+1) (by omega) hp 6000 0 [] _ none l (iZ _) (by omega) hk hs (ic _) hr;have l2:(sto++[SO.ins cR (rdF (rowsOf x) 0)]++[SO.lst []]).length=sto.length+2:=by rw [il,ll]; rfl
 refine ⟨ae,sto.length+1,by have:=pz.len; omega,fun i hi=>by rw [pz.eq i (by omega) (by omega) (by omega),jJ (by omega),jJ hi],g1,?_⟩;have e:Dr cR cN [.str x] sto=some (.inl (.obj (sto.length+1)),ae):=Ed (xq A (xq B (xq g2 (xl (zr rfl))))) rfl;unfold o9 norm;rw [e]
end K
end
section
namespace K
open C PySem
inductive Ms where
 | idle (acc:List T)
 | on (acc:List T) (d:T) (st:List Fr)
noncomputable def stepM:Ms->Str->Option Ms
 | .idle acc,r=>(yg (ws r)).map fun d=>.on acc d []
 | .on acc d st,r=>match vg (ws r) with
  | none=>none
  | some h=>if st.length<90 then (match close (h,[]) st with
    | .inl p=>some (.idle (acc++[.tup [d,p]]))
    | .inr aa=>some (.on acc d aa))
   else none
noncomputable def runM:Ms->List Str->Ms ⊕ Nat
 | s,[]=>.inl s
 | s,r::l=>match stepM s r with
  | none=>.inr 0
  | some s'=>match runM s' l with
   | .inl z=>.inl z
   | .inr i=>.inr (i+1)
theorem Vl:∀ (a b:List Str) (s:Ms),runM s (a++b)=(match runM s a with
  | .inl s'=>(match runM s' b with
   | .inl z=>.inl z
   | .inr i=>.inr (a.length+i))
  | .inr i=>.inr i)
 | [],b,s=>by
  simp only [List.nil_append,runM];cases runM s b with
  | inl z=>rfl
  | inr i=>simp
 | r::a,b,s=>by
  rw [List.cons_append,runM,runM];cases stepM s r with
  | none=>rfl
  | some s' =>
   dsimp only;rw [Vl a b s'];cases runM s' a with
   | inl z =>
    dsimp only;cases runM z b with
    | inl y=>rfl
    | inr i=>simp only [List.length_cons]; congr 1; omega
   | inr i=>rfl
theorem a7c {rs l:List Str} {r:Str} {n:Nat} (h:rs.drop n=r::l):row rs n=r/\rs.drop (n+1)=l/\n<rs.length:=by
 have hn:n<rs.length:=by
  rcases Nat.lt_or_ge n rs.length with z | z
  ·exact z
  ·rw [List.drop_eq_nil_of_le z] at h; cases h
 rw [kN hn] at h;injection h with h1 h2;exact ⟨by unfold row; rw [jS,jC hn]; exact h1,h2,hn⟩
theorem has_lt {rs:List Str} {n:Nat} (h5:rs.length<=5000):has rs n=decide (n<rs.length):=by
 unfold has;rw [jA,ja,iG,iG];omega
theorem a2f {rs:List Str} (h5:rs.length<=5000) {acc:List T} {d:T}:∀ (l:List Str) (n fu:Nat) (st:List Fr),rs.drop n=l->n<=rs.length->l.length<fu ->
  (match goP rs fu n st with
   | .inl (p,n')=>n<n'/\n'<=rs.length/\runM (.on acc d st) l=(match runM (.idle (acc++[.tup [d,p]])) (rs.drop n') with
     | .inl z=>.inl z
     | .inr i=>.inr (n' - n+i))
   | .inr m=>(∃ s,runM (.on acc d st) l=.inl s/\(∀ a,s≠.idle a)/\m=rs.length+1)\/(∃ i,runM (.on acc d st) l=.inr i/\m=n+i+1))
 | [],n,fu,st,h,hn,hf=>by
  cases fu with
  | zero=>cases hf
  | succ fu =>
   have hl:¬ n<rs.length:=fun z=>by rw [kN z] at h; cases h
   rw [goP,has_lt h5,iC hl,hV (by decide)];exact .inl ⟨_,rfl,fun a z=>(nomatch z),by omega⟩
 | r::l,n,fu,st,h,hn,hf=>by
  cases fu with
  | zero=>cases hf
  | succ fu =>
   obtain ⟨h1,h2,h3⟩:=a7c h;rw [goP,has_lt h5,iF h3,hU rfl,h1,runM,stepM];cases vg (ws r) with
   | none=>exact .inr ⟨0,rfl,rfl⟩
   | some x =>
    dsimp only
    by_cases z:st.length<90
    ·rw [hU z,hU z];cases close (x,[]) st with
     | inl p =>
      dsimp only;refine ⟨jZ n,h3,?_⟩;rw [h2];cases runM (.idle (acc++[.tup [d,p]])) l with
      | inl z=>rfl
      | inr i=>dsimp only; congr 1; omega
     | inr aa =>
      dsimp only;have ih:=a2f h5 (acc:=acc) (d:=d) l (n+1) fu aa h2 h3 (by rw [iA] at hf; omega);generalize goP rs fu (n+1) aa=g at ih
      match g,ih with
      | .inl (p,n'),⟨a1,a2,a3⟩ =>
       refine ⟨by omega,a2,?_⟩;rw [a3];cases runM (.idle (acc++[.tup [d,p]])) (rs.drop n') with
       | inl z=>rfl
       | inr i=>dsimp only; congr 1; omega
      | .inr m,.inl ⟨s,a1,a2,a3⟩=>exact .inl ⟨s,by rw [a1],a2,a3⟩
      | .inr m,.inr ⟨i,a1,a2⟩=>exact .inr ⟨i+1,by rw [a1],by omega⟩
    ·rw [hV z,hV z];exact .inr ⟨0,rfl,rfl⟩
theorem Zy {rs:List Str} (h5:rs.length<=5000):∀ (fu n:Nat) (acc:List T),n<=rs.length->(rs.drop n).length<fu ->
  goR rs fu n acc=(match runM (.idle acc) (rs.drop n) with
   | .inl (.idle a)=>.inl a
   | .inl (.on _ _ _)=>.inr (rs.length+1)
   | .inr i=>.inr (n+i+1))
 | 0,n,acc,_,hf=>by cases hf
 | fu+1,n,acc,hn,hf=>by
  rw [goR];cases h:rs.drop n with
  | nil =>
   have hl:¬ n<rs.length:=fun z=>by rw [kN z] at h; cases h
   rw [hV hl];rfl
  | cons r l =>
   obtain ⟨h1,h2,h3⟩:=a7c h;rw [hU h3,has_lt h5,iF h3,hU rfl,h1,runM,stepM];cases yg (ws r) with
   | none=>rfl
   | some d =>
    dsimp only [Option.map_some]
    have q:=a2f h5 (acc:=acc) (d:=d) l (n+1) 6000 [] h2 h3 (by
     have:l.length+1=rs.length - n:=by rw [<- jV,h,iA]
     omega)
    generalize goP rs 6000 (n+1) []=g at q
    match g,q with
    | .inl (p,n'),⟨a1,a2,a3⟩ =>
     dsimp only;rw [Zy h5 fu n' (acc++[T.tup [d,p]]) a2 (by rw [jV] at hf ⊢; omega),a3];cases runM (.idle (acc++[.tup [d,p]])) (rs.drop n') with
     | inl z=>cases z <;> rfl
     | inr i=>dsimp only; congr 1; omega
    | .inr m,.inl ⟨s,a1,a2,a3⟩ =>
     dsimp only;rw [a1];cases s with
     | idle a=>exact absurd rfl (a2 a)
     | on a b c=>rw [a3]
    | .inr m,.inr ⟨i,a1,a2⟩ =>
     dsimp only;rw [a1,a2];dsimp only;congr 1;omega
theorem Rb {x:Str} (h5:(rowsOf x).length<=5000):a2r x=(match runM (.idle []) (rowsOf x) with
   | .inl (.idle a)=>.inl a
   | .inl (.on _ _ _)=>.inr ((rowsOf x).length+1)
   | .inr i=>.inr (i+1)):=by
 unfold a2r;rw [Zy h5 6000 0 [] (iZ _) (by rw [kP]; omega),kP];cases runM (.idle []) (rowsOf x) with
 | inl z=>cases z <;> rfl
 | inr i=>dsimp only; congr 1; omega
end K
end
section
namespace K
open C PySem PySem.W PySem.NumText
def num (i:Int):Str:=Str.ofString (toString i)
theorem Eh {m:Nat} (h:10<=m):Nat.toDigits 10 m=Nat.toDigits 10 (m / 10)++[Nat.digitChar (m%10)]:=by
 have hm:m%10<10:=Nat.mod_lt m (by decide);have t:Nat.toDigits 10 (m / 10)++Nat.toDigits 10 (m%10)=Nat.toDigits 10 (10 * (m / 10)+m%10):=Nat.toDigits_append_toDigits (by decide) (by omega) hm;rw [Nat.div_add_mod,kQ hm] at t;exact t.symm
theorem a2w:∀ (k m:Nat),m<10 ^ (k+1)->(Nat.toDigits 10 m).length<=k+1
 | 0,m,h=>by rw [kQ (by simpa using h)]; exact ic _
 | k+1,m,h=>by
  by_cases z:m<10
  ·rw [kQ z]; simp
  ·rw [Eh (by omega),il,iP];have:=a2w k (m / 10) (by rw [Nat.pow_succ] at h; omega);omega
theorem a3y (m:Nat):0<m->∃ c r,Nat.toDigits 10 m=c::r/\c.toNat≠48:=by
 induction m using Nat.strongRecOn with -- here
 | _ m ih =>
  intro h
  by_cases z:m<10
  ·refine ⟨_,_,kQ z,?_⟩
   have:∀ d:Nat,0<d->d<10->(Nat.digitChar d).toNat≠48:=by
    intro d h1 h2;have:d=1\/d=2\/d=3\/d=4\/d=5\/d=6\/d=7\/d=8\/d=9:=by omega
    rcases this with rfl | rfl | rfl | rfl | rfl | rfl | rfl | rfl | rfl <;> decide
   exact this m h z
  ·obtain ⟨c,r,e,hc⟩:=ih (m / 10) (by omega) (by omega);exact ⟨c,_,by rw [Eh (by omega),e]; rfl,hc⟩
theorem Lx (m:Nat):cs (num (m:Int))=(Nat.toDigits 10 m).map Char.toNat:=KIN.signs_num m
theorem N8 (m:Nat):∀ c∈cs (num (m:Int)),Xm c=true:=by
 intro c hc;rw [Lx] at hc;obtain ⟨ch,aV,e⟩:=iN.mp hc;have r:=PyProof.Rows.digit_range (Nat.isDigit_of_mem_toDigits (by decide) (by decide) aV);subst e;simp only [Xm,Bool.and_eq_true,decide_eq_true_eq];exact r
theorem ac1 (m:Nat):cs (num (m:Int))≠[]:=by
 rw [Lx];intro e;have:=lB.mp e
 by_cases z:m<10
 ·rw [kQ z] at this; cases this
 ·rw [Eh (by omega)] at this;simp at this
theorem a74 (m:Nat):val (num (m:Int))=m:=by
 unfold val;rw [Lx];exact KIN.val_back m
theorem af7 (m:Nat):Ym (num (m:Int))=true:=by
 unfold Ym
 have h1:(cs (num (m:Int))).isEmpty=false:=by
  cases h:cs (num (m:Int)) with
  | nil=>exact absurd h (ac1 m)
  | cons a l=>rfl
 have h2:(cs (num (m:Int))).all Xm=true:=lA.mpr (N8 m);rw [h1,h2,Bool.not_false,lY,lY,lR]
 by_cases z:m=0
 ·subst z
  left
  decide +kernel
 ·right
  obtain ⟨c,r,e,hc⟩:=a3y m (by omega);rw [Lx,e];exact iF hc
theorem Sh {m k:Nat} (h:m<10 ^ (k+1)):(cs (num (m:Int))).length<=k+1:=by
 rw [Lx,hZ];exact a2w k m h
theorem Mq {m:Nat} (h:0<m):cs (num (-(m:Int)))=45::cs (num (m:Int)):=by
 obtain ⟨n,rfl⟩:∃ n,m=n+1:=⟨m - 1,by omega⟩;have e:(-(((n+1:Nat)):Int))=Int.negSucc n:=rfl;rw [e];show (Str.ofString ("-" ++ toString (n+1))).cps.toList=45::(Str.ofString (toString (n+1))).cps.toList;rw [Str.ofString_eq_toList,Str.ofString_eq_toList];show (("-" ++ toString (n+1)).toList.map Char.toNat)=45::((toString (n+1)).toList.map Char.toNat);rw [String.toList_append,jT];rfl
theorem a0d {c:Nat} (h:Xm c=true):48<=c/\c<=57:=by
 unfold Xm at h;rw [ja,iG,iG] at h;exact h
theorem a6f (m:Nat):(cs (num (m:Int))).head?≠some 45:=by
 intro h;have hm:45∈cs (num (m:Int)):=List.mem_of_mem_head? h;have:=a0d (N8 m 45 hm);omega
def okN (m:Nat):Prop:=(cs (num (m:Int))).length<=400
theorem Zj {m k:Nat} (h:m<10 ^ (k+1)) (hk:k<400):okN m:=ip (Sh h) (by omega)
theorem xr {m:Nat} {l:Int} (h:okN m) (hl:l<=(m:Int)):pNum (num (m:Int)) l=some (m:Int):=by
 unfold pNum;rw [af7,a74,iF hl,iF (show (cs (num (m:Int))).length<=400 from h)];rfl
theorem a6k {m:Nat} (h:okN m):Rt (num (m:Int))=some (m:Int):=by
 unfold Rt;rw [hV (a6f m),xr h (by omega)]
theorem a5r {m:Nat} (h0:0<m) (h:okN m):Rt (num (-(m:Int)))=some (-(m:Int)):=by
 have e:=Mq h0;unfold Rt;rw [e];rw [hU (show (45::cs (num (m:Int))).head? = some 45 from rfl)];have e2:st (List.drop 1 (45::cs (num (m:Int))))=num (m:Int):=Ng _;rw [e2,xr h (by omega)];rfl
theorem V2 {i:Int} (h:okN i.natAbs):Rt (num i)=some i:=by
 rcases lb i 0 with z | z
 ·obtain ⟨m,rfl⟩:∃ m:Nat,i = -(m:Int):=⟨i.natAbs,by omega⟩;rw [Int.natAbs_neg,iW] at h;exact a5r (by omega) h
 ·obtain ⟨m,rfl⟩:∃ m:Nat,i=(m:Int):=⟨i.natAbs,by omega⟩;rw [iW] at h;exact a6k h
theorem K5 {i:Int}:∀ c∈cs (num i),c=45\/(48<=c/\c<=57):=by
 intro c hc;rcases lb i 0 with z | z
 ·obtain ⟨m,hm,rfl⟩:∃ m:Nat,0<m/\i = -(m:Int):=⟨i.natAbs,by omega,by omega⟩;rw [Mq hm] at hc;rcases ir.mp hc with rfl | hc
  ·exact .inl rfl
  ·exact .inr (a0d (N8 m c hc))
 ·obtain ⟨m,rfl⟩:∃ m:Nat,i=(m:Int):=⟨i.natAbs,by omega⟩;exact .inr (a0d (N8 m c hc))
end K
end
section
namespace K
open C PySem
noncomputable def fd (acc:List T) (d p:T):List Fr->Ms
 | []=>.idle (acc++[T.tup [d,p]])
 | g::r=>match close (g.1,g.2++[p]) r with
  | .inl q=>.idle (acc++[T.tup [d,q]])
  | .inr st=>.on acc d st
theorem Mx {acc:List T} {d:T} {f:Fr} {st:List Fr} (h:(f.2.length:Int)=many f.1):(match close f st with
  | .inl q=>Ms.idle (acc++[T.tup [d,q]])
  | .inr st=>.on acc d st)=fd acc d (vf f.1 f.2) st:=by
 cases st with
 | nil=>rw [Ou h]; rfl
 | cons g r=>rw [Qo h]; rfl
def Pap (e:Nat) (l:List Str) (p:T):Prop:=∀ acc d st,st.length+e<=90->runM (.on acc d st) l=.inl (fd acc d p st)
theorem Pap.mono {e e':Nat} {l:List Str} {p:T} (h:Pap e l p) (he:e<=e'):Pap e' l p:=fun acc d st q=>h acc d st (by omega)
theorem Jh {a b:List Str} {s s':Ms} (h:runM s a=.inl s'):runM s (a++b)=(match runM s' b with
   | .inl z=>.inl z
   | .inr i=>.inr (a.length+i)):=by
 rw [Vl,h]
 try (dsimp only; cases runM s' b <;> rfl)
theorem Qp {r:Str} {x:Hd} (hx:vg (ws r)=some x) {acc:List T} {d:T} {st:List Fr} (hs:st.length<90):stepM (.on acc d st) r=some (match close (x,[]) st with
  | .inl q=>Ms.idle (acc++[T.tup [d,q]])
  | .inr st=>.on acc d st):=by
 rw [stepM,hx];dsimp only;rw [hU hs];cases close (x,[]) st <;> rfl
theorem Jc {s s':Ms} {r:Str} (h:stepM s r=some s'):runM s [r]=.inl s':=by
 rw [runM,h]; rfl
theorem W4 {r:Str} {x:Hd} (hx:vg (ws r)=some x) (hm:many x=0):Pap 1 [r] (vf x []):=by
 intro acc d st hs;rw [Jc (Qp hx (by omega))];rw [Mx (f:=(x,[])) (by rw [hm]; rfl)]
theorem fill {e:Nat} {x:Hd} {acc:List T} {d:T} {st:List Fr} (hs:st.length+1+e<=90):∀ (q:List Str × T) (cs:List (List Str × T)) (c:List T),(∀ y∈q::cs,Pap e y.1 y.2)->((c.length+(q::cs).length:Nat):Int)=many x ->
  runM (.on acc d ((x,c)::st)) ((q::cs).flatMap (·.1))=.inl (fd acc d (vf x (c++(q::cs).map (·.2))) st)
 | q,[],c,h,hm=>by
  have h1:=h q ie acc d ((x,c)::st) (by rw [iA]; omega);rw [iR,jX,iU,h1];congr 1
  show (match close (x,c++[q.2]) st with
   | .inl q=>Ms.idle (acc++[T.tup [d,q]])
   | .inr st=>.on acc d st)=_
  rw [Mx (f:=(x,c++[q.2])) (by rw [<- hm]; simp)];rfl
 | q,y::cs,c,h,hm=>by
  have h1:=h q ie acc d ((x,c)::st) (by rw [iA]; omega)
  have no:¬ (((c++[q.2]).length:Nat):Int)=many x:=by
   rw [<- hm];simp only [List.length_append,List.length_cons,List.length_nil];omega
  have f1:fd acc d q.2 ((x,c)::st)=.on acc d ((x,c++[q.2])::st):=by
   show (match close (x,c++[q.2]) st with
    | .inl q=>Ms.idle (acc++[T.tup [d,q]])
    | .inr st=>.on acc d st)=_
   rw [O4 (f:=(x,c++[q.2])) no]
  have ih:=fill (acc:=acc) (d:=d) hs y cs (c++[q.2]) (fun z hz=>h z (ij _ hz)) (by
   rw [<- hm];simp only [List.length_append,List.length_cons,List.length_nil];omega)
  rw [iR,Jh h1,f1,ih];dsimp only;rw [jR];rfl
theorem V1 {e:Nat} {r:Str} {x:Hd} (hx:vg (ws r)=some x) {cs:List (List Str × T)} (h:∀ y∈cs,Pap e y.1 y.2) (hm:(cs.length:Int)=many x):Pap (e+1) (r::cs.flatMap (·.1)) (vf x (cs.map (·.2))):=by
 intro acc d st hs;have s1:=Qp hx (acc:=acc) (d:=d) (st:=st) (by omega);show runM _ ([r]++cs.flatMap (·.1))=_;cases cs with
 | nil =>
  rw [Mx (f:=(x,[])) hm] at s1;rw [jX,iU,Jc s1];rfl
 | cons q cs =>
  have no:¬ ((([]:List T).length:Nat):Int)=many x:=by
   rw [<- hm,iA,kI]; omega
  rw [O4 (f:=(x,[])) no] at s1;rw [Jh (Jc s1),fill (by omega) q cs [] h (by rw [<- hm]; simp)];rfl
theorem a6r {r:Str} {d p:T} {l:List Str} {acc:List T} {e:Nat} (hd:yg (ws r)=some d) (hp:Pap e l p) (he:e<=90):runM (.idle acc) (r::l)=.inl (.idle (acc++[T.tup [d,p]])):=by
 have s1:stepM (.idle acc) r=some (.on acc d []):=by rw [stepM,hd]; rfl
 show runM _ ([r]++l)=_;rw [Jh (Jc s1),hp acc d [] (by simpa using he)];rfl
theorem Dj {a b:Str} (h:cs a=cs b):a=b:=by rw [<- Ng a,<- Ng b,h]
theorem m7 (a b:Str):cs (a++b)=cs a++cs b:=Ry a b
theorem af3:(" " : Str)=⟨#[32]⟩:=Dj T4
theorem aeh:("\n" : Str)=⟨#[10]⟩:=Dj a5m
theorem aer:("," : Str)=⟨#[44]⟩:=Dj aa7
theorem K4 {l:List Str} (h:l≠[]) (hs:∀ w∈l,32∉cs w):ws (Str.join " " l)=l:=by
 unfold ws Aj;rw [af3];exact Hg h hs
theorem a3g {l:List Str} (h:l≠[]) (hs:∀ w∈l,10∉cs w):Aj 10 (Str.join "\n" l)=l:=by
 unfold Aj;rw [aeh];exact Hg h hs
theorem a92 {l:List Str} (h:l≠[]) (hs:∀ w∈l,44∉cs w):Aj 44 (Str.join "," l)=l:=by
 unfold Aj;rw [aer];exact Hg h hs
theorem a77 {a b:Str} (ha:42∉cs a) (hb:42∉cs b):Aj 42 (a ++ "*" ++ b)=[a,b]:=by
 unfold Aj;have sa:Ru (cs a)=a:=Ng a;have sb:Ru (cs b)=b:=Ng b;rw [m7,m7,O2,jR,List.singleton_append,U7 ha,Mu hb,iL,iL,jK,sa,sb]
theorem Ei {i:Int} {c:Nat} (hc:c=32\/c=42\/c=44\/c=10):c∉cs (num i):=fun h=>by
 rcases K5 c h with e | ⟨e1,e2⟩ <;> omega
theorem mem_join {sep:Str} {c:Nat}:∀ {l:List Str},c∈cs (Str.join sep l)->c∈cs sep\/∃ w∈l,c∈cs w
 | [],h=>by rw [Str.join] at h; cases h
 | [x],h=>by rw [Str.join] at h; exact .inr ⟨x,ie,h⟩
 | x::y::r,h=>by
  rw [Str.join] at h
  ·rw [m7,m7,jn,jn] at h;rcases h with (h | h) | h
   ·exact .inr ⟨x,ie,h⟩
   ·exact .inl h
   ·rcases mem_join h with h | ⟨w,hw,h⟩
    ·exact .inl h
    ·exact .inr ⟨w,ij _ hw,h⟩
  all_goals simp
def plS (ps:List Nat):Str:=Str.join "," (ps.map fun p:Nat=>num (p:Int))
def wdS (ps:List Nat) (t:Int):Str:=plS ps ++ "*" ++ num t
theorem acj {ps:List Nat} {c:Nat} (hc:c=32\/c=42\/c=10):c∉cs (plS ps):=fun h=>by
 rcases mem_join h with h | ⟨w,hw,h⟩
 ·rw [aa7,ik] at h; omega
 ·obtain ⟨p,_,rfl⟩:=iN.mp hw;exact Ei (by omega) h
theorem aeu {ps:List Nat} {t:Int} {c:Nat} (hc:c=32\/c=10):c∉cs (wdS ps t):=fun h=>by
 unfold wdS at h;rw [m7,m7,O2,jn,jn,ik] at h;rcases h with (h | h) | h
 ·exact acj (by omega) h
 ·omega
 ·exact Ei (by omega) h
theorem J9 {α:Type} {p:Str->Option T} {f:α->Str} {g:α->T}:∀ {l:List α},(∀ x∈l,p (f x)=some (g x))->Iu p (l.map f)=some (l.map g)
 | [],_=>rfl
 | x::l,h=>by
  rw [iL,Iu,h x ie];dsimp only;rw [J9 fun y hy=>h y (ij _ hy)];rfl
theorem ac2 {p t:Nat} (hp:okN p) (ht:okN t) (h1:1<=t):wk (wdS [p] (t:Int))=some (.tup [.int (p:Int),.int (t:Int)]):=by
 have e0:wdS [p] (t:Int)=num (p:Int) ++ "*" ++ num (t:Int):=by unfold wdS plS; rw [iL,jK,Str.join]
 have e:Aj 42 (wdS [p] (t:Int))=[num (p:Int),num (t:Int)]:=by rw [e0]; exact a77 (Ei (by omega)) (Ei (by omega))
 unfold wk;rw [e];dsimp only;rw [xr hp (by omega),xr ht (by omega)]
theorem aai {ps:List Nat} {t:Int} (hp:∀ p∈ps,okN p) (c8:ps≠[]) (h2:ps.length<=2) (ht:okN t.natAbs) (h0:t≠0):qz (wdS ps t)=some (.tup (ps.map (fun p:Nat=>T.int (p:Int))++[.int t])):=by
 have e:Aj 42 (wdS ps t)=[plS ps,num t]:=a77 (acj (by omega)) (Ei (by omega))
 have e2:Aj 44 (plS ps)=ps.map fun p:Nat=>num (p:Int):=a92 (fun z=>c8 (lB.mp z)) (fun w hw=>by
  obtain ⟨p,_,rfl⟩:=iN.mp hw;exact Ei (by omega))
 have e3:Iu (fun x=>ac5 (pNum x 0)) (ps.map fun p:Nat=>num (p:Int))=some (ps.map fun p:Nat=>T.int (p:Int)):=J9 fun p h=>by
  rw [xr (hp p h) (by omega)]; rfl
 unfold qz;rw [e];dsimp only;rw [V2 ht,e2];dsimp only;rw [e3,hZ,iF h2,iF h0];rfl
theorem aad {i m:Nat} (hi:okN i) (hm:okN m):vg ["or",num (i:Int),num (m:Int)]=some (.orr i m):=by
 have e0:wd ["or",num (i:Int),num (m:Int)] 0 = "or" := rfl;have e1:wd ["or",num (i:Int),num (m:Int)] 1=num (i:Int):=rfl;have e2:wd ["or",num (i:Int),num (m:Int)] 2=num (m:Int):=rfl;unfold vg;rw [e0,e1,e2,jb,hU rfl,hU (show ([("or" : Str),num (i:Int),num (m:Int)]).length=3 from rfl),xr hi (by omega),xr hm (by omega)]
theorem a3t {b:Str} {v:Int} (hb:Xa b=true) (hv:okN v.natAbs):vg ["cut",b,num v]=some (.cut b v):=by
 have e0:wd ["cut",b,num v] 0 = "cut" := rfl;have e1:wd ["cut",b,num v] 1=b:=rfl;have e2:wd ["cut",b,num v] 2=num v:=rfl;have n1:(("cut" : Str) == "or")=false:=by decide +kernel
 unfold vg;rw [e0,e1,e2,n1,hV (by decide),jb,hU rfl,hU (show ([("cut" : Str),b,num v]).length=3 from rfl),hb,hU rfl,V2 hv];rfl
theorem a6a {α:Type} {l:List α} {f:α->Str} {g:α->T} (h:∀ x∈l,wk (f x)=some (g x)):vg (("sum" : Str)::l.map f)=some (.sum (l.map g)):=by
 have e0:wd (("sum" : Str)::l.map f) 0 = "sum" := rfl;have n1:(("sum" : Str) == "or")=false:=by decide +kernel
 have n2:(("sum" : Str) == "cut")=false:=by decide +kernel
 unfold vg;rw [e0,n1,n2,hV (by decide),hV (by decide),jb,hU rfl];show (Iu wk (l.map f)).map _=_;rw [J9 h];rfl
theorem a0m {α:Type} {d:Nat} (hd:okN d) (h2:2<=d) {l:List α} {f:α->Str} {g:α->T} (h:∀ x∈l,qz (f x)=some (g x)):vg (("rest" : Str)::num (d:Int)::l.map f)=some (.rest d (l.map g)):=by
 have e0:wd (("rest" : Str)::num (d:Int)::l.map f) 0 = "rest" := rfl;have e1:wd (("rest" : Str)::num (d:Int)::l.map f) 1=num (d:Int):=rfl;have n1:(("rest" : Str) == "or")=false:=by decide +kernel
 have n2:(("rest" : Str) == "cut")=false:=by decide +kernel
 have n3:(("rest" : Str) == "sum")=false:=by decide +kernel
 have n4:decide (2<=(("rest" : Str)::num (d:Int)::l.map f).length)=true:=iF (by rw [iA,iA]; omega);unfold vg;rw [e0,e1,n1,n2,n3,n4,hV (by decide),hV (by decide),hV (by decide),jb,hU (by rfl),xr hd (by omega)];show (Iu qz (l.map f)).map _=_;rw [J9 h];rfl
theorem Wv {w:Str} (h:nameB w=true):yg ["start",w]=some (.tup [.str "start",.str w]):=by
 have e0:wd ["start",w] 0 = "start" := rfl;have e1:wd ["start",w] 1=w:=rfl;unfold yg;rw [e0,e1,jb,hU rfl,hU (show ([("start" : Str),w]).length=2 from rfl),h,hU rfl]
theorem a5u {i:Nat} (h:okN i):yg ["own",num (i:Int)]=some (.tup [.str "own",.int (i:Int)]):=by
 have e0:wd ["own",num (i:Int)] 0 = "own" := rfl;have e1:wd ["own",num (i:Int)] 1=num (i:Int):=rfl;have n1:(("own" : Str) == "start")=false:=by decide +kernel
 unfold yg;rw [e0,e1,n1,hV (by decide),jb,hU rfl,hU (show ([("own" : Str),num (i:Int)]).length=2 from rfl),xr h (by omega)];rfl
theorem Wq {i j:Nat} {w:Str} (hw:nameB w=true) (hi:okN i) (hj:okN j):yg ["other",num (i:Int),w,num (j:Int)]=some (.tup [.str "other",.int (i:Int),.str w,.int (j:Int)]):=by
 have e0:wd ["other",num (i:Int),w,num (j:Int)] 0 = "other" := rfl;have e1:wd ["other",num (i:Int),w,num (j:Int)] 1=num (i:Int):=rfl;have e2:wd ["other",num (i:Int),w,num (j:Int)] 2=w:=rfl;have e3:wd ["other",num (i:Int),w,num (j:Int)] 3=num (j:Int):=rfl;have n1:(("other" : Str) == "start")=false:=by decide +kernel
 have n2:(("other" : Str) == "own")=false:=by decide +kernel
 unfold yg;rw [e0,e1,e2,e3,n1,n2,hV (by decide),hV (by decide),jb,hU (by rfl),xr hi (by omega)];dsimp only;rw [hw,hU rfl,xr hj (by omega)];rfl
structure Ln (r:Str) (n:Nat):Prop where
 pl:∀ c∈cs r,32<=c/\c<128
 le:(cs r).length<=n
theorem Ln.app {a b:Str} {m n:Nat} (ha:Ln a m) (hb:Ln b n):Ln (a++b) (m+n):=⟨fun c hc=>by
  rw [m7,jn] at hc;rcases hc with h | h
  ·exact ha.pl c h
  ·exact hb.pl c h,by rw [m7,il]; exact Nat.add_le_add ha.le hb.le⟩
theorem Ln.mono {a:Str} {m n:Nat} (h:Ln a m) (l:m<=n):Ln a n:=⟨h.pl,ip h.le l⟩
theorem Ln.pn {a:Str} {m:Nat} (h:Ln a m) (l:m<1000):Pn a:=⟨fun c hc=>(h.pl c hc).2,kd h.le l⟩
theorem Ln.no {a:Str} {m:Nat} (h:Ln a m):10∉cs a:=fun z=>by have:=(h.pl 10 z).1; omega
noncomputable def lnB (l:List Nat) (n:Nat):Bool:=l.all (fun c=>decide (32<=c)&&decide (c<128))&&decide (l.length<=n)
theorem aem {a:Str} {n:Nat} (h:lnB (cs a) n=true):Ln a n:=by
 unfold lnB at h;rw [ja,lA,iG] at h;refine ⟨fun c hc=>?_,h.2⟩;have:=h.1 c hc;rw [ja,iG,iG] at this;exact this
theorem a82 {i:Int} {k:Nat} (h:i.natAbs<10 ^ (k+1)):Ln (num i) (k+2):=⟨fun c hc=>by
  rcases K5 c hc with rfl | ⟨h1,h2⟩
  ·decide
  ·omega,by
  rcases lb i 0 with z | z
  ·obtain ⟨m,hm,rfl⟩:∃ m:Nat,0<m/\i = -(m:Int):=⟨i.natAbs,by omega,by omega⟩;rw [Mq hm,iA];rw [Int.natAbs_neg,iW] at h;have:=Sh h;omega
  ·obtain ⟨m,rfl⟩:∃ m:Nat,i=(m:Int):=⟨i.natAbs,by omega⟩;rw [iW] at h;have:=Sh h;omega⟩
theorem Hs {sep:Str} {s n:Nat} (hs:Ln sep s):∀ {l:List Str},(∀ w∈l,Ln w n)->Ln (Str.join sep l) (l.length * (n+s))
 | [],_=>by rw [Str.join]; exact ⟨fun c hc=>(nomatch hc),iZ _⟩
 | [x],h=>by rw [Str.join]; exact (h x ie).mono (by simp)
 | x::y::r,h=>by
  have ih:=Hs hs (l:=y::r) fun w hw=>h w (ij _ hw);rw [Str.join]
  ·refine (((h x ie).app hs).app ih).mono ?_;simp only [List.length_cons,Nat.add_mul,Nat.one_mul];omega
  all_goals simp
abbrev cl2 (a b:Int):SO:=.lst [.int a,.int b]
def RL (j:Nat) (sto:List SO):Prop:=∃ a b:Int,sto[j]? = some (cl2 a b)
theorem a3s {o kk:M T} {s s1 s2:Sta} {j:Nat} {xs:List T} {i:Int} {q:Nat} {t:T} (h:o s=some (.obj j,s1)) (h2:kk s1=some (.int i,s2)) (hs:s2.sto[j]? = some (.lst xs)) (hi:ixI xs.length i=some q) (ht:xs[q]? = some t):ux o kk s=some (t,s2):=by
 unfold ux;rw [h]; dsimp only;rw [h2]; dsimp only;rw [hs]; dsimp only;rw [hi]; dsimp only [Option.bind_some];rw [ht]
theorem a8a {o kk v:M T} {s s0 s1 s2:Sta} {j:Nat} {xs:List T} {i:Int} {q:Nat} {t:T} (hv:v s=some (t,s0)) (h:o s0=some (.obj j,s1)) (h2:kk s1=some (.int i,s2)) (hs:s2.sto[j]? = some (.lst xs)) (hi:ixI xs.length i=some q):Jt o kk v s=some (.next,⟨s2.env,s2.sto.set j (.lst (xs.set q t))⟩):=by
 unfold Jt;rw [hv]; dsimp only;rw [h]; dsimp only;rw [h2]; dsimp only;rw [hs]; dsimp only;rw [hi]
theorem fdv {i j:Int} (h:0<j) (h2:j<1073741824):Ql (.int i) (.int j)=some (.int (i / j)):=hU ⟨h,.inl h2⟩
def okM (m:Nat):Prop:=m<1073741824\/m<fdl
theorem fdm {i:Int} {m:Nat} (h:0<m) (h2:okM m):Ql (.int i) (.int (m:Int))=some (.int (i / (m:Int))):=hU ⟨by omega,by
 rcases h2 with h2 | h2
 ·exact .inl (by omega)
 ·exact .inr (by rw [iW]; exact h2)⟩
structure Kp (j:Nat) (sto ae:List SO):Prop where
 rl:RL j ae
 len:ae.length=sto.length
 eq:∀ i,i≠j->ae[i]? = sto[i]?
theorem Kp.refl {j:Nat} {sto:List SO} (h:RL j sto):Kp j sto sto:=⟨h,rfl,fun _ _=>rfl⟩
theorem Kp.trans {j:Nat} {a b c:List SO} (h:Kp j a b) (h2:Kp j b c):Kp j a c:=⟨h2.rl,by rw [h2.len,h.len],fun i hi=>by rw [h2.eq i hi,h.eq i hi]⟩
theorem a7l {j:Nat} {sto:List SO} {a b:Int} (h:RL j sto):Kp j sto (sto.set j (cl2 a b)):=by
 obtain ⟨x,y,e⟩:=h;have hl:j<sto.length:=(iE.mp e).1;exact ⟨⟨a,b,iM hl⟩,jG ..,fun i hi=>iJ (Ne.symm hi)⟩
theorem Yt {j m:Nat} {sto:List SO} (h:RL j sto) (h0:0<m) (hm:okM m):∃ (t:Nat) (ae:List SO),t<m/\Kp j sto ae/\gn [.obj j,.int (m:Int)] sto=some (.int (t:Int),ae):=by
 obtain ⟨a,b,e⟩:=id h;have hl:j<sto.length:=(iE.mp e).1;have R0:ux (au 0) (ak (.int 0)) ⟨[some (.obj j,false),some (.int (m:Int),false),none],sto⟩=some (.int a,⟨[some (.obj j,false),some (.int (m:Int),false),none],sto⟩):=a3s rfl rfl e (show ixI 2 _=some _ from rfl) rfl;have R1:ux (au 0) (ak (.int 1)) ⟨[some (.obj j,false),some (.int (m:Int),false),none],sto⟩=some (.int b,⟨[some (.obj j,false),some (.int (m:Int),false),none],sto⟩):=a3s rfl rfl e (show ixI 2 _=some _ from rfl) rfl;have T1:cu (mOp eqO (ux (au 0) (ak (.int 0))) (ak (.int 0))) ⟨[some (.obj j,false),some (.int (m:Int),false),none],sto⟩=some (a==0,⟨[some (.obj j,false),some (.int (m:Int),false),none],sto⟩):=zt (zo R0 rfl (by rw [wu]));have T2:cu (mOp eqO (ux (au 0) (ak (.int 0))) (mUn Ey (ak (.int 1)))) ⟨[some (.obj j,false),some (.int (m:Int),false),none],sto⟩=some (a == -1,⟨[some (.obj j,false),some (.int (m:Int),false),none],sto⟩):=zt (zo R0 rfl (by rw [wu]));have mp:(0:Int)<(m:Int):=by omega
 have lt:∀ x:Int,∃ t:Nat,t<m/\x%(m:Int)=(t:Int):=fun x=>by
  have p0:=Int.emod_nonneg x (show (m:Int)≠0 by omega);have p1:=Int.emod_lt_of_pos x mp;exact ⟨(x%(m:Int)).toNat,by omega,by omega⟩
 cases c:((a==0)||(a == -1)) with
 | true =>
  have C':mOr (cu (mOp eqO (ux (au 0) (ak (.int 0))) (ak (.int 0)))) (cu (mOp eqO (ux (au 0) (ak (.int 0))) (mUn Ey (ak (.int 1))))) ⟨[some (.obj j,false),some (.int (m:Int),false),none],sto⟩=some (true,⟨[some (.obj j,false),some (.int (m:Int),false),none],sto⟩):=by
   cases c0:(a==0) with
   | true=>rw [c0] at T1; exact afk T1
   | false =>
    rw [c0] at T1;rw [c0,Bool.false_or] at c;rw [c] at T2;exact a7v T1 T2
  obtain ⟨t,h1,h2⟩:=lt ((b * 48271+11)%2147483647 * 16807%2147483629 / 5);refine ⟨t,sto.set j (cl2 a ((b * 48271+11)%2147483647)),h1,a7l h,?_⟩;have A:=a8a (o:=au 0) (kk:=ak (.int 1)) (v:=mOp Mf (mOp uo (mOp a3n (ux (au 0) (ak (.int 1))) (ak (.int 48271))) (ak (.int 11))) (ak (.int 2147483647))) (s:=⟨[some (.obj j,false),some (.int (m:Int),false),none],sto⟩) (t:=.int ((b * 48271+11)%2147483647)) (zo (zo (zo R1 rfl (mu2 (by decide))) rfl rfl) rfl (md (by decide))) rfl rfl e (show ixI 2 1=some 1 from rfl);have e2:(sto.set j (cl2 a ((b * 48271+11)%2147483647)))[j]? = some (cl2 a ((b * 48271+11)%2147483647)):=iM hl;have R2:ux (au 0) (ak (.int 1)) ⟨[some (.obj j,false),some (.int (m:Int),false),none],sto.set j (cl2 a ((b * 48271+11)%2147483647))⟩=some (.int ((b * 48271+11)%2147483647),⟨[some (.obj j,false),some (.int (m:Int),false),none],sto.set j (cl2 a ((b * 48271+11)%2147483647))⟩):=a3s rfl rfl e2 (show ixI 2 1=some 1 from rfl) rfl;rw [<- h2];exact zrun (zqr (zk C' (zq A (zr (zo (zo (zo (zo R2 rfl (mu2 (by decide))) rfl (md (by decide))) rfl (fdv (by decide) (by decide))) rfl (md mp)))))) rfl
 | false =>
  obtain ⟨c1,c2⟩:=Bool.or_eq_false_iff.mp c;rw [c1] at T1;rw [c2] at T2;obtain ⟨t,h1,h2⟩:=lt a;refine ⟨t,sto.set j (cl2 (a / (m:Int)) b),h1,a7l h,?_⟩;have F:nq 2 (mOp Mf (ux (au 0) (ak (.int 0))) (au 1)) ⟨[some (.obj j,false),some (.int (m:Int),false),none],sto⟩=some (.next,⟨[some (.obj j,false),some (.int (m:Int),false),some (.int (t:Int),false)],sto⟩):=ys (zo R0 rfl (by rw [md mp,h2])) rfl;have gD:ux (au 0) (ak (.int 0)) ⟨[some (.obj j,false),some (.int (m:Int),false),some (.int (t:Int),false)],sto⟩=some (.int a,⟨[some (.obj j,false),some (.int (m:Int),false),some (.int (t:Int),false)],sto⟩):=a3s rfl rfl e (show ixI 2 _=some _ from rfl) rfl;have A:=a8a (o:=au 0) (kk:=ak (.int 0)) (v:=mOp Ql (ux (au 0) (ak (.int 0))) (au 1)) (s:=⟨[some (.obj j,false),some (.int (m:Int),false),some (.int (t:Int),false)],sto⟩) (t:=.int (a / (m:Int))) (zo gD rfl (fdm h0 hm)) rfl rfl e (show ixI 2 0=some 0 from rfl);exact zrun (zq (ze (a7v T1 T2) rfl) (zq F (zq A (zr rfl)))) rfl
theorem aau {c d:M Bool} {s s1:Sta} {q:Option (Bool × Sta)} (h:c s=some (true,s1)) (h2:d s1=q):Ep c d s=q:=by unfold Ep; rw [h]; exact h2
theorem ael {c d:M Bool} {s s1:Sta} (h:c s=some (false,s1)):Ep c d s=some (false,s1):=by unfold Ep; rw [h]
theorem yj {j m:Nat} {s:Sta} {l:M (List T)} (h:RL j s.sto) (hl:l s=some ([.obj j,.int (m:Int)],s)) (h0:0<m) (hm:okM m):∃ (t:Nat) (ae:List SO),t<m/\Kp j s.sto ae/\f9 gn l s=some (.int (t:Int),⟨s.env,ae⟩):=by
 obtain ⟨t,ae,h1,h2,h3⟩:=Yt h h0 hm;exact ⟨t,ae,h1,h2,zf hl h3⟩
theorem vd (a:Str) (n:Nat) (h:lnB (cs a) n=true:=by decide +kernel):Ln a n:=aem h
theorem Qz:∀ l:List Str,Ug (l.map T.str)=some l
 | []=>rfl
 | x::l=>by rw [iL,Ug,Qz l]; rfl
theorem a87 {sep:Str} {l:List Str} (h:(l.map (·.length)).sum+l.length * sep.length<1000000):yp (.str sep) (.lst (l.map T.str))=some (.str (Str.join sep l)):=by
 simp only [yp,Qz];exact hU h
theorem zrg {a:M T} {s s1:Sta} {m:Nat} (h:a s=some (.int (m:Int),s1)) (hl:m<lim):Ad a s=some ((List.range m).map (fun (k:Nat)=>T.int (k:Int)),s1):=by
 unfold Ad; rw [h]; dsimp only; unfold rangeT; simp [hl]
abbrev paT (l:List Str):T:=.lst (l.map .str)
theorem add_l {a b:List Str} (h:a.length+b.length<lim):uo (paT a) (paT b)=some (paT (a++b)):=by
 show (if (a.map T.str).length+(b.map T.str).length<lim then some (T.lst (a.map T.str++b.map T.str)) else none)=_;rw [hZ,hZ,hU h];unfold paT;rw [jT]
abbrev sl (t:T):C.Slot:=some (t,false)
theorem Hx {m:Nat} (h:m<1073741824):okM m:=.inl h
variable {cR cN:Nat} {sto:List SO}
theorem Vm {n:Nat}:∀ {l:List Str},(∀ r∈l,Ln r n)->(l.map (·.length)).sum<=l.length * n
 | [],_=>iZ _
 | x::l,h=>by
  have h1:=(h x ie).le;have h2:=Vm (l:=l) fun w hw=>h w (ij _ hw);rw [<- zx] at h1;simp only [List.map_cons,List.sum_cons,List.length_cons,Nat.add_mul,Nat.one_mul];omega
theorem Gp {sep:Str}:∀ l:List Str,(Str.join sep l).length<=(l.map (·.length)).sum+l.length * sep.length
 | []=>by rw [Str.join]; exact iZ _
 | [x]=>by rw [Str.join]; simp
 | x::y::r=>by
  have ih:=Gp (sep:=sep) (y::r);rw [Str.join]
  ·rw [zx,m7,m7,il,il,<- zx,<- zx,<- zx];simp only [List.map_cons,List.sum_cons,List.length_cons,Nat.add_mul,Nat.one_mul] at ih ⊢;omega
  all_goals simp
abbrev txt (l:List Str):Str:=Str.join "\n" l
theorem a8g:("\n" : Str).length=1:=by decide +kernel
theorem a7x {l:List Str} (h:∀ r∈l,Ln r 900) (hl:l.length<=1000):yp (.str "\n") (paT l)=some (.str (txt l)):=a87 (by
 have:=Vm h;rw [a8g];omega)
theorem Z9 {l:List Str} (h:∀ r∈l,Ln r 900) (hl:l.length<=1000):Ptx (txt l):=⟨fun c hc=>by
  rcases mem_join hc with e | ⟨w,hw,e⟩
  ·rw [a5m,ik] at e; omega
  ·exact ((h w hw).pl c e).2,by
  have h1:=Gp (sep := "\n") l;have h2:=Vm h;rw [a8g] at h1;rw [<- zx];show (Str.join "\n" l).length<1000000;omega⟩
def Nem (l:List Str):Prop:=l≠[]/\l≠([""]:List Str)
theorem Nm {l:List Str} (h:∀ r∈l,Ln r 900) (hn:Nem l):rowsOf (txt l)=l:=by
 have e:(txt l == "")=false:=by
  rw [iY];intro z;have z:cs (txt l)=[]:=by rw [z]; decide +kernel
  match l,hn,z with
  | [],hn,_=>exact hn.1 rfl
  | [x],hn,z =>
   have:cs (Str.join "\n" [x])=[]:=z;rw [Str.join] at this;exact hn.2 (by rw [show x = "" from Dj (this.trans (by decide +kernel))])
  | x::y::r,_,z =>
   have:cs (Str.join "\n" (x::y::r))=[]:=z;rw [Str.join] at this
   ·rw [m7,m7,a5m] at this;simp at this
   all_goals simp
 unfold rowsOf;rw [e,hV (by decide)];exact a3g hn.1 fun w hw=>(h w hw).no
theorem a8r {l:List Str} {s:Ms} (h:runM (.idle []) l=.inl s) (hl:l≠[]):Nem l:=⟨hl,fun z=>by
 rw [z] at h
 have q:stepM (.idle []) "" = none:=by
  rw [stepM,show yg (ws "")=none by decide +kernel]; rfl
 rw [runM,q] at h;cases h⟩
theorem a2g {l:List Str} (h:∀ r∈l,Ln r 900) (hl:l.length<=1000):Prs l:=⟨by show _<1000000; omega,fun r hr=>(h r hr).pn (by decide)⟩
theorem a5z {l:List Str} (h:∀ r∈l,Ln r 900) (hl:l.length<=1000) (hn:Nem l) {A:List T} (hr:runM (.idle []) l=.inl (.idle A)):a2r (txt l)=.inl A:=by
 rw [Rb (by rw [Nm h hn]; omega),Nm h hn,hr]
end K
end
section
namespace K
open C PySem
abbrev It:=List Nat × Int
abbrev wdI (q:It):Str:=wdS q.1 q.2
abbrev Ea (q:It):T:=.tup (q.1.map (fun p:Nat=>T.int (p:Int))++[.int q.2])
structure Ww (kind:Bool) (q:It):Prop where
 ne:q.1≠[]
 le:q.1.length<=(if kind=true then 2 else 1)
 ok:∀ p∈q.1,okN p
 ot:okN q.2.natAbs
 t0:q.2≠0
 ts:kind=false->1<=q.2
theorem Ww.le2 {kind:Bool} {q:It} (h:Ww kind q):q.1.length<=2:=ip h.le (by split <;> omega)
theorem Ww.sum {q:It} (h:Ww false q):wk (wdI q)=some (Ea q):=by
 obtain ⟨ps,t⟩:=q
 obtain ⟨p,rfl⟩:∃ p,ps=[p]:=by
  match ps,h.ne,h.le with
  | [p],_,_=>exact ⟨p,rfl⟩
  | [],n,_=>exact absurd rfl n
  | _::_::_,_,l=>exact absurd l (by simp)
 have t1:1<=t:=h.ts rfl;obtain ⟨m,rfl⟩:∃ m:Nat,t=(m:Int):=⟨t.natAbs,by omega⟩;have ot:okN ((m:Int)).natAbs:=h.ot;rw [iW] at ot;exact ac2 (h.ok p ie) ot (by omega)
theorem Ww.rest {q:It} (h:Ww true q):qz (wdI q)=some (Ea q):=aai h.ok h.ne h.le2 h.ot h.t0
def Ld (its:List It):Str:=Str.join " " (("sum" : Str)::its.map wdI)
def Ph (d:Nat) (its:List It):Str:=Str.join " " (("rest" : Str)::num (d:Int)::its.map wdI)
def Jb (b:Str) (v:Int):Str:=Str.join " " [("cut" : Str),b,num v]
def orR (i m:Nat):Str:=Str.join " " [("or" : Str),num (i:Int),num (m:Int)]
inductive GP:Nat->Nat->T->List Str->Prop where
 | sum {e n:Nat} (its:List It) (h:∀ q∈its,Ww false q) (hl:its.length<=10) (ln:Ln (Ld its) 900):GP (e+1) (n+3) (.tup [.str "sum",.tup (its.map Ea)]) [Ld its]
 | rest {e n:Nat} (d:Nat) (its:List It) (hd:okN d) (h2:2<=d) (h:∀ q∈its,Ww true q) (hl:its.length<=10) (ln:Ln (Ph d its) 900):GP (e+1) (n+3) (.tup [.str "rest",.int (d:Int),.tup (its.map Ea)]) [Ph d its]
 | cut {e n:Nat} {t1 t2:T} {l1 l2:List Str} (b:Str) (v:Int) (hb:Xa b=true) (hs:32∉cs b) (bl:(cs b).length<=10) (hp:Pn b) (hv:okN v.natAbs) (ln:Ln (Jb b v) 900) (h1:GP e n t1 l1) (h2:GP e n t2 l2):GP (e+1) (n+1) (.tup [.str "cut",.str b,.int v,t1,t2]) (Jb b v::(l1++l2))
 | orr {e n:Nat} (i:Nat) (cs:List (List Str × T)) (hi:okN i) (hm:cs.length<100) (ln:Ln (orR i cs.length) 900) (h:∀ y∈cs,GP e n y.2 y.1):GP (e+1) (n+2) (.tup [.str "or",.int (i:Int),.tup (cs.map (·.2))]) (orR i cs.length::cs.flatMap (·.1))
theorem yx {p:Nat} (h:p<100):okN p:=Zj (k:=1) (by omega) (by decide)
theorem ae5 {its:List It}:∀ w∈its.map wdI,32∉cs w:=fun w hw=>by
 obtain ⟨q,_,rfl⟩:=iN.mp hw;exact aeu (by omega)
theorem ad6 (its:List It):ws (Ld its)=("sum" : Str)::its.map wdI:=K4 (iV _ _) fun w hw=>by
 rcases ir.mp hw with rfl | hw
 ·decide +kernel
 ·exact ae5 w hw
theorem a97 (d:Nat) (its:List It):ws (Ph d its)=("rest" : Str)::num (d:Int)::its.map wdI:=K4 (iV _ _) fun w hw=>by
 rcases ir.mp hw with rfl | hw
 ·decide +kernel
 ·rcases ir.mp hw with rfl | hw
  ·exact Ei (by omega)
  ·exact ae5 w hw
theorem adk {b:Str} (hs:32∉cs b) (v:Int):ws (Jb b v)=[("cut" : Str),b,num v]:=K4 (iV _ _) fun w hw=>by
 simp only [List.mem_cons,List.not_mem_nil,or_false] at hw;rcases hw with rfl | rfl | rfl
 ·decide +kernel
 ·exact hs
 ·exact Ei (by omega)
theorem aft (i m:Nat):ws (orR i m)=[("or" : Str),num (i:Int),num (m:Int)]:=K4 (iV _ _) fun w hw=>by
 simp only [List.mem_cons,List.not_mem_nil,or_false] at hw;rcases hw with rfl | rfl | rfl
 ·decide +kernel
 ·exact Ei (by omega)
 ·exact Ei (by omega)
theorem GP.pap {e n:Nat} {t:T} {l:List Str} (h:GP e n t l):Pap e l t:=by
 induction h with
 | @sum e n its h hl ln=>exact (W4 (by rw [ad6]; exact a6a fun q hq=>(h q hq).sum) rfl).mono (lO (iZ e))
 | @rest e n d its hd h2 h hl ln=>exact (W4 (by rw [a97]; exact a0m hd h2 fun q hq=>(h q hq).rest) rfl).mono (lO (iZ e))
 | @cut e n t1 t2 l1 l2 b v hb hs bl hp hv ln h1 h2 i1 i2 =>
  have n:=V1 (e:=e) (r:=Jb b v) (x:=.cut b v) (by rw [adk hs]; exact a3t hb hv) (cs:=[(l1,t1),(l2,t2)]) (fun y hy=>by
   rcases ir.mp hy with rfl | hy
   ·exact i1
   ·rw [ik.mp hy]; exact i2) rfl
  rw [iR,iR,jX,iU] at n;exact n
 | @orr e n i cs hi hm ln h ih =>
  exact V1 (e:=e) (r:=orR i cs.length) (x:=.orr (i:Int) (cs.length:Int)) (by rw [aft]; exact aad hi (yx hm)) (cs:=cs) ih rfl
theorem GP.ln {e n:Nat} {t:T} {l:List Str} (h:GP e n t l):∀ r∈l,Ln r 900:=by
 induction h with
 | sum its h hl ln=>intro r hr; rw [ik.mp hr]; exact ln
 | rest d its hd h2 h hl ln=>intro r hr; rw [ik.mp hr]; exact ln
 | cut b v hb hs bl hp hv ln h1 h2 i1 i2 =>
  intro r hr;rcases ir.mp hr with rfl | hr
  ·exact ln
  ·rcases jn.mp hr with hr | hr
   ·exact i1 r hr
   ·exact i2 r hr
 | orr i cs hi hm ln h ih =>
  intro r hr;rcases ir.mp hr with rfl | hr
  ·exact ln
  ·obtain ⟨y,hy,hr⟩:=List.mem_flatMap.mp hr;exact ih y hy r hr
inductive Pl:Nat->T->Prop where
 | int {n:Nat} (i:Int):Pl n (.int i)
 | str {n:Nat} (x:Str) (h:okS x):Pl n (.str x)
 | tup {n:Nat} (l:List T) (hl:l.length<1000) (h:∀ t∈l,Pl n t):Pl (n+1) (.tup l)
theorem a7r {kind:Bool} {q:It} (hq:Ww kind q):Pl 1 (Ea q):=.tup _ (by rw [il,hZ,iP]; have:=hq.le2; omega) fun t ht=>by
 rcases jn.mp ht with h | h
 ·obtain ⟨p,_,rfl⟩:=iN.mp h; exact .int _
 ·rw [ik.mp h]; exact .int _
theorem Pl.mono {n m:Nat} {t:T} (h:Pl n t) (hm:n<=m):Pl m t:=by
 induction h generalizing m with
 | int i=>exact .int i
 | str x h=>exact .str x h
 | tup l hl h ih =>
  obtain ⟨k,rfl⟩:∃ k,m=k+1:=⟨m - 1,by omega⟩;exact .tup l hl fun t ht=>ih t ht (by omega)
theorem GP.pl {e n:Nat} {t:T} {l:List Str} (h:GP e n t l):Pl n t:=by
 induction h with
 | @sum e n its h hl ln =>
  refine .tup _ (by simp) fun t ht=>?_;simp only [List.mem_cons,List.not_mem_nil,or_false] at ht;rcases ht with rfl | rfl
  ·exact .str _ Ac
  ·exact .tup _ (by rw [hZ]; omega) fun t ht=>by
    obtain ⟨q,hq,rfl⟩:=iN.mp ht;exact (a7r (h q hq)).mono (by omega)
 | @rest e n d its hd h2 h hl ln =>
  refine .tup _ (by simp) fun t ht=>?_;simp only [List.mem_cons,List.not_mem_nil,or_false] at ht;rcases ht with rfl | rfl | rfl
  ·exact .str _ vo
  ·exact .int _
  ·exact .tup _ (by rw [hZ]; omega) fun t ht=>by
    obtain ⟨q,hq,rfl⟩:=iN.mp ht;exact (a7r (h q hq)).mono (by omega)
 | @cut e n t1 t2 l1 l2 b v hb hs bl hp hv ln h1 h2 i1 i2 =>
  refine .tup _ (by simp) fun t ht=>?_;simp only [List.mem_cons,List.not_mem_nil,or_false] at ht;rcases ht with rfl | rfl | rfl | rfl | rfl
  ·exact .str _ uf
  ·exact .str _ hp.okS
  ·exact .int _
  ·exact i1
  ·exact i2
 | @orr e n i cs hi hm ln h ih =>
  refine .tup _ (by simp) fun t ht=>?_;simp only [List.mem_cons,List.not_mem_nil,or_false] at ht;rcases ht with rfl | rfl | rfl
  ·exact .str _ Al
  ·exact .int _
  ·exact .tup _ (by rw [hZ]; omega) fun t ht=>by
    obtain ⟨y,hy,rfl⟩:=iN.mp ht;exact ih y hy
mutual
theorem Uc:∀ {n:Nat} {l:List T},(∀ t∈l,∃ d,dat t=some d/\d.depth<=n)->∃ ds,Li l=some ds/\PyData.depthAll ds<=n
 | n,[],_=>⟨[],rfl,iZ _⟩
 | n,t::l,h=>by
  obtain ⟨d,e,hd⟩:=h t ie;obtain ⟨ds,e2,h2⟩:=Uc fun t ht=>h t (ij _ ht);refine ⟨d::ds,?_,?_⟩
  ·rw [Li,e,e2]; rfl
  ·rw [PyData.depthAll]; omega
end
theorem Pl.dat {n:Nat} {t:T} (h:Pl n t):∃ d,dat t=some d/\d.depth<=n+1:=by
 induction h with
 | int i=>exact ⟨_,rfl,by simp [PyData.depth]⟩
 | str x h=>exact ⟨.str x,Ef h,by simp [PyData.depth]⟩
 | tup l hl h ih =>
  obtain ⟨ds,e,hd⟩:=Uc ih;exact ⟨.tuple ds,by rw [C.dat,e]; rfl,by rw [PyData.depth]; omega⟩
variable {sto:List SO}
theorem a8f:∀ (k m:Nat),(Nat.toDigits 10 m).length<=k->m<10 ^ k
 | 0,m,h=>by
  exfalso
  by_cases z:m<10
  ·rw [kQ z] at h; simp at h
  ·rw [Eh (by omega),il,iP] at h; omega
 | k+1,m,h=>by
  have p:1<=10 ^ k:=Nat.one_le_pow _ _ (by decide);rw [Nat.pow_succ]
  by_cases z:m<10
  ·omega
  ·rw [Eh (by omega),il,iP] at h;have:=a8f k (m / 10) (by omega);omega
theorem a9g {m:Nat} (h:okN m):m.log2<1920:=by
 unfold okN at h;rw [Lx,hZ] at h;have h1:=a8f 400 m h
 have h2:(10:Nat) ^ 400<=2 ^ 1600:=by
  rw [show (400:Nat)=1 * 400 from rfl,Nat.pow_mul,show (1600:Nat)=4 * 400 from rfl,Nat.pow_mul];exact Nat.pow_le_pow_left (by decide) 400
 by_cases z:m=0
 ·rw [z]; decide
 ·have h3:=(Nat.log2_lt z).mpr (iD h1 h2);omega
theorem Gj {i:Int} (h:okN i.natAbs):Dh [.int i]=some (.str (num i)):=hU (a9g h)
theorem Bu {m:Nat} (h:okN m):Dh [.int (m:Int)]=some (.str (num (m:Int))):=Gj (by rw [iW]; exact h)
theorem Sw {i:Int} (h:okN i.natAbs):Ln (num i) 401:=⟨fun c hc=>by
  rcases K5 c hc with rfl | ⟨h1,h2⟩
  ·decide
  ·omega,by
  rcases lb i 0 with z | z
  ·obtain ⟨m,hm,rfl⟩:∃ m:Nat,0<m/\i = -(m:Int):=⟨i.natAbs,by omega,by omega⟩;rw [Int.natAbs_neg,iW] at h;rw [Mq hm,iA];exact lO h
  ·obtain ⟨m,rfl⟩:∃ m:Nat,i=(m:Int):=⟨i.natAbs,by omega⟩;rw [iW] at h;exact lZ h⟩
theorem Cv {m:Nat} (h:okN m):Ln (num (m:Int)) 401:=Sw (by rw [iW]; exact h)
theorem wj {a b:Str} {m n:Nat} (ha:Ln a m) (hb:Ln b n) (h:m+n<500000):uo (.str a) (.str b)=some (.str (a++b)):=ad (by rw [zx,zx]; have:=ha.le; have:=hb.le; show _<1000000; omega)
theorem El {sep:Str} {s n:Nat} {l:List Str} (hs:Ln sep s) (h:∀ w∈l,Ln w n) (hl:l.length * n+l.length * s<500000):yp (.str sep) (paT l)=some (.str (Str.join sep l)):=a87 (by
 have h1:=Vm h;have h2:=hs.le;rw [<- zx] at h2;have h3:=Nat.mul_le_mul_left l.length h2;omega)
theorem a8z {ps:List Nat} (h:∀ p∈ps,okN p) (hl:ps.length<=2):Ln (plS ps) 804:=by
 have:=Hs (sep := ",") (s:=1) (n:=401) (vd "," 1) (l:=ps.map fun p:Nat=>num (p:Int)) (fun w hw=>by
  obtain ⟨p,hp,rfl⟩:=iN.mp hw;exact Cv (h p hp))
 rw [hZ] at this;exact this.mono (by omega)
theorem Ww.ln {kind:Bool} {q:It} (h:Ww kind q):Ln (wdI q) 1206:=((a8z h.ok h.le2).app (vd "*" 1)).app (Sw h.ot)
theorem Ze {L:List T} {t:T}:Od (L++[t]) none (some (-1))=L:=by
 unfold Od;have h0:C.sIx (L++[t]).length 0 none=0:=rfl
 have h1:C.sIx (L++[t]).length (L++[t]).length (some (-1))=L.length:=by
  show (if (-1:Int)<0 then ((-1:Int)+((L++[t]).length:Int)).toNat else min ((-1:Int)).toNat (L++[t]).length)=_;rw [hU (by decide),il,iP];omega
 rw [h0,h1,kP,lX,List.take_left]
theorem a1t {q:It} {s:Sta} {m:M T} (hm:m s=some (Ea q,s)):yr m ou (qe (mUn Ey (ak (.int 1)))) s=some (.tup (q.1.map (fun p:Nat=>T.int (p:Int))),s):=by
 unfold yr;rw [hm]; dsimp only;rw [show ou s=some (none,s) from rfl]; dsimp only;rw [zos (p:=-1) (show mUn Ey (ak (.int 1)) s=some (.int (-1),s) from rfl)]; dsimp only;show (match some (T.tup (Od (q.1.map (fun p:Nat=>T.int (p:Int))++[.int q.2]) none (some (-1)))) with | some u=>some (u,s) | none=>none)=_;rw [Ze]
theorem Vi {q:It}:dw (Ea q) (.int (-1))=some (.int q.2):=by
 show (ixI (q.1.map (fun p:Nat=>T.int (p:Int))++[T.int q.2]).length (-1)).bind _=_
 have e:ixI (q.1.map (fun p:Nat=>T.int (p:Int))++[T.int q.2]).length (-1)=some (q.1.map (fun p:Nat=>T.int (p:Int))).length:=by
  unfold ixI;rw [hV (by decide),il,iP,hU (by omega)];congr 1;omega
 rw [e];simp
theorem abm {α:Type} {a:M T} {s s1:Sta} {f:α->T} {k:List α} (h:a s=some (.tup (k.map f),s1)) (hl:k.length<lim):Bg a s=some (k.map f,s1):=by
 unfold Bg; rw [h]; dsimp only; rw [hZ,hU hl]
theorem Pg {kind:Bool} {q:It} (h:Ww kind q) {s:Sta} {m:M T} (hm:m s=some (Ea q,s)):qm 1 [] (hName 0) (Bg (yr m ou (qe (mUn Ey (ak (.int 1)))))) p7 (gq Dh (aj (au 0) cj)) s=some (paT (q.1.map fun p:Nat=>num (p:Int)),s):=by
 have e:=Bm (fun p:Nat=>T.int (p:Int)) (fun p:Nat=>T.str (num (p:Int))) q.1 (g:=hName 0) (nv:=1) (ci:=[]) (c:=p7) (it:=Bg (yr m ou (qe (mUn Ey (ak (.int 1)))))) (e:=gq Dh (aj (au 0) cj)) (s:=s) (s1:=s) _ [] (abm (a1t hm) (by have:=h.le2; show _<1000000; omega)) rfl rfl rfl (by have:=h.le2; show _<=1000000; omega) (by
  intro p hp pre aF
  obtain ⟨a,rfl⟩:∃ a,pre=[a]:=by
   match pre,aF with
   | [a],_=>exact ⟨a,rfl⟩
  exact ⟨[some (.int (p:Int),false)],rfl,rfl,rfl,zm (zc rfl rfl) (Bu (h.ok p hp))⟩)
 unfold paT;rw [ko];exact e
theorem Y9 {kind:Bool} {q:It} (h:Ww kind q):qj [Ea q] sto=some (.str (wdI q),sto):=by
 have P:=Pg h (s:=⟨[sl (Ea q)],sto⟩) (m:=au 0) rfl
 have J:mOp yp (ak (.str ",")) (qm 1 [] (hName 0) (Bg (yr (au 0) ou (qe (mUn Ey (ak (.int 1)))))) p7 (gq Dh (aj (au 0) cj))) ⟨[sl (Ea q)],sto⟩=some (.str (plS q.1),⟨[sl (Ea q)],sto⟩):=zo rfl P (El (s:=1) (n:=401) (vd "," 1) (fun w hw=>by
  obtain ⟨p,hp,rfl⟩:=iN.mp hw;exact Cv (h.ok p hp)) (by have:=h.le2; rw [hZ]; omega))
 have lp:=a8z h.ok h.le2;exact zrun (zr (zo (zo J rfl (wj lp (vd "*" 1) (by decide))) (zm (zc (zo rfl rfl Vi) rfl) (Gj h.ot)) (wj (lp.app (vd "*" 1)) (Sw h.ot) (by decide)))) rfl
theorem Uy {kind:Bool} {its:List It} (h:∀ q∈its,Ww kind q) (hl:its.length<=10) {s:Sta} {m:M T} (hm:m s=some (.tup (its.map Ea),s)):qm 1 [] (hName 0) (Bg m) p7 (f9 qj (aj (au 0) cj)) s=some (paT (its.map wdI),s):=by
 have e:=Bm Ea (fun q=>T.str (wdI q)) its (g:=hName 0) (nv:=1) (ci:=[]) (c:=p7) (it:=Bg m) (e:=f9 qj (aj (au 0) cj)) (s:=s) (s1:=s) _ [] (abm hm (by show _<1000000; omega)) rfl rfl rfl (by show _<=1000000; omega) (by
  intro q hq pre aF
  obtain ⟨a,rfl⟩:∃ a,pre=[a]:=by
   match pre,aF with
   | [a],_=>exact ⟨a,rfl⟩
  exact ⟨[some (Ea q,false)],rfl,rfl,rfl,zf0 (zc rfl rfl) (Y9 (h q hq))⟩)
 unfold paT;rw [ko];exact e
end K
end
section
namespace K
open C PySem
variable {sto:List SO}
abbrev Oc (its:List It):T:=.tup [.str "sum",.tup (its.map Ea)]
abbrev Ii (d:Nat) (its:List It):T:=.tup [.str "rest",.int (d:Int),.tup (its.map Ea)]
abbrev Rr (b:Str) (v:Int) (t1 t2:T):T:=.tup [.str "cut",.str b,.int v,t1,t2]
abbrev tOr (i:Nat) (ts:List T):T:=.tup [.str "or",.int (i:Int),.tup ts]
section
variable {t:T} {k:Str} {r:List T} {s:Sta}
theorem a9v:dw (.tup (.str k::r)) (.int 0)=some (.str k):=by
 show (ixI (T.str k::r).length 0).bind _=_;unfold ixI;rw [hU (by decide),iA,hU (by omega)];rfl
theorem qu (h:t=.tup (.str k::r)) (hv:au 0 s=some (t,s)) (hk:okS k) {y:Str} (hy:okS y):cu (mOp eqO (mOp dw (au 0) (ak (.int 0))) (ak (.str y))) s=some (k==y,s):=by
 subst h;exact zt (zo (zo hv rfl a9v) rfl (qx hk hy))
end
theorem Vq:(("sum" : Str) == "or")=false:=by decide +kernel
theorem R8:(("sum" : Str) == "cut")=false:=by decide +kernel
theorem Q8:(("rest" : Str) == "or")=false:=by decide +kernel
theorem Mp:(("rest" : Str) == "cut")=false:=by decide +kernel
theorem M5:(("rest" : Str) == "sum")=false:=by decide +kernel
theorem W3:(("cut" : Str) == "or")=false:=by decide +kernel
theorem a09:(("cut" : Str) == "sum")=false:=by decide +kernel
theorem Xy:(("cut" : Str) == "rest")=false:=by decide +kernel
theorem a5q:(("or" : Str) == "sum")=false:=by decide +kernel
theorem a0p:(("or" : Str) == "rest")=false:=by decide +kernel
theorem a6q:(("or" : Str) == "cut")=false:=by decide +kernel
abbrev rwS (t:T) (o:C.Slot) (sto:List SO):Sta:=⟨[sl t,o],sto⟩
theorem a83 {kind:Bool} {its:List It} (h:∀ q∈its,Ww kind q):∀ w∈its.map wdI,Ln w 1206:=fun w hw=>by
 obtain ⟨q,hq,rfl⟩:=iN.mp hw;exact (h q hq).ln
theorem a4b {its:List It} (h:∀ q∈its,Ww false q) (hl:its.length<=10):ug [Oc its] sto=some (.str (Ld its),sto):=by
 have g1:=qu (s:=rwS (Oc its) none sto) rfl rfl Ac Al;have g2:=qu (s:=rwS (Oc its) none sto) rfl rfl Ac uf;have g3:=qu (s:=rwS (Oc its) none sto) rfl rfl Ac Ac;rw [Vq] at g1;rw [R8] at g2;rw [jb] at g3;have w:=Uy h hl (s:=rwS (Oc its) none sto) (m:=mOp dw (au 0) (ak (.int 1))) (zo rfl rfl rfl)
 have A:nq 1 (mOp uo (gq (fun l=>some (.lst l)) (aj (ak (.str "sum")) cj)) (qm 1 [] (hName 0) (Bg (mOp dw (au 0) (ak (.int 1)))) p7 (f9 qj (aj (au 0) cj)))) (rwS (Oc its) none sto)=some (.next,rwS (Oc its) (sl (paT (("sum" : Str)::its.map wdI))) sto) :=
  ys (zo (zm (zc rfl rfl) rfl) w (add_l (a:=[("sum" : Str)]) (by rw [hZ,iP]; show _<1000000; omega))) rfl
 have J:yp (.str " ") (paT (("sum" : Str)::its.map wdI))=some (.str (Ld its)):=El (s:=1) (n:=1206) (vd " " 1) (fun w hw=>by
  rcases ir.mp hw with rfl | hw
  ·exact vd _ _
  ·exact a83 h w hw) (by rw [iA,hZ]; omega)
 exact zrun (zq (ze g1 (ze g2 (zk g3 A))) (zr (zo rfl rfl J))) rfl
theorem Zt {d:Nat} (hd:okN d) {its:List It} (h:∀ q∈its,Ww true q) (hl:its.length<=10):ug [Ii d its] sto=some (.str (Ph d its),sto):=by
 have g1:=qu (s:=rwS (Ii d its) none sto) rfl rfl vo Al;have g2:=qu (s:=rwS (Ii d its) none sto) rfl rfl vo uf;have g3:=qu (s:=rwS (Ii d its) none sto) rfl rfl vo Ac;rw [Q8] at g1;rw [Mp] at g2;rw [M5] at g3;have w:=Uy h hl (s:=rwS (Ii d its) none sto) (m:=mOp dw (au 0) (ak (.int 2))) (zo rfl rfl rfl)
 have A:nq 1 (mOp uo (gq (fun l=>some (.lst l)) (aj (ak (.str "rest")) (aj (gq Dh (aj (mOp dw (au 0) (ak (.int 1))) cj)) cj))) (qm 1 [] (hName 0) (Bg (mOp dw (au 0) (ak (.int 2)))) p7 (f9 qj (aj (au 0) cj)))) (rwS (Ii d its) none sto)=some (.next,rwS (Ii d its) (sl (paT (("rest" : Str)::num (d:Int)::its.map wdI))) sto) :=
  ys (zo (zm (zc rfl (zc (zm (zc (zo rfl rfl rfl) rfl) (Bu hd)) rfl)) rfl) w (add_l (a:=[("rest" : Str),num (d:Int)]) (by rw [hZ]; show 2+_<1000000; omega))) rfl
 have J:yp (.str " ") (paT (("rest" : Str)::num (d:Int)::its.map wdI))=some (.str (Ph d its)):=El (s:=1) (n:=1206) (vd " " 1) (fun w hw=>by
  rcases ir.mp hw with rfl | hw
  ·exact vd _ _
  ·rcases ir.mp hw with rfl | hw
   ·exact (Cv hd).mono (by decide)
   ·exact a83 h w hw) (by rw [iA,iA,hZ]; omega)
 exact zrun (zq (ze g1 (ze g2 (ze g3 A))) (zr (zo rfl rfl J))) rfl
theorem a7f {b:Str} {v:Int} {n:Nat} (h:Ln (Jb b v) n):Ln b n:=⟨fun c hc=>h.pl c (by
  unfold Jb;rw [Str.join,Str.join,Str.join]
  ·rw [m7,m7,m7,m7];simp only [List.mem_append];exact .inr (.inl (.inl hc))
  all_goals simp),by
  have:=h.le;unfold Jb at this;rw [Str.join,Str.join,Str.join] at this
  ·rw [m7,m7,m7,m7] at this;simp only [List.length_append] at this;omega
  all_goals simp⟩
theorem a4l {b:Str} {v:Int} (hv:okN v.natAbs) (ln:Ln (Jb b v) 900) {t1 t2:T}:ug [Rr b v t1 t2] sto=some (.str (Jb b v),sto):=by
 have g1:=qu (s:=rwS (Rr b v t1 t2) none sto) rfl rfl uf Al;have g2:=qu (s:=rwS (Rr b v t1 t2) none sto) rfl rfl uf uf;rw [W3] at g1;rw [jb] at g2
 have A:nq 1 (gq (fun l=>some (.lst l)) (aj (ak (.str "cut")) (aj (mOp dw (au 0) (ak (.int 1))) (aj (gq Dh (aj (mOp dw (au 0) (ak (.int 2))) cj)) cj)))) (rwS (Rr b v t1 t2) none sto)=some (.next,rwS (Rr b v t1 t2) (sl (paT [("cut" : Str),b,num v])) sto) :=
  ys (zm (zc rfl (zc (zo rfl rfl rfl) (zc (zm (zc (zo rfl rfl rfl) rfl) (Gj hv)) rfl))) rfl) rfl
 have J:yp (.str " ") (paT [("cut" : Str),b,num v])=some (.str (Jb b v)):=El (s:=1) (n:=1206) (vd " " 1) (fun w hw=>by
  simp only [List.mem_cons,List.not_mem_nil,or_false] at hw;rcases hw with rfl | rfl | rfl
  ·exact vd _ _
  ·exact (a7f ln).mono (by decide)
  ·exact (Sw hv).mono (by decide)) (show 3 * 1206+3 * 1<500000 by decide)
 exact zrun (zq (ze g1 (zk g2 A)) (zr (zo rfl rfl J))) rfl
theorem aa0 {i:Nat} (hi:okN i) {ts:List T} (hm:ts.length<100):ug [tOr i ts] sto=some (.str (orR i ts.length),sto):=by
 have g1:=qu (s:=rwS (tOr i ts) none sto) rfl rfl Al Al;rw [jb] at g1
 have A:nq 1 (gq (fun l=>some (.lst l)) (aj (ak (.str "or")) (aj (gq Dh (aj (mOp dw (au 0) (ak (.int 1))) cj)) (aj (gq Dh (aj (gq Ax (aj (mOp dw (au 0) (ak (.int 2))) cj)) cj)) cj)))) (rwS (tOr i ts) none sto)=some (.next,rwS (tOr i ts) (sl (paT [("or" : Str),num (i:Int),num (ts.length:Int)])) sto) :=
  ys (zm (zc rfl (zc (zm (zc (zo rfl rfl rfl) rfl) (Bu hi)) (zc (zm (zc (zm (zc (zo rfl rfl rfl) rfl) rfl) rfl) (Bu (yx hm))) rfl))) rfl) rfl
 have J:yp (.str " ") (paT [("or" : Str),num (i:Int),num (ts.length:Int)])=some (.str (orR i ts.length)):=El (s:=1) (n:=1206) (vd " " 1) (fun w hw=>by
  simp only [List.mem_cons,List.not_mem_nil,or_false] at hw;rcases hw with rfl | rfl | rfl
  ·exact vd _ _
  ·exact (Cv hi).mono (by decide)
  ·exact (Cv (yx hm)).mono (by decide)) (show 3 * 1206+3 * 1<500000 by decide)
 exact zrun (zq (zk g1 A) (zr (zo rfl rfl J))) rfl
end K
end
section
namespace K
open C PySem
variable {sto:List SO}
theorem S9 {i:Nat} {ts:List T}:ig [tOr i ts] sto=some (.tup ts,sto):=by
 have g1:=qu (s:=⟨[sl (tOr i ts)],sto⟩) rfl rfl Al Al;rw [jb] at g1;exact zrun (zqr (zk g1 (zr (zo rfl rfl rfl)))) rfl
theorem Qv {b:Str} {v:Int} {t1 t2:T}:ig [Rr b v t1 t2] sto=some (.tup [t1,t2],sto):=by
 have g1:=qu (s:=⟨[sl (Rr b v t1 t2)],sto⟩) rfl rfl uf Al;have g2:=qu (s:=⟨[sl (Rr b v t1 t2)],sto⟩) rfl rfl uf uf;rw [W3] at g1;rw [jb] at g2;exact zrun (zq (ze g1 rfl) (zr (ac0 g2 rfl))) rfl
theorem Py {its:List It}:ig [Oc its] sto=some (.tup [],sto):=by
 have g1:=qu (s:=⟨[sl (Oc its)],sto⟩) rfl rfl Ac Al;have g2:=qu (s:=⟨[sl (Oc its)],sto⟩) rfl rfl Ac uf;rw [Vq] at g1;rw [R8] at g2;exact zrun (zq (ze g1 rfl) (zr (a6p g2 rfl))) rfl
theorem Mw {d:Nat} {its:List It}:ig [Ii d its] sto=some (.tup [],sto):=by
 have g1:=qu (s:=⟨[sl (Ii d its)],sto⟩) rfl rfl vo Al;have g2:=qu (s:=⟨[sl (Ii d its)],sto⟩) rfl rfl vo uf;rw [Q8] at g1;rw [Mp] at g2;exact zrun (zq (ze g1 rfl) (zr (a6p g2 rfl))) rfl
theorem GP.parts {e n:Nat} {t:T} {l:List Str} (h:GP e n t l):∃ (r:Str) (cs:List (List Str × T)),l=r::cs.flatMap (·.1)/\(∀ sto,ug [t] sto=some (.str r,sto))/\(∀ sto,ig [t] sto=some (.tup (cs.map (·.2)),sto))/\(∀ y∈cs,∃ e n,GP e n y.2 y.1)/\cs.length<100:=by
 cases h with
 | sum its h hl ln=>exact ⟨_,[],rfl,fun sto=>a4b h hl,fun sto=>Py,fun y hy=>(nomatch hy),by decide⟩
 | rest d its hd h2 h hl ln=>exact ⟨_,[],rfl,fun sto=>Zt hd h hl,fun sto=>Mw,fun y hy=>(nomatch hy),by decide⟩
 | @cut e n t1 t2 l1 l2 b v hb hs bl hp hv ln h1 h2 =>
  refine ⟨_,[(l1,t1),(l2,t2)],?_,fun sto=>a4l hv ln,fun sto=>Qv,fun y hy=>?_,(show 2<100 by decide)⟩
  ·rw [iR,iR,jX,iU]
  ·rcases ir.mp hy with rfl | hy
   ·exact ⟨_,_,h1⟩
   ·rw [ik.mp hy]; exact ⟨_,_,h2⟩
 | @orr e n i cs hi hm ln h =>
  refine ⟨_,cs,rfl,fun sto=>?_,fun sto=>S9,fun y hy=>⟨_,_,h y hy⟩,hm⟩;have:=aa0 (sto:=sto) hi (ts:=cs.map (·.2)) (by rw [hZ]; exact hm);rw [hZ] at this;exact this
abbrev St:=List (List Str × T)
abbrev waT (st:St):T:=.lst (st.reverse.map (·.2))
abbrev prS (t:T) (rows:List Str) (st:St) (o:C.Slot) (sto:List SO):Sta:=⟨[sl t,some (paT rows,true),some (waT st,true),o],sto⟩
def tot (st:St):Nat:=(st.map fun y=>y.1.length).sum
theorem Zq (a b:St):tot (a++b)=tot a+tot b:=by unfold tot; rw [jT,List.sum_append]
theorem V8:∀ cs:St,(cs.flatMap (·.1)).length=tot cs
 | []=>rfl
 | y::cs=>by rw [iR,il,V8 cs]; rfl
abbrev prC:M Bool:=cu (mOp gtT (yq 2) (ak (.int 0)))
abbrev prB:S:=nj (a9f 2 3) (nj (n6 1 (f9 ug (aj (au 3) cj))) (Ai 2 (mUn abf (f9 ig (aj (au 3) cj)))))
theorem a0k {t0:T}:∀ (fu:Nat) (st:St) (rows:List Str) (o:C.Slot),(∀ y∈st,∃ e n,GP e n y.2 y.1)->tot st<fu->rows.length+tot st<10000->st.length<10000 ->
  ∃ o',uc fu prC prB (prS t0 rows st o sto)=some (.next,prS t0 (rows++st.flatMap (·.1)) [] o' sto)
 | 0,st,rows,o,_,h,_,_=>absurd h (lQ _)
 | fu+1,[],rows,o,hG,h,hr,hs=>by
  refine ⟨o,?_⟩;rw [jX,iU];exact wnf (zt (zo rfl rfl rfl))
 | fu+1,(l,t)::st,rows,o,hG,h,hr,hs=>by
  obtain ⟨e,n,g⟩:=hG (l,t) ie;obtain ⟨r,cs,rfl,q1,q2,q3,q4⟩:=g.parts
  have lt:tot ((r::cs.flatMap (·.1),t)::st)=tot cs+1+tot st:=by
   show (r::cs.flatMap (·.1)).length+tot st=_;rw [iA,V8]
  rw [lt] at h hr;rw [iA] at hs
  have wl:waT ((r::cs.flatMap (·.1),t)::st)=.lst (st.reverse.map (·.2)++[t]):=by
   show T.lst (((r::cs.flatMap (·.1),t)::st).reverse.map (·.2))=_;rw [kM,jT]; rfl
  have C':prC (prS t0 rows ((r::cs.flatMap (·.1),t)::st) o sto)=some (true,prS t0 rows ((r::cs.flatMap (·.1),t)::st) o sto):=by
   refine zt (zo (t:=.int ((((r::cs.flatMap (·.1),t)::st).reverse.map (·.2)).length:Int)) rfl rfl ?_);show some (T.bl (decide ((0:Int)<_)))=_;rw [iF (by rw [hZ,ke,iA]; omega)]
  have P:a9f 2 3 (prS t0 rows ((r::cs.flatMap (·.1),t)::st) o sto)=some (.next,prS t0 rows st (sl t) sto):=by
   rw [show (prS t0 rows ((r::cs.flatMap (·.1),t)::st) o sto)=⟨[sl t0,some (paT rows,true),some (.lst (st.reverse.map (·.2)++[t]),true),o],sto⟩ by rw [<- wl]];unfold a9f;dsimp only [List.getElem?_cons_succ,List.getElem?_cons_zero];rw [show (st.reverse.map (·.2)++[t])[(st.reverse.map (·.2)++[t]).length - 1]? = some t from by simp];dsimp only;rw [List.dropLast_concat];rfl
  have A:n6 1 (f9 ug (aj (au 3) cj)) (prS t0 rows st (sl t) sto)=some (.next,prS t0 (rows++[r]) st (sl t) sto) :=
   za (zf0 (zc rfl rfl) (q1 sto)) rfl (by rw [hZ]; show _<1000000; omega) rfl (by
    show (⟨[sl t0,some (.lst (rows.map T.str++[.str r]),true),some (waT st,true),sl t],sto⟩:Sta)=_;rw [show rows.map T.str++[T.str r]=(rows++[r]).map T.str by simp])
  have E:Ai 2 (mUn abf (f9 ig (aj (au 3) cj))) (prS t0 (rows++[r]) st (sl t) sto)=some (.next,prS t0 (rows++[r]) (cs++st) (sl t) sto) :=
   zex (zs:=(cs.map (·.2)).reverse) (t:=.tup (cs.map (·.2)).reverse) (zun (zf0 (zc rfl rfl) (q2 sto)) rfl) rfl rfl (by
    rw [hZ,ke,ke,hZ]; show _<1000000; omega) rfl (by
    show (⟨[sl t0,some (paT (rows++[r]),true),some (.lst (st.reverse.map (·.2)++(cs.map (·.2)).reverse),true),sl t],sto⟩:Sta)=_;rw [show st.reverse.map (·.2)++(cs.map (·.2)).reverse=(cs++st).reverse.map (·.2) by rw [List.reverse_append,jT,List.map_reverse (l:=cs)]])
  obtain ⟨o',ih⟩:=a0k (t0:=t0) fu (cs++st) (rows++[r]) (sl t) (fun y hy=>by
   rcases jn.mp hy with hy | hy
   ·exact q3 y hy
   ·exact hG y (ij _ hy)) (by rw [Zq]; omega) (by rw [il,iP,Zq]; omega) (by
    rw [il]
    have:∀ c:St,(∀ y∈c,∃ e n,GP e n y.2 y.1)->c.length<=tot c:=fun c=>by
     induction c with
     | nil=>intro _; exact ic _
     | cons y c ihc =>
      intro hc;obtain ⟨e,n,g⟩:=hc y ie;obtain ⟨r,cs,e1,_⟩:=g.parts;have:=ihc fun z hz=>hc z (ij _ hz);have l1:1<=y.1.length:=by rw [e1,iA]; omega
      have tc:tot (y::c)=y.1.length+tot c:=rfl;rw [tc,iA]; omega
    have a1:=this cs q3;have a2:=this st fun y hy=>hG y (ij _ hy);omega)
  refine ⟨o',wnt C' (zq P (zq A E)) (ih.trans ?_)⟩;simp only [List.flatMap_append,List.flatMap_cons,List.append_assoc,List.cons_append,List.nil_append]
theorem Nu {e n:Nat} {t:T} {l:List Str} (h:GP e n t l) (hl:l.length<5000):Aa [t] sto=some (paT l,sto):=by
 obtain ⟨o',L⟩:=a0k (sto:=sto) (t0:=t) 6000 [(l,t)] [] none (fun y hy=>by rw [ik.mp hy]; exact ⟨_,_,h⟩) (by show l.length+0<6000; omega) (by show 0+(l.length+0)<10000; omega) (show 1<10000 by decide);have A:sNew 1 (gq (fun l=>some (.lst l)) cj) ⟨[sl t,none,none,none],sto⟩=some (.next,⟨[sl t,some (paT [],true),none,none],sto⟩):=yn rfl rfl;have B:sNew 2 (gq (fun l=>some (.lst l)) (aj (au 0) cj)) ⟨[sl t,some (paT [],true),none,none],sto⟩=some (.next,prS t [] [(l,t)] none sto):=yn (zm (zc rfl rfl) rfl) rfl;rw [lC,iR,jX,iU] at L;exact zrun (zq A (zq B (zq L (zr rfl)))) rfl
end K
end
section
namespace K
open C PySem
variable {sto:List SO}
theorem fnx {g:G} {b:S} {t:T} {r:List T} {s s1 s2:Sta} {q:Option (C.Flow × Sta)} (h:g t s=some s1) (hb:b s1=some (.next,s2)) (h2:forL g b r s2=q):forL g b (t::r) s=q:=by
 rw [forL]; dsimp only; rw [h]; dsimp only; rw [hb]; exact h2
theorem fnil {g:G} {b:S} {s:Sta}:forL g b [] s=some (.next,s):=by rw [forL]
theorem Iv {g:G} {b:S} {it:M (List T)} {s s1:Sta} {ts:List T} {q:Option (C.Flow × Sta)} (h:it s=some (ts,s1)) (h2:forL g b ts s1=q):U9 g it b s=q:=by unfold U9; rw [h]; exact h2
theorem Dm (a b c:Str):a++b++c=a++(b++c):=Dj (by rw [m7,m7,m7,m7,jR])
theorem a1y:∀ l:List Str,cs (Str.join "" l)=l.flatMap cs
 | []=>by rw [Str.join]; decide +kernel
 | [x]=>by rw [Str.join]; simp
 | x::y::r=>by
  rw [Str.join]
  ·rw [m7,m7,a1y (y::r),show cs "" = [] by decide +kernel,iU,iR,iR,iR]
  all_goals simp
theorem Rc (x:Str):∀ l:List Str,cs (Str.join " " (x::l))=cs x++l.flatMap fun w=>32::cs w
 | []=>by rw [Str.join]; simp
 | y::r=>by
  rw [Str.join]
  ·rw [m7,m7,T4,Rc y r,iR];simp
  all_goals simp
theorem ab0 (x:Str) (l:List Str):x++Str.join "" (l.map fun w => " " ++ w)=Str.join " " (x::l):=Dj (by
 rw [m7,a1y,Rc,mX];congr 1;rw [show (fun w:Str=>cs (" " ++ w))=fun w=>32::cs w from funext fun w=>by rw [m7,T4]; rfl])
abbrev lrS (its:List It) (l:List Str) (a b:C.Slot) (sto:List SO):Sta:=⟨[sl (.tup (its.map Ea)),some (paT l,true),a,b],sto⟩
abbrev lrB:S:=nj (nq 3 (qm 1 [] (hName 0) (Bg (yr (au 2) ou (qe (mUn Ey (ak (.int 1)))))) p7 (gq Dh (aj (au 0) cj))))
 (n6 1 (mOp uo (mOp uo (mOp uo (ak (.str " ")) (mOp yp (ak (.str ",")) (au 3))) (ak (.str "*"))) (gq Dh (aj (mOp dw (au 2) (mUn Ey (ak (.int 1)))) cj))))
theorem afw (q:It) : " " ++ plS q.1 ++ "*" ++ num q.2 = " " ++ wdI q:=by
 rw [Dm,Dm];show _ = " " ++ (plS q.1 ++ "*" ++ num q.2);rw [Dm]
theorem a0i {kind:Bool} {all:List It}:∀ (its:List It) (l:List Str) (a b:C.Slot),(∀ q∈its,Ww kind q)->l.length+its.length<1000->∃ a' b',forL (hName 2) lrB (its.map Ea) (lrS all l a b sto)=some (.next,lrS all (l++its.map fun q => " " ++ wdI q) a' b' sto)
 | [],l,a,b,_,_=>⟨a,b,by rw [jK,jK,iU]; exact fnil⟩
 | q::its,l,a,b,h,hl=>by
  have hq:=h q ie;have P:=Pg hq (s:=lrS all l (sl (Ea q)) b sto) (m:=au 2) rfl;have S1:nq 3 (qm 1 [] (hName 0) (Bg (yr (au 2) ou (qe (mUn Ey (ak (.int 1)))))) p7 (gq Dh (aj (au 0) cj))) (lrS all l (sl (Ea q)) b sto)=some (.next,lrS all l (sl (Ea q)) (sl (paT (q.1.map fun p:Nat=>num (p:Int)))) sto):=ys P rfl;have lp:=a8z hq.ok hq.le2
  have J:yp (.str ",") (paT (q.1.map fun p:Nat=>num (p:Int)))=some (.str (plS q.1)):=El (s:=1) (n:=401) (vd "," 1) (fun w hw=>by
   obtain ⟨p,hp,rfl⟩:=iN.mp hw;exact Cv (hq.ok p hp)) (by have:=hq.le2; rw [hZ]; omega)
  have l1:=(vd " " 1).app lp;have l2:=l1.app (vd "*" 1)
  have S2:n6 1 (mOp uo (mOp uo (mOp uo (ak (.str " ")) (mOp yp (ak (.str ",")) (au 3))) (ak (.str "*"))) (gq Dh (aj (mOp dw (au 2) (mUn Ey (ak (.int 1)))) cj))) (lrS all l (sl (Ea q)) (sl (paT (q.1.map fun p:Nat=>num (p:Int)))) sto)=some (.next,lrS all (l++[" " ++ wdI q]) (sl (Ea q)) (sl (paT (q.1.map fun p:Nat=>num (p:Int)))) sto):=by
   refine za (t:=.str (" " ++ wdI q)) (zo (zo (zo rfl (zo rfl rfl J) (wj (vd " " 1) lp (by decide))) rfl (wj l1 (vd "*" 1) (by decide))) (zm (zc (zo rfl rfl Vi) rfl) (Gj hq.ot)) ?_) rfl (by rw [hZ]; rw [iA] at hl; show _<1000000; omega) rfl (by
    show (⟨[sl (.tup (all.map Ea)),some (.lst (l.map T.str++[T.str (" " ++ wdI q)]),true),_,_],sto⟩:Sta)=_;rw [show l.map T.str++[T.str (" " ++ wdI q)]=(l++[" " ++ wdI q]).map T.str by simp])
   rw [wj l2 (Sw hq.ot) (by decide),afw]
  obtain ⟨a',b',ih⟩:=a0i its (l++[" " ++ wdI q]) (sl (Ea q)) (sl (paT (q.1.map fun p:Nat=>num (p:Int)))) (fun x hx=>h x (ij _ hx)) (by rw [il,iP]; rw [iA] at hl; omega);refine ⟨a',b',fnx rfl (zq S1 S2) (ih.trans ?_)⟩;rw [jR]; rfl
abbrev a2n (its:List It):Str:=Str.join "" (its.map fun q => " " ++ wdI q)
theorem a8h {kind:Bool} {its:List It} (h:∀ q∈its,Ww kind q) (hl:its.length<=10):Ln (a2n its) 12070:=by
 have:=Hs (sep := "") (s:=0) (n:=1207) (vd "" 0) (l:=its.map fun q => " " ++ wdI q) (fun w hw=>by
  obtain ⟨q,hq,rfl⟩:=iN.mp hw;exact (vd " " 1).app (h q hq).ln)
 rw [hZ] at this;exact this.mono (by omega)
theorem V0 {kind:Bool} {its:List It} (h:∀ q∈its,Ww kind q) (hl:its.length<=10):Er [.tup (its.map Ea)] sto=some (.str (a2n its),sto):=by
 obtain ⟨a',b',L⟩:=a0i (sto:=sto) (all:=its) its [] none none h (by rw [kI]; omega);have A:sNew 1 (gq (fun l=>some (.lst l)) cj) ⟨[sl (.tup (its.map Ea)),none,none,none],sto⟩=some (.next,lrS its [] none none sto):=yn rfl rfl
 have J:yp (.str "") (paT (its.map fun q => " " ++ wdI q))=some (.str (a2n its)):=El (s:=0) (n:=1207) (vd "" 0) (fun w hw=>by
  obtain ⟨q,hq,rfl⟩:=iN.mp hw;exact (vd " " 1).app (h q hq).ln) (by rw [hZ]; omega)
 rw [lC] at L;exact zrun (zq A (zq (Iv (abm (f:=Ea) (k:=its) rfl (by show _<1000000; omega)) L) (zr (zo rfl rfl J)))) rfl
end K
end
section
namespace K
open C PySem
variable {sto:List SO}
abbrev llS (t:T) (a b c:C.Slot) (sto:List SO):Sta:=⟨[sl t,a,b,c],sto⟩
theorem or_eq (i m:Nat):("or " : Str)++num (i:Int) ++ " " ++ num (m:Int)=orR i m:=Dj (by
 unfold orR;rw [Rc];simp only [m7,List.flatMap_cons,List.flatMap_nil,T4,List.append_nil];rw [show cs "or " = cs "or" ++ [32] by decide +kernel];simp)
theorem a3f (b:Str) (v:Int):("cut " : Str)++b ++ " " ++ num v=Jb b v:=Dj (by
 unfold Jb;rw [Rc];simp only [m7,List.flatMap_cons,List.flatMap_nil,T4,List.append_nil];rw [show cs "cut " = cs "cut" ++ [32] by decide +kernel];simp)
theorem a3l (its:List It):("sum" : Str)++a2n its=Ld its:=by
 unfold a2n Ld;rw [<- ab0,ko]; rfl
theorem rest_eq (d:Nat) (its:List It):("rest " : Str)++num (d:Int)++a2n its=Ph d its:=Dj (by
 unfold a2n Ph;rw [Rc,m7,m7,a1y,iR,mX,mX];rw [show (fun q:It=>cs (" " ++ wdI q))=fun q=>32::cs (wdI q) from funext fun w=>by rw [m7,T4]; rfl];rw [show cs "rest " = cs "rest" ++ [32] by decide +kernel];simp)
abbrev loB (n:Nat):S:=nq 2 (mOp uo (au 2) (f9 (jf n) (aj (au 3) cj)))
theorem a1n {n:Nat} {t0:T} {a:C.Slot}:∀ (cs:St) (l:List Str) (c:C.Slot),(∀ y∈cs,∀ sto,jf n [y.2] sto=some (paT y.1,sto))->l.length+(cs.flatMap (·.1)).length<100000->∃ c',forL (hName 3) (loB n) (cs.map (·.2)) (llS t0 a (sl (paT l)) c sto)=some (.next,llS t0 a (sl (paT (l++cs.flatMap (·.1)))) c' sto)
 | [],l,c,_,_=>⟨c,by rw [jK,jX,iU]; exact fnil⟩
 | y::cs,l,c,h,hl=>by
  rw [iR,il] at hl;obtain ⟨c',ih⟩:=a1n cs (l++y.1) (sl y.2) (fun z hz=>h z (ij _ hz)) (by rw [il]; omega);refine ⟨c',fnx rfl (ys (zo rfl (zf0 (zc rfl rfl) (h y ie sto)) (add_l (by show _<1000000; omega))) rfl) (ih.trans ?_)⟩;rw [iR,jR]
theorem a1h {e n:Nat} {t:T} {l:List Str} (h:GP e n t l):∀ (f:Nat),n<f->l.length<10000->∀ sto,jf f [t] sto=some (paT l,sto):=by
 induction h with
 | @sum e n its h hl ln =>
  intro f hf _ sto;obtain ⟨f,rfl⟩:∃ g,f=g+1:=⟨f - 1,by omega⟩;rw [jf];have g1:=qu (s:=llS (Oc its) none none none sto) rfl rfl Ac Ac;rw [jb] at g1;have R:=V0 (sto:=sto) h hl;exact zrun (zqr (zk g1 (zr (zm (zc (zo rfl (zf0 (zc (zo rfl rfl rfl) rfl) R) (by rw [wj (vd "sum" 3) (a8h h hl) (by decide),a3l])) rfl) rfl)))) rfl
 | @rest e n d its hd h2 h hl ln =>
  intro f hf _ sto;obtain ⟨f,rfl⟩:∃ g,f=g+1:=⟨f - 1,by omega⟩;rw [jf];have g1:=qu (s:=llS (Ii d its) none none none sto) rfl rfl vo Ac;have g2:=qu (s:=llS (Ii d its) none none none sto) rfl rfl vo vo;rw [M5] at g1;rw [jb] at g2;have R:=V0 (sto:=sto) h hl;have l1:=(vd "rest " 5).app (Cv hd);exact zrun (zq (ze g1 rfl) (zqr (zk g2 (zr (zm (zc (zo (zo rfl (zm (zc (zo rfl rfl rfl) rfl) (Bu hd)) (wj (vd "rest " 5) (Cv hd) (by decide))) (zf0 (zc (zo rfl rfl rfl) rfl) R) (by rw [wj l1 (a8h h hl) (by decide),rest_eq])) rfl) rfl))))) rfl
 | @cut e n t1 t2 l1 l2 b v hb hs bl hp hv ln h1 h2 i1 i2 =>
  intro f hf hL sto;obtain ⟨f,rfl⟩:∃ g,f=g+1:=⟨f - 1,by omega⟩;rw [jf];rw [iA,il] at hL;have g1:=qu (s:=llS (Rr b v t1 t2) none none none sto) rfl rfl uf Ac;have g2:=qu (s:=llS (Rr b v t1 t2) none none none sto) rfl rfl uf vo;have g3:=qu (s:=llS (Rr b v t1 t2) none none none sto) rfl rfl uf uf;rw [a09] at g1;rw [Xy] at g2;rw [jb] at g3;have bl:=a7f ln;have q1:=(vd "cut " 4).app bl;have q2:=q1.app (vd " " 1)
  have A:nq 1 (gq (fun l=>some (.lst l)) (aj (mOp uo (mOp uo (mOp uo (ak (.str "cut ")) (mOp dw (au 0) (ak (.int 1)))) (ak (.str " "))) (gq Dh (aj (mOp dw (au 0) (ak (.int 2))) cj))) cj)) (llS (Rr b v t1 t2) none none none sto)=some (.next,llS (Rr b v t1 t2) (sl (paT [Jb b v])) none none sto):=by
   refine ys (zm (zc (t:=.str (Jb b v)) (zo (zo (zo rfl (zo rfl rfl rfl) (wj (vd "cut " 4) bl (by decide))) rfl (wj q1 (vd " " 1) (by decide))) (zm (zc (zo rfl rfl rfl) rfl) (Gj hv)) ?_) rfl) rfl) rfl;rw [wj q2 (Sw hv) (by decide),a3f]
  exact zrun (zq (ze g1 rfl) (zq (ze g2 rfl) (zqr (zk g3 (zq A (zr (zo (zo rfl (zf0 (zc (zo rfl rfl rfl) rfl) (i1 f (by omega) (by omega) sto)) (add_l (a:=[Jb b v]) (by rw [iP]; show _<1000000; omega))) (zf0 (zc (zo rfl rfl rfl) rfl) (i2 f (by omega) (by omega) sto)) (add_l (a:=[Jb b v]++l1) (by rw [il,iP]; show _<1000000; omega))))))))) rfl
 | @orr e n i cs hi hm ln h ih =>
  intro f hf hL sto;obtain ⟨f,rfl⟩:∃ g,f=g+1:=⟨f - 1,by omega⟩;rw [jf];rw [iA] at hL;have g1:=qu (s:=llS (tOr i (cs.map (·.2))) none none none sto) rfl rfl Al Ac;have g2:=qu (s:=llS (tOr i (cs.map (·.2))) none none none sto) rfl rfl Al vo;have g3:=qu (s:=llS (tOr i (cs.map (·.2))) none none none sto) rfl rfl Al uf;rw [a5q] at g1;rw [a0p] at g2;rw [a6q] at g3;have q1:=(vd "or " 3).app (Cv hi);have q2:=q1.app (vd " " 1)
  have A:nq 2 (gq (fun l=>some (.lst l)) (aj (mOp uo (mOp uo (mOp uo (ak (.str "or ")) (gq Dh (aj (mOp dw (au 0) (ak (.int 1))) cj))) (ak (.str " "))) (gq Dh (aj (gq Ax (aj (mOp dw (au 0) (ak (.int 2))) cj)) cj))) cj)) (llS (tOr i (cs.map (·.2))) none none none sto)=some (.next,llS (tOr i (cs.map (·.2))) none (sl (paT [orR i cs.length])) none sto):=by
   refine ys (zm (zc (t:=.str (orR i cs.length)) (zo (zo (zo rfl (zm (zc (zo rfl rfl rfl) rfl) (Bu hi)) (wj (vd "or " 3) (Cv hi) (by decide))) rfl (wj q1 (vd " " 1) (by decide))) (zm (zc (zm (zc (zo rfl rfl rfl) rfl) rfl) rfl) (u:=.str (num (cs.length:Int))) ?_) ?_) rfl) rfl) rfl
   ·rw [hZ]; exact Bu (yx hm)
   ·rw [wj q2 (Cv (yx hm)) (by decide),or_eq]
  have len:∀ y∈cs,y.1.length<=(cs.flatMap (·.1)).length:=fun y hy=>by
   obtain ⟨a,b,rfl⟩:=List.append_of_mem hy;rw [List.flatMap_append,iR,il,il]; omega
  obtain ⟨c',L⟩:=a1n (sto:=sto) (n:=f) (t0:=tOr i (cs.map (·.2))) (a:=none) cs [orR i cs.length] none (fun y hy=>ih y hy f (by omega) (by have:=len y hy; omega)) (by rw [iP]; omega);exact zrun (zq (ze g1 rfl) (zq (ze g2 rfl) (zq (ze g3 rfl) (zq A (zq (Iv (abm (f:=(·.2)) (k:=cs) (zo rfl rfl rfl) (by show _<1000000; omega)) L) (zr rfl)))))) rfl
end K
end
section
namespace K
open C PySem
variable {sto:List SO}
structure Gd (t:T) (r:Str):Prop where
 ex:∃ zs:List (T × Str),t=.tup (zs.map (·.1))/\r=Str.join " " (zs.map (·.2))/\zs.length<=4/\∀ z∈zs,Dh [z.1]=some (.str z.2)/\Ln z.2 200
 du:yg (ws r)=some t
 ln:Ln r 900
 pl:Pl 1 t
abbrev Et:=(T × Str) × (T × List Str)
def etT (y:Et):T:=.tup [y.1.1,y.2.1]
def etR (y:Et):List Str:=y.1.2::y.2.2
structure GE (y:Et):Prop where
 d:Gd y.1.1 y.1.2
 p:∃ e n,GP e n y.2.1 y.2.2/\e<=90/\n<=100
 l:y.2.2.length<=200
theorem GE.rows {y:Et} (h:GE y):∀ r∈etR y,Ln r 900:=by
 obtain ⟨e,n,g,_⟩:=h.p;intro r hr;rcases ir.mp hr with rfl | hr
 ·exact h.d.ln
 ·exact g.ln r hr
theorem GE.run {y:Et} (h:GE y) (acc:List T):runM (.idle acc) (etR y)=.inl (.idle (acc++[etT y])):=by
 obtain ⟨e,n,g,he,_⟩:=h.p;exact a6r h.d.du g.pap he
theorem a01:∀ (ys:List Et) (acc:List T),(∀ y∈ys,GE y)->runM (.idle acc) (ys.flatMap etR)=.inl (.idle (acc++ys.map etT))
 | [],acc,_=>by rw [jX,jK,iU]; rfl
 | y::ys,acc,h=>by
  rw [iR,Jh ((h y ie).run acc),a01 ys _ fun z hz=>h z (ij _ hz),jR]; rfl
theorem all_rows {ys:List Et} (h:∀ y∈ys,GE y):∀ r∈ys.flatMap etR,Ln r 900:=fun r hr=>by
 obtain ⟨y,hy,hr⟩:=List.mem_flatMap.mp hr;exact (h y hy).rows r hr
theorem Ij:∀ {ys:List Et},(∀ y∈ys,GE y)->(ys.flatMap etR).length<=ys.length * 201
 | [],_=>iZ _
 | y::ys,h=>by
  have h1:=(h y ie).l;have h2:=Ij fun z hz=>h z (ij _ hz);rw [iR,il,iA];have:(etR y).length=y.2.2.length+1:=rfl;omega
theorem Qf {t:T} {r:Str} (h:Gd t r) {s:Sta} {m:M T} (hm:m s=some (t,s)):mOp yp (ak (.str " ")) (qm 1 [] (hName 0) (Bg m) p7 (gq Dh (aj (au 0) cj))) s=some (.str r,s):=by
 obtain ⟨zs,rfl,rfl,hl,hz⟩:=h.ex
 have e:=Bm (fun z:T × Str=>z.1) (fun z:T × Str=>T.str z.2) zs (g:=hName 0) (nv:=1) (ci:=[]) (c:=p7) (it:=Bg m) (e:=gq Dh (aj (au 0) cj)) (s:=s) (s1:=s) _ [] (abm hm (by show _<1000000; omega)) rfl rfl rfl (by show _<=1000000; omega) (by
  intro q hq pre aF
  obtain ⟨a,rfl⟩:∃ a,pre=[a]:=by
   match pre,aF with
   | [a],_=>exact ⟨a,rfl⟩
  exact ⟨[some (q.1,false)],rfl,rfl,rfl,zm (zc rfl rfl) (hz q hq).1⟩)
 refine zo rfl e ?_
 have J:yp (.str " ") (paT (zs.map (·.2)))=some (.str (Str.join " " (zs.map (·.2)))):=El (s:=1) (n:=200) (vd " " 1) (fun w hw=>by
  obtain ⟨q,hq,rfl⟩:=iN.mp hw;exact (hz q hq).2) (by rw [hZ]; omega)
 unfold paT at J;rw [ko] at J;exact J
theorem a3c {t:T} {r:Str} (h:Gd t r):Bq [t] sto=some (.str r,sto):=zrun (zr (Qf h (s:=⟨[sl t],sto⟩) (m:=au 0) rfl)) rfl
abbrev spS (L:T) (l:List Str) (a b:C.Slot) (sto:List SO):Sta:=⟨[sl L,some (paT l,true),a,b],sto⟩
abbrev spB:S:=nj (n6 1 (f9 Bq (aj (au 2) cj))) (Ai 1 (f9 Aa (aj (au 3) cj)))
theorem Yw (l:List Str) (x:Str):l.map T.str++[T.str x]=(l++[x]).map T.str:=by simp
theorem a0g {L:T}:∀ (ys:List Et) (l:List Str) (a b:C.Slot),(∀ y∈ys,GE y)->l.length+ys.length * 201<10000->∃ a' b',forL (a81 [2,3]) spB (ys.map etT) (spS L l a b sto)=some (.next,spS L (l++ys.flatMap etR) a' b' sto)
 | [],l,a,b,_,_=>⟨a,b,by rw [jK,jX,iU]; exact fnil⟩
 | y::ys,l,a,b,h,hl=>by
  have hy:=h y ie;obtain ⟨e,n,g,_⟩:=hy.p;have ly:=hy.l;rw [iA] at hl
  have A:n6 1 (f9 Bq (aj (au 2) cj)) (spS L l (sl y.1.1) (sl y.2.1) sto)=some (.next,spS L (l++[y.1.2]) (sl y.1.1) (sl y.2.1) sto) :=
   za (zf0 (zc rfl rfl) (a3c hy.d)) rfl (by rw [hZ]; show _<1000000; omega) rfl (by
    show (⟨[sl L,some (.lst (l.map T.str++[.str y.1.2]),true),_,_],sto⟩:Sta)=_;rw [Yw])
  have E:Ai 1 (f9 Aa (aj (au 3) cj)) (spS L (l++[y.1.2]) (sl y.1.1) (sl y.2.1) sto)=some (.next,spS L (l++etR y) (sl y.1.1) (sl y.2.1) sto) :=
   zex (zs:=y.2.2.map T.str) (t:=paT y.2.2) (zf0 (zc rfl rfl) (Nu g (by omega))) rfl rfl (by rw [hZ,hZ,il,iP]; show _<1000000; omega) rfl (by
    show (⟨[sl L,some (.lst ((l++[y.1.2]).map T.str++y.2.2.map T.str),true),_,_],sto⟩:Sta)=_;rw [show (l++[y.1.2]).map T.str++y.2.2.map T.str=(l++etR y).map T.str by unfold etR; simp])
  obtain ⟨a',b',ih⟩:=a0g (L:=L) ys (l++etR y) (sl y.1.1) (sl y.2.1) (fun z hz=>h z (ij _ hz)) (by rw [il]; have:(etR y).length=y.2.2.length+1:=rfl; omega);refine ⟨a',b',fnx (s1:=spS L l (sl y.1.1) (sl y.2.1) sto) rfl (zq A E) (ih.trans ?_)⟩;rw [iR,jR]
theorem adh {α:Type} {a:M T} {s s1:Sta} {f:α->T} {k:List α} (h:a s=some (.lst (k.map f),s1)) (hl:k.length<lim):Bg a s=some (k.map f,s1):=by
 unfold Bg; rw [h]; dsimp only; rw [hZ,hU hl]
theorem Ub {ys:List Et} (h:∀ y∈ys,GE y) (hl:ys.length<=4):Ba [.lst (ys.map etT)] sto=some (.str (txt (ys.flatMap etR)),sto):=by
 obtain ⟨a',b',L⟩:=a0g (sto:=sto) (L:=.lst (ys.map etT)) ys [] none none h (by rw [kI]; omega);have A:sNew 1 (gq (fun l=>some (.lst l)) cj) ⟨[sl (.lst (ys.map etT)),none,none,none],sto⟩=some (.next,spS (.lst (ys.map etT)) [] none none sto):=yn rfl rfl;rw [lC] at L;exact zrun (zq A (zq (Iv (adh (f:=etT) (k:=ys) rfl (by show _<1000000; omega)) L) (zr (zo rfl rfl (a7x (all_rows h) (by have:=Ij h; omega)))))) rfl
abbrev ltB:S:=nj (n6 1 (mOp yp (ak (.str " ")) (qm 1 [] (hName 0) (Bg (au 2)) p7 (gq Dh (aj (au 0) cj)))))
 (sNew 1 (Fw 1 (f9 (jf 110) (aj (au 3) cj))))
theorem Zi {L:T}:∀ (ys:List Et) (l:List Str) (a b:C.Slot),(∀ y∈ys,GE y)->l.length+ys.length * 201<10000->∃ a' b',forL (a81 [2,3]) ltB (ys.map etT) (spS L l a b sto)=some (.next,spS L (l++ys.flatMap etR) a' b' sto)
 | [],l,a,b,_,_=>⟨a,b,by rw [jK,jX,iU]; exact fnil⟩
 | y::ys,l,a,b,h,hl=>by
  have hy:=h y ie;obtain ⟨e,n,g,_,hn⟩:=hy.p;have ly:=hy.l;rw [iA] at hl
  have A:n6 1 (mOp yp (ak (.str " ")) (qm 1 [] (hName 0) (Bg (au 2)) p7 (gq Dh (aj (au 0) cj)))) (spS L l (sl y.1.1) (sl y.2.1) sto)=some (.next,spS L (l++[y.1.2]) (sl y.1.1) (sl y.2.1) sto) :=
   za (Qf hy.d rfl) rfl (by rw [hZ]; show _<1000000; omega) rfl (by
    show (⟨[sl L,some (.lst (l.map T.str++[.str y.1.2]),true),_,_],sto⟩:Sta)=_;rw [Yw])
  have E:sNew 1 (Fw 1 (f9 (jf 110) (aj (au 3) cj))) (spS L (l++[y.1.2]) (sl y.1.1) (sl y.2.1) sto)=some (.next,spS L (l++etR y) (sl y.1.1) (sl y.2.1) sto):=by
   refine yn (t:=paT (l++etR y)) (s1:=spS L (l++[y.1.2]) (sl y.1.1) (sl y.2.1) sto) ?_ rfl;have hc:f9 (jf 110) (aj (au 3) cj) (spS L (l++[y.1.2]) (sl y.1.1) (sl y.2.1) sto)=some (paT y.2.2,spS L (l++[y.1.2]) (sl y.1.1) (sl y.2.1) sto):=zf0 (zc rfl rfl) (a1h g 110 (by omega) (by omega) sto);unfold Fw;rw [hU (show Az 1 (spS L (l++[y.1.2]) (sl y.1.1) (sl y.2.1) sto)=true from rfl),hc];dsimp only [List.getElem?_cons_succ,List.getElem?_cons_zero];rw [hU (by rw [hZ,hZ,il,iP]; show _<1000000; omega)];rw [show (l++[y.1.2]).map T.str++y.2.2.map T.str=(l++etR y).map T.str by unfold etR; simp]
  obtain ⟨a',b',ih⟩:=Zi (L:=L) ys (l++etR y) (sl y.1.1) (sl y.2.1) (fun z hz=>h z (ij _ hz)) (by rw [il]; have:(etR y).length=y.2.2.length+1:=rfl; omega);refine ⟨a',b',fnx (s1:=spS L l (sl y.1.1) (sl y.2.1) sto) rfl (zq A E) (ih.trans ?_)⟩;rw [iR,jR]
theorem Vt {ys:List Et} (h:∀ y∈ys,GE y) (hl:ys.length<=4):Bf [.lst (ys.map etT)] sto=some (.str (txt (ys.flatMap etR)),sto):=by
 obtain ⟨a',b',L⟩:=Zi (sto:=sto) (L:=.lst (ys.map etT)) ys [] none none h (by rw [kI]; omega);have A:sNew 1 (gq (fun l=>some (.lst l)) cj) ⟨[sl (.lst (ys.map etT)),none,none,none],sto⟩=some (.next,spS (.lst (ys.map etT)) [] none none sto):=yn rfl rfl;rw [lC] at L;exact zrun (zq A (zq (Iv (adh (f:=etT) (k:=ys) rfl (by show _<1000000; omega)) L) (zr (zo rfl rfl (a7x (all_rows h) (by have:=Ij h; omega)))))) rfl
end K
end
section
namespace K
open C PySem
variable {cR cN:Nat} {sto:List SO}
theorem Qj {n:Nat} {t:T} (h:∃ d,dat t=some d/\d.depth<=n) (hn:n<=150):aac t t=some true:=by
 obtain ⟨d,e,hd⟩:=h;unfold aac;rw [e];dsimp only;rw [hU (by omega),Wd d (yu _ e)]
theorem a5v {n:Nat} {t:T} (h:∃ d,dat t=some d/\d.depth<=n) (hn:n<=150):eqZ t t=some (.bl true):=by unfold eqZ; rw [Qj h hn]; rfl
theorem Vp {n:Nat} {t:T} (h:∃ d,dat t=some d/\d.depth<=n) (hn:n<=150):neZ t t=some (.bl false):=by unfold neZ; rw [Qj h hn]; rfl
theorem a2m {n:Nat} {l:List T} (h:∀ t∈l,Pl n t):∃ d,dat (.lst l)=some d/\d.depth<=n+2:=by
 obtain ⟨ds,e,hd⟩:=Uc fun t ht=>(h t ht).dat;exact ⟨.list ds,by rw [C.dat,e]; rfl,by rw [PyData.depth]; omega⟩
theorem Vf:∀ l:List T,a5p l l=l.map fun t=>.tup [t,t]
 | []=>rfl
 | t::l=>by
  have:=Vf l;unfold a5p at this ⊢;rw [List.zip_cons_cons,iL,this]; rfl
theorem ag1 {α:Type} (l:List α):a9r [.lst (l.map fun _=>T.bl true)]=some (.bl true):=by
 rw [abo.1]; simp
abbrev alS (t:T) (sto:List SO):Sta:=⟨[sl t,sl t],sto⟩
theorem alike {n:Nat} {t:T} (h:Pl n t):∀ (f:Nat),n<f->∀ sto,mq f [t,t] sto=some (.bl true,sto):=by
 induction h with
 | @tup n l hl h ih =>
  intro f hf sto;obtain ⟨f,rfl⟩:∃ g,f=g+1:=⟨f - 1,by omega⟩;rw [mq];have it:cu (gq isTup (aj (au 1) cj)) (alS (.tup l) sto)=some (true,alS (.tup l) sto):=zt (zm (zc rfl rfl) (by simp [isTup]));have i0:Mi (cu (gq isTup (aj (au 0) cj))) (alS (.tup l) sto)=some (false,alS (.tup l) sto):=a86 (k:=true) (zt (zm (zc rfl rfl) (by simp [isTup])));have ne:cu (mOp neO (gq Ax (aj (au 0) cj)) (gq Ax (aj (au 1) cj))) (alS (.tup l) sto)=some (false,alS (.tup l) sto):=zt (zo (zm (zc rfl rfl) rfl) (zm (zc rfl rfl) rfl) (by rw [a2q]; simp))
  have z:a79 (au 0) (au 1) (alS (.tup l) sto)=some (l.map fun t=>.tup [t,t],alS (.tup l) sto):=by
   have:a79 (au 0) (au 1) (alS (.tup l) sto)=if l.length<lim/\l.length<lim then some (a5p l l,alS (.tup l) sto) else none:=rfl;rw [this,hU ⟨show _<1000000 by omega,show _<1000000 by omega⟩,Vf]
  have c:=Bm (fun t:T=>T.tup [t,t]) (fun _=>T.bl true) l (g:=a81 [0,1]) (nv:=2) (ci:=[]) (c:=p7) (it:=a79 (au 0) (au 1)) (e:=f9 (mq f) (aj (au 0) (aj (au 1) cj))) (s:=alS (.tup l) sto) (s1:=alS (.tup l) sto) _ []
   z rfl rfl rfl (by show _<=1000000; omega) (by
    intro t ht pre aF
    obtain ⟨a,b,rfl⟩:∃ a b,pre=[a,b]:=by
     match pre,aF with
     | [a,b],_=>exact ⟨a,b,rfl⟩
    exact ⟨[sl t,sl t],rfl,rfl,rfl,zf0 (s1:=⟨[sl t,sl t],sto⟩) (zc rfl (zc rfl rfl)) (ih t ht f (by omega) sto)⟩)
  exact zrun (zqr (zk it (zq (ze (a7v i0 ne) rfl) (zr (zm (zc c rfl) (ag1 _)))))) rfl
 | str x ok =>
  intro f hf sto;obtain ⟨f,rfl⟩:∃ g,f=g+1:=⟨f - 1,by omega⟩;rw [mq];have it:cu (gq isTup (aj (au 1) cj)) (alS (.str x) sto)=some (false,alS (.str x) sto):=zt (zm (zc rfl rfl) (by simp [isTup]));have is:cu (gq isStr (aj (au 1) cj)) (alS (.str x) sto)=some (true,alS (.str x) sto):=zt (zm (zc rfl rfl) rfl);have gr:cu (gq isStr (aj (au 0) cj)) (alS (.str x) sto)=some (true,alS (.str x) sto):=zt (zm (zc rfl rfl) rfl);have eq:cu (mOp eqO (au 0) (au 1)) (alS (.str x) sto)=some (true,alS (.str x) sto):=zt (zo rfl rfl (by rw [qx ok ok]; simp));exact zrun (zq (ze it rfl) (zqr (zk is (zr (zb (adg gr eq)))))) rfl
 | int i =>
  intro f hf sto;obtain ⟨f,rfl⟩:∃ g,f=g+1:=⟨f - 1,by omega⟩;rw [mq];have it:cu (gq isTup (aj (au 1) cj)) (alS (.int i) sto)=some (false,alS (.int i) sto):=zt (zm (zc rfl rfl) (by simp [isTup]));have is:cu (gq isStr (aj (au 1) cj)) (alS (.int i) sto)=some (false,alS (.int i) sto):=zt (zm (zc rfl rfl) rfl);have ii:cu (gq isInt (aj (au 0) cj)) (alS (.int i) sto)=some (true,alS (.int i) sto):=zt (zm (zc rfl rfl) rfl);have ib:cu (yd (Mi (cu (gq adt (aj (au 0) cj))))) (alS (.int i) sto)=some (true,alS (.int i) sto):=zt (zb (a86 (k:=false) (zt (zm (zc rfl rfl) rfl))));have eq:cu (mOp eqO (au 0) (au 1)) (alS (.int i) sto)=some (true,alS (.int i) sto):=zt (zo rfl rfl (by rw [wu]; simp));exact zrun (zq (ze it rfl) (zq (ze is rfl) (zr (zb (adg ii (zt (zb (adg ib eq)))))))) rfl
theorem GE.pl {y:Et} (h:GE y):Pl 101 (etT y):=by
 obtain ⟨e,n,g,_,hn⟩:=h.p;refine .tup _ (by simp) fun t ht=>?_;simp only [List.mem_cons,List.not_mem_nil,or_false] at ht;rcases ht with rfl | rfl
 ·exact h.d.pl.mono (by omega)
 ·exact g.pl.mono hn
theorem a7j {ys:List Et} (h:∀ y∈ys,GE y):∀ t∈ys.map etT,Pl 101 t:=fun t ht=>by
 obtain ⟨y,hy,rfl⟩:=iN.mp ht;exact (h y hy).pl
theorem Ut {ys:List Et} (h:∀ y∈ys,GE y) (hl:ys.length<=4):Prs (rowsOf (txt (ys.flatMap etR)))/\a2r (txt (ys.flatMap etR))=.inl (ys.map etT):=by
 have R:=all_rows h;have L:(ys.flatMap etR).length<=1000:=by have:=Ij h; omega
 have run:=a01 ys [] h;rw [lC] at run
 by_cases z:ys.flatMap etR=[]
 ·have y0:ys=[]:=by
   cases ys with
   | nil=>rfl
   | cons y ys=>rw [iR] at z; exact absurd z (iV _ _)
  subst y0;have ro:rowsOf (txt ([].flatMap etR))=[]:=by decide +kernel
  refine ⟨by rw [ro]; exact a2g (fun _ h=>(nomatch h)) (by decide),?_⟩;rw [Rb (by rw [ro]; decide),ro];rfl
 ·have ne:=a8r run z;refine ⟨by rw [Nm R ne]; exact a2g R L,a5z R L ne run⟩
theorem Ob {ys:List Et} (h:∀ y∈ys,GE y) (hl:ys.length<=4):∃ ae q,sto.length<=ae.length/\(∀ i,i<sto.length->ae[i]? = sto[i]?)/\ae[q]? = some (.lst (ys.map etT))/\o9 cR cN [.str (txt (ys.flatMap etR))] sto=some (.obj q,ae) :=
 aa8 (Z9 (all_rows h) (by have:=Ij h; omega)) (Ut h hl).1 (Ut h hl).2
abbrev lyS (L:T) (a b c:C.Slot) (sto:List SO):Sta:=⟨[sl L,a,b,c],sto⟩
theorem acq {o:M T} {s s1:Sta} {i:Nat} {xs:List T} (h:o s=some (.obj i,s1)) (hs:s1.sto[i]? = some (.lst xs)):Hy o s=some (.bl true,s1):=by
 unfold Hy; rw [h]; dsimp only; rw [hs]
theorem Zd {o:M T} {s s1:Sta} {i:Nat} {xs:List T} (h:o s=some (.obj i,s1)) (hs:s1.sto[i]? = some (.lst xs)):Bp o s=some (.tup xs,s1):=by
 unfold Bp; rw [h]; dsimp only; rw [hs]
theorem a7y {f:T->T->Option T} {o e:M T} {s s1 s2:Sta} {i:Nat} {xs:List T} {u:T} {b:Bool} (h:o s=some (.obj i,s1)) (he:e s1=some (u,s2)) (hs:s2.sto[i]? = some (.lst xs)) (hf:f (.lst xs) u=some (.bl b)):a7i f o e s=some (.bl b,s2):=by
 unfold a7i; rw [h]; dsimp only; rw [he]; dsimp only; rw [hs]; dsimp only; rw [hf]
theorem Js {es:List Et} (h:∀ y∈es,GE y) (hl:es.length<=4):∃ ae,yw cR cN [.lst (es.map etT)] sto=some (.bl true,ae):=by
 have hp:=a7j h;have hd:=a2m hp;have fw:okS (txt (es.flatMap etR)):=(Z9 (all_rows h) (by have:=Ij h; omega)).okS;have A:nq 1 (gq R7 (aj (au 0) cj)) (lyS (.lst (es.map etT)) none none none sto)=some (.next,lyS (.lst (es.map etT)) (sl (.lst (es.map etT))) none none sto):=ys (zm (zc rfl rfl) rfl) rfl;have B:nq 2 (f9 Bf (aj (au 0) cj)) (lyS (.lst (es.map etT)) (sl (.lst (es.map etT))) none none sto)=some (.next,lyS (.lst (es.map etT)) (sl (.lst (es.map etT))) (sl (.str (txt (es.flatMap etR)))) none sto):=ys (zf0 (zc rfl rfl) (Vt h hl)) rfl;have C1:cu (mOp neO (f9 Ba (aj (au 1) cj)) (au 2)) (lyS (.lst (es.map etT)) (sl (.lst (es.map etT))) (sl (.str (txt (es.flatMap etR)))) none sto)=some (false,lyS (.lst (es.map etT)) (sl (.lst (es.map etT))) (sl (.str (txt (es.flatMap etR)))) none sto):=zt (zo (zf0 (zc rfl rfl) (Ub h hl)) rfl (by rw [Tj fw fw,jb]; rfl));have C2:cu (mOp neZ (au 1) (au 0)) (lyS (.lst (es.map etT)) (sl (.lst (es.map etT))) (sl (.str (txt (es.flatMap etR)))) none sto)=some (false,lyS (.lst (es.map etT)) (sl (.lst (es.map etT))) (sl (.str (txt (es.flatMap etR)))) none sto):=zt (zo rfl rfl (Vp hd (by decide)));obtain ⟨s1,q,_,_,g1,r1⟩:=Ob (cR:=cR) (cN:=cN) (sto:=sto) h hl;have D:nq 3 (f9 (o9 cR cN) (aj (au 2) cj)) (lyS (.lst (es.map etT)) (sl (.lst (es.map etT))) (sl (.str (txt (es.flatMap etR)))) none sto)=some (.next,lyS (.lst (es.map etT)) (sl (.lst (es.map etT))) (sl (.str (txt (es.flatMap etR)))) (sl (.obj q)) s1):=ys (zf (zc rfl rfl) r1) rfl;have E1:Mi (cu (Hy (au 3))) (lyS (.lst (es.map etT)) (sl (.lst (es.map etT))) (sl (.str (txt (es.flatMap etR)))) (sl (.obj q)) s1)=some (false,lyS (.lst (es.map etT)) (sl (.lst (es.map etT))) (sl (.str (txt (es.flatMap etR)))) (sl (.obj q)) s1):=a86 (k:=true) (zt (acq (i:=q) rfl g1));have E2:Mi (cu (f9 (mq 110) (aj (Bp (au 3)) (aj (gq zp (aj (au 0) cj)) cj)))) (lyS (.lst (es.map etT)) (sl (.lst (es.map etT))) (sl (.str (txt (es.flatMap etR)))) (sl (.obj q)) s1)=some (false,lyS (.lst (es.map etT)) (sl (.lst (es.map etT))) (sl (.str (txt (es.flatMap etR)))) (sl (.obj q)) s1):=a86 (k:=true) (zt (zf0 (zc (Zd (i:=q) rfl g1) (zc (zm (zc rfl rfl) rfl) rfl)) (alike (n:=102) (.tup _ (by rw [hZ]; omega) hp) 110 (by decide) s1)))
 have F:Ia 3 (ak (.int 1)) (lyS (.lst (es.map etT)) (sl (.lst (es.map etT))) (sl (.str (txt (es.flatMap etR)))) (sl (.obj q)) s1)=some (.next,lyS (.lst (es.map etT)) (sl (.lst (es.map etT))) (sl (.str (txt (es.flatMap etR)))) (sl (.obj q)) (s1.set q (.lst (es.map etT++[.int 1])))):=by
  unfold Ia;dsimp only [List.getElem?_cons_succ,List.getElem?_cons_zero];rw [g1];dsimp only;rw [show ak (.int 1) (lyS (.lst (es.map etT)) (sl (.lst (es.map etT))) (sl (.str (txt (es.flatMap etR)))) (sl (.obj q)) s1)=some (T.int 1,lyS (.lst (es.map etT)) (sl (.lst (es.map etT))) (sl (.str (txt (es.flatMap etR)))) (sl (.obj q)) s1) from rfl];dsimp only;rw [g1];dsimp only;rw [hU (by rw [hZ]; show _<1000000; omega)]
 obtain ⟨s2,q2,_,_,g2,r2⟩:=Ob (cR:=cR) (cN:=cN) (sto:=s1.set q (.lst (es.map etT++[.int 1]))) h hl;exact ⟨s2,zrun (zq A (zq B (zq (ze (a7v C1 C2) rfl) (zq D (zq (ze (a7v E1 E2) rfl) (zq F (zr (a7y (i:=q2) (zf (zc rfl rfl) r2) rfl g2 (a5v hd (by decide)))))))))) rfl⟩
end K
end
section
namespace K
open C PySem
variable {j:Nat} {sto:List SO}
abbrev nuS (j:Nat) (b:Bool) (o:C.Slot) (sto:List SO):Sta:=⟨[sl (.obj j),sl (.bl b),o],sto⟩
abbrev nuL:M T:=gq (fun l=>some (.lst l)) (aj (ak (.int 20)) (aj (mOp Xg (ak (.int 10)) (ak (.int 9))) (aj (mOp Xg (ak (.int 10)) (ak (.int 12))) cj)))
theorem abp {s:Sta}:nuL s=some (.lst [.int 20,.int ((10:Int) ^ 9),.int ((10:Int) ^ 12)],s):=rfl
theorem a9i {t:Nat} (h:t<3):∃ m:Nat,0<m/\m<=10 ^ 12/\dw (.lst [.int 20,.int ((10:Int) ^ 9),.int ((10:Int) ^ 12)]) (.int (t:Int))=some (.int (m:Int)):=by
 match t,h with
 | 0,_=>exact ⟨20,by decide,by decide,rfl⟩
 | 1,_=>exact ⟨10 ^ 9,by decide,by decide,rfl⟩
 | 2,_=>exact ⟨10 ^ 12,by decide,by decide,rfl⟩
theorem aby {m:Nat} (h:m<=10 ^ 12):okM m:=.inr (kd h (by unfold fdl; decide))
theorem a4v {j m:Nat} {s:Sta} {z:List SO} {l:M (List T)} (h:RL j z) (hl:l s=some ([.obj j,.int (m:Int)],⟨s.env,z⟩)) (h0:0<m) (hm:okM m):∃ (t:Nat) (ae:List SO),t<m/\Kp j z ae/\f9 gn l s=some (.int (t:Int),⟨s.env,ae⟩):=by
 obtain ⟨t,ae,h1,h2,h3⟩:=Yt h h0 hm;exact ⟨t,ae,h1,h2,zf (s1:=⟨s.env,z⟩) hl h3⟩
theorem Om {b:Bool} (h:RL j sto):∃ (x:Int) (ae:List SO),x.natAbs<10 ^ 60/\(b=false->0<=x)/\Kp j sto ae/\jr [.obj j,.bl b] sto=some (.int x,ae):=by
 obtain ⟨t1,s1,l1,k1,c1⟩:=yj (s:=nuS j b none sto) (l:=aj (au 0) (aj (ak (.int 3)) cj)) (m:=3) h rfl (by decide) (Hx (by decide));obtain ⟨m,m0,m1,e1⟩:=a9i l1;obtain ⟨t2,s2,l2,k2,c2⟩:=a4v (s:=nuS j b none sto) (z:=s1) (l:=aj (au 0) (aj (mOp dw nuL (f9 gn (aj (au 0) (aj (ak (.int 3)) cj)))) cj)) (m:=m) k1.rl (zc rfl (zc (zo abp c1 e1) rfl)) m0 (aby m1);have A:nq 2 (f9 gn (aj (au 0) (aj (mOp dw nuL (f9 gn (aj (au 0) (aj (ak (.int 3)) cj)))) cj))) (nuS j b none sto)=some (.next,nuS j b (sl (.int (t2:Int))) s2):=ys c2 rfl;obtain ⟨t3,s3,l3,k3,c3⟩:=yj (s:=nuS j b (sl (.int (t2:Int))) s2) (l:=aj (au 0) (aj (ak (.int 5)) cj)) (m:=5) k2.rl rfl (by decide) (Hx (by decide))
 obtain ⟨n,hn,B⟩:∃ n:Nat,n<10 ^ 60/\sIf (cu (mOp eqO (f9 gn (aj (au 0) (aj (ak (.int 5)) cj))) (ak (.int 0))))
   (nq 2 (mOp uo (mOp Xg (ak (.int 10)) (ak (.int 59))) (au 2))) Ce (nuS j b (sl (.int (t2:Int))) s2)=some (.next,nuS j b (sl (.int (n:Int))) s3):=by
  have C:=zt (zo c3 (b:=ak (.int 0)) rfl wu)
  by_cases z:t3=0
  ·subst z;refine ⟨10 ^ 59+t2,by omega,zk C (ys (t:=.int ((10:Int) ^ 59+(t2:Int))) (zo rfl rfl rfl) ?_)⟩;rw [show ((10:Int) ^ 59+(t2:Int))=((10 ^ 59+t2:Nat):Int) by rw [Int.natCast_add]; rfl];rfl
  ·refine ⟨t2,by omega,ze (C.trans ?_) rfl⟩;rw [iY.mpr (show ((t3:Int))≠0 by omega)]
 obtain ⟨t4,s4,l4,k4,c4⟩:=yj (s:=nuS j b (sl (.int (n:Int))) s3) (l:=aj (au 0) (aj (ak (.int 2)) cj)) (m:=2) k3.rl rfl (by decide) (Hx (by decide));have kk:=(k1.trans k2).trans k3;cases b with
 | false =>
  exact ⟨(n:Int),s3,by rw [iW]; exact hn,fun _=>by omega,kk,zrun (zq A (zq B (zq (ze (ael (zt rfl)) rfl) (zr rfl)))) rfl⟩
 | true =>
  have C:=zt (zo c4 (b:=ak (.int 1)) rfl wu)
  by_cases z:t4=1
  ·subst z;exact ⟨0 - (n:Int),s4,by omega,fun z=>(nomatch z),kk.trans k4,zrun (zq A (zq B (zqr (zk (aau (zt rfl) C) (zr (zo rfl rfl rfl)))))) rfl⟩
  ·rw [iY.mpr (show ((t4:Int))≠1 by omega)] at C;exact ⟨(n:Int),s4,by rw [iW]; exact hn,fun z=>(nomatch z),kk.trans k4,zrun (zq A (zq B (zq (ze (aau (zt rfl) C) rfl) (zr rfl)))) rfl⟩
theorem Lj {s:Sta} {l:M (List T)} (h:RL j s.sto) (hl:l s=some ([.obj j,.bl false],s)):∃ (n:Nat) (ae:List SO),n<10 ^ 60/\Kp j s.sto ae/\f9 jr l s=some (.int (n:Int),⟨s.env,ae⟩):=by
 obtain ⟨x,s1,h1,h2,h3,h4⟩:=Om (b:=false) h;have:=h2 rfl;obtain ⟨n,rfl⟩:∃ n:Nat,x=(n:Int):=⟨x.toNat,by omega⟩;rw [iW] at h1;exact ⟨n,s1,h1,h3,zf hl h4⟩
theorem Hj {n:Nat} (h:n<10 ^ 61):okN n:=Zj (k:=60) h (by decide)
theorem Tq {i:Int} (h:i.natAbs<10 ^ 61):Ln (num i) 62:=a82 (k:=60) h
theorem af9 {ps:List Nat} {t:Int} (h:∀ p∈ps,p<10 ^ 61) (hl:ps.length<=2) (ht:t.natAbs<10 ^ 61):Ln (wdI (ps,t)) 190:=by
 have:=Hs (sep := ",") (s:=1) (n:=62) (vd "," 1) (l:=ps.map fun p:Nat=>num (p:Int)) (fun w hw=>by
  obtain ⟨p,hp,rfl⟩:=iN.mp hw;exact Tq (by rw [iW]; exact h p hp))
 rw [hZ] at this;exact ((this.app (vd "*" 1)).app (Tq ht)).mono (by omega)
structure Wl (kind:Bool) (q:It):Prop where
 ww:Ww kind q
 ln:Ln (wdI q) 190
theorem a9u {kind:Bool} {ps:List Nat} {t:Int} (c8:ps≠[]) (hl:ps.length<=(if kind=true then 2 else 1)) (h:∀ p∈ps,p<10 ^ 61) (ht:t.natAbs<10 ^ 61) (t0:t≠0) (ts:kind=false->1<=t):Wl kind (ps,t) :=
 ⟨⟨c8,hl,fun p hp=>Hj (h p hp),Hj ht,t0,ts⟩,af9 h (ip hl (by split <;> omega)) ht⟩
theorem a6s {k:Bool} (h:RL j sto):∃ (q:It) (ae:List SO),Wl k q/\Kp j sto ae/\u9 [.obj j,.bl k] sto=some (Ea q,ae):=by
 obtain ⟨n,s1,l1,k1,c1⟩:=Lj (s:=nuS j k none sto) (l:=aj (au 0) (aj (ak (.bl false)) cj)) h rfl;have A:nq 2 (mOp uo (ak (.int 1)) (f9 jr (aj (au 0) (aj (ak (.bl false)) cj)))) (nuS j k none sto)=some (.next,nuS j k (sl (.int (1+(n:Int)))) s1):=ys (zo rfl c1 rfl) rfl
 have fin:∀ (v:Int) (s2:List SO),v≠0->v.natAbs<10 ^ 61->(k=false->1<=v)->Kp j sto s2->nj (sIf (Ep (cu (au 1)) (cu (mOp eqO (f9 gn (aj (au 0) (aj (ak (.int 2)) cj))) (ak (.int 1)))))
   (nq 2 (mOp a1a (ak (.int 0)) (au 2))) Ce)
   (Ce) (nuS j k (sl (.int (1+(n:Int)))) s1)=some (.next,nuS j k (sl (.int v)) s2)->True:=fun _ _ _ _ _ _ _=>trivial
 obtain ⟨v,s2,v0,v1,v2,k2,B⟩:∃ (v:Int) (s2:List SO),v≠0/\v.natAbs<10 ^ 61/\(k=false->1<=v)/\Kp j s1 s2/\sIf (Ep (cu (au 1)) (cu (mOp eqO (f9 gn (aj (au 0) (aj (ak (.int 2)) cj))) (ak (.int 1)))))
   (nq 2 (mOp a1a (ak (.int 0)) (au 2))) Ce (nuS j k (sl (.int (1+(n:Int)))) s1)=some (.next,nuS j k (sl (.int v)) s2):=by
  cases k with
  | false=>exact ⟨1+(n:Int),s1,by omega,by omega,fun _=>by omega,Kp.refl k1.rl,ze (ael (zt rfl)) rfl⟩
  | true =>
   obtain ⟨t4,s4,l4,k4,c4⟩:=yj (s:=nuS j true (sl (.int (1+(n:Int)))) s1) (l:=aj (au 0) (aj (ak (.int 2)) cj)) (m:=2) k1.rl rfl (by decide) (Hx (by decide));have C:=zt (zo c4 (b:=ak (.int 1)) rfl wu)
   by_cases z:t4=1
   ·subst z;exact ⟨0 - (1+(n:Int)),s4,by omega,by omega,fun z=>(nomatch z),k4,zk (aau (zt rfl) C) (ys (zo rfl rfl rfl) rfl)⟩
   ·rw [iY.mpr (show ((t4:Int))≠1 by omega)] at C;exact ⟨1+(n:Int),s4,by omega,by omega,fun z=>(nomatch z),k4,ze (aau (zt rfl) C) rfl⟩
 clear fin;cases k with
 | false =>
  obtain ⟨p,s3,lp,k3,c3⟩:=Lj (s:=nuS j false (sl (.int v)) s2) (l:=aj (au 0) (aj (ak (.bl false)) cj)) k2.rl rfl;refine ⟨([p],v),s3,a9u (iV _ _) (by simp) (fun q hq=>by rw [ik.mp hq]; omega) v1 v0 v2,(k1.trans k2).trans k3,?_⟩;exact zrun (zq A (zq B (zq (ze (ael (zt rfl)) rfl) (zr (zm (zc c3 (zc rfl rfl)) rfl))))) rfl
 | true =>
  obtain ⟨t5,s5,l5,k5,c5⟩:=yj (s:=nuS j true (sl (.int v)) s2) (l:=aj (au 0) (aj (ak (.int 2)) cj)) (m:=2) k2.rl rfl (by decide) (Hx (by decide));have C:=zt (zo c5 (b:=ak (.int 1)) rfl wu);obtain ⟨p,s3,lp,k3,c3⟩:=Lj (s:=nuS j true (sl (.int v)) s5) (l:=aj (au 0) (aj (ak (.bl false)) cj)) k5.rl rfl;have kk:=((k1.trans k2).trans k5).trans k3
  by_cases z:t5=1
  ·subst z;obtain ⟨p2,s6,lp2,k6,c6⟩:=Lj (s:=nuS j true (sl (.int v)) s3) (l:=aj (au 0) (aj (ak (.bl false)) cj)) k3.rl rfl;refine ⟨([p,p2],v),s6,a9u (iV _ _) (by simp) (fun q hq=>?_) v1 v0 v2,kk.trans k6,?_⟩
   ·simp only [List.mem_cons,List.not_mem_nil,or_false] at hq;rcases hq with rfl | rfl <;> omega
   ·exact zrun (zq A (zq B (zqr (zk (aau (zt rfl) C) (zr (zm (zc c3 (zc c6 (zc rfl rfl))) rfl)))))) rfl
  ·rw [iY.mpr (show ((t5:Int))≠1 by omega)] at C;refine ⟨([p],v),s3,a9u (iV _ _) (by simp) (fun q hq=>by rw [ik.mp hq]; omega) v1 v0 v2,kk,?_⟩;exact zrun (zq A (zq B (zq (ze (aau (zt rfl) C) rfl) (zr (zm (zc c3 (zc rfl rfl)) rfl))))) rfl
end K
end
section
namespace K
open C PySem
variable {j:Nat} {sto:List SO}
theorem Lh {g:G} {e:M T} {nv:Nat} {aw:List C.Slot} (aO:aw.map Yk=aw) (P:List T->List T->List SO->Prop)
  (H:∀ t r acc sto,P (t::r) acc sto->∀ pre:List C.Slot,pre.length=nv->∃ pre' u ae,pre'.length=nv/\g t ⟨pre++aw,sto⟩=some ⟨pre'++aw,sto⟩/\e ⟨pre'++aw,sto⟩=some (u,⟨pre'++aw,ae⟩)/\P r (acc++[u]) ae) :
  ∀ (ts acc:List T) (pre:List C.Slot) (sto:List SO),pre.length=nv->acc.length+ts.length<=lim->P ts acc sto ->
   ∃ us s',Fl g p7 e ts ⟨pre++aw,sto⟩ acc=some (us,s')/\P [] us s'.sto
 | [],acc,pre,sto,hp,hl,p=>⟨acc,⟨pre++aw,sto⟩,by simp [Fl],p⟩
 | t::r,acc,pre,sto,hp,hl,p=>by
  obtain ⟨pre',u,ae,p1,p2,p3,p4⟩:=H t r acc sto p pre hp;have hlen:acc.length<lim:=by simp only [List.length_cons] at hl; omega
  obtain ⟨us,s',q1,q2⟩:=Lh aO P H r (acc++[u]) (pre'.map Yk) ae (by simpa using p1) (by simp only [List.length_cons,List.length_append,List.length_nil] at hl ⊢; omega) p4;refine ⟨us,s',?_,q2⟩;rw [Fl,p2];dsimp only [p7];rw [p3];dsimp only;rw [hU hlen,jt];dsimp only;rw [jT,aO,q1]
theorem Lq {g:G} {e:M T} {nv:Nat} {ci:List Nat} {it:M (List T)} {s:Sta} (ts:List T) (s1:Sta) (env aw:List C.Slot) (P:List T->List T->List SO->Prop) (hit:it s=some (ts,s1)) (cG:jq ci s1.env=env) (ed:ci.map (fun i=>(env[i]?).getD none)=aw) (aO:aw.map Yk=aw) (hl:ts.length<=lim) (p:P ts [] s1.sto)
  (H:∀ t r acc sto,P (t::r) acc sto->∀ pre:List C.Slot,pre.length=nv->∃ pre' u ae,pre'.length=nv/\g t ⟨pre++aw,sto⟩=some ⟨pre'++aw,sto⟩/\e ⟨pre'++aw,sto⟩=some (u,⟨pre'++aw,ae⟩)/\P r (acc++[u]) ae) :
  ∃ us ae,qm nv ci g it p7 e s=some (.lst us,⟨env,ae⟩)/\P [] us ae:=by
 obtain ⟨us,s',q1,q2⟩:=Lh aO P H ts [] (List.replicate nv none) s1.sto (by simp) (by simpa using hl) p;refine ⟨us,s'.sto,?_,q2⟩;unfold qm;rw [hit];dsimp only;rw [cG,ed,q1]
theorem GP.mono {e n:Nat} {t:T} {l:List Str} (h:GP e n t l):∀ {e' n':Nat},e<=e'->n<=n'->GP e' n' t l:=by
 induction h with
 | @sum e n its h hl ln =>
  intro e' n' he hn;obtain ⟨e',rfl⟩:∃ x,e'=x+1:=⟨e' - 1,by omega⟩;obtain ⟨n',rfl⟩:∃ x,n'=x+3:=⟨n' - 3,by omega⟩;exact .sum its h hl ln
 | @rest e n d its hd h2 h hl ln =>
  intro e' n' he hn;obtain ⟨e',rfl⟩:∃ x,e'=x+1:=⟨e' - 1,by omega⟩;obtain ⟨n',rfl⟩:∃ x,n'=x+3:=⟨n' - 3,by omega⟩;exact .rest d its hd h2 h hl ln
 | @cut e n t1 t2 l1 l2 b v hb hs bl hp hv ln h1 h2 i1 i2 =>
  intro e' n' he hn;obtain ⟨e',rfl⟩:∃ x,e'=x+1:=⟨e' - 1,by omega⟩;obtain ⟨n',rfl⟩:∃ x,n'=x+1:=⟨n' - 1,by omega⟩;exact .cut b v hb hs bl hp hv ln (i1 (by omega) (by omega)) (i2 (by omega) (by omega))
 | @orr e n i cs hi hm ln h ih =>
  intro e' n' he hn;obtain ⟨e',rfl⟩:∃ x,e'=x+1:=⟨e' - 1,by omega⟩;obtain ⟨n',rfl⟩:∃ x,n'=x+2:=⟨n' - 2,by omega⟩;exact .orr i cs hi hm ln fun y hy=>ih y hy (by omega) (by omega)
abbrev ppS (j:Nat) (d:Int) (a b c e:C.Slot) (sto:List SO):Sta:=⟨[sl (.obj j),sl (.int d),a,b,c,e],sto⟩
theorem a2s {k:Bool} {m:Nat} {d:Int} {a b c:C.Slot} (h:RL j sto) (hm:m<4):∃ (its:List It) (ae:List SO),its.length=m/\(∀ q∈its,Wl k q)/\Kp j sto ae /\
  qm 1 [0] (hName 0) (Ad (au 5)) p7 (f9 u9 (aj (au 1) (aj (ak (.bl k)) cj))) (ppS j d a b c (sl (.int (m:Int))) sto)=some (.lst (its.map Ea),ppS j d a b c (sl (.int (m:Int))) ae):=by
 obtain ⟨us,s',q1,its,rfl,q2,q3,q4⟩:=Lq (g:=hName 0) (nv:=1) (ci:=[0]) (it:=Ad (au 5)) (e:=f9 u9 (aj (au 1) (aj (ak (.bl k)) cj))) (s:=ppS j d a b c (sl (.int (m:Int))) sto)
  ((List.range m).map fun (k:Nat)=>T.int (k:Int)) (ppS j d a b c (sl (.int (m:Int))) sto) _ [sl (.obj j)]
  (fun ts acc z=>∃ its:List It,acc=its.map Ea/\its.length+ts.length=m/\(∀ q∈its,Wl k q)/\Kp j sto z)
  (zrg rfl (show m<1000000 by omega)) rfl rfl rfl (by rw [hZ,jH]; show _<=1000000; omega)
  ⟨[],rfl,by rw [hZ,jH]; exact Nat.zero_add _,fun _ h=>(nomatch h),Kp.refl h⟩ (by
   rintro t r acc z ⟨its,rfl,e1,e2,e3⟩ pre aF
   obtain ⟨x,rfl⟩:∃ x,pre=[x]:=by
    match pre,aF with
    | [x],_=>exact ⟨x,rfl⟩
   obtain ⟨q,z',w,kz,c⟩:=a6s (k:=k) e3.rl;refine ⟨[sl t],Ea q,z',rfl,rfl,zf (s1:=⟨[sl t,sl (.obj j)],z⟩) (zc rfl (zc rfl rfl)) c,its++[q],by rw [jT]; rfl,?_,?_,e3.trans kz⟩
   ·rw [il,iP]; rw [iA] at e1; omega
   ·intro p hp;rcases jn.mp hp with hp | hp
    ·exact e2 p hp
    ·rw [ik.mp hp]; exact w)
 exact ⟨its,s',q2,q3,q4,q1⟩
theorem a88 {k:Bool} {its:List It} (h:∀ q∈its,Wl k q) (hl:its.length<4):Ln (a2n its) 600:=by
 have:=Hs (sep := "") (s:=0) (n:=191) (vd "" 0) (l:=its.map fun q => " " ++ wdI q) (fun w hw=>by
  obtain ⟨q,hq,rfl⟩:=iN.mp hw;exact (vd " " 1).app (h q hq).ln)
 rw [hZ] at this;exact this.mono (by omega)
theorem a6z {t:Nat} (h:t<4):∃ b:Str,Xa b=true/\32∉cs b/\Ln b 10/\dw (.lst [.str "x",.str "@b2",.str "a234567z",.str "@x"]) (.int (t:Int))=some (.str b):=by
 match t,h with
 | 0,_=>exact ⟨"x",by decide +kernel,by decide +kernel,vd _ _,rfl⟩
 | 1,_=>exact ⟨"@b2",by decide +kernel,by decide +kernel,vd _ _,rfl⟩
 | 2,_=>exact ⟨"a234567z",by decide +kernel,by decide +kernel,vd _ _,rfl⟩
 | 3,_=>exact ⟨"@x",by decide +kernel,by decide +kernel,vd _ _,rfl⟩
def pw:Nat->Nat
 | 0=>1
 | k+1=>1+3 * pw k
theorem V3 {n:Nat}:∀ {cs:St},(∀ y∈cs,y.1.length<=n)->(cs.flatMap (·.1)).length<=cs.length * n
 | [],_=>iZ _
 | y::cs,h=>by
  have h1:=h y ie;have h2:=V3 fun z hz=>h z (ij _ hz);rw [iR,il,iA,Nat.add_mul,Nat.one_mul];omega
abbrev aeo:S:=nj (nq 5 (f9 gn (aj (au 0) (aj (ak (.int 4)) cj))))
   (nj (sIf (cu (mOp eqO (au 2) (ak (.int 2))))
   (xg (gq (fun l=>some (.tup l)) (aj (ak (.str "rest")) (aj (mOp uo (ak (.int 2)) (f9 jr (aj (au 0) (aj (ak (.bl false)) cj)))) (aj (gq zp (aj (qm 1 [0] (hName 0) (Ad (au 5)) p7 (f9 u9 (aj (au 1) (aj (ak (.bl true)) cj)))) cj)) cj)))))
   Ce)
   (xg (gq (fun l=>some (.tup l)) (aj (ak (.str "sum")) (aj (gq zp (aj (qm 1 [0] (hName 0) (Ad (au 5)) p7 (f9 u9 (aj (au 1) (aj (ak (.bl false)) cj)))) cj)) cj)))))
theorem a1d {way:Nat} {d:Int} (h:RL j sto) {b c e:C.Slot}:∃ (t:T) (r:Str) (s':Sta),Kp j sto s'.sto/\GP 1 3 t [r] /\
  aeo (ppS j d (sl (.int (way:Int))) b c e sto)=some (.ret t,s'):=by
 obtain ⟨m,s1,l1,k1,c1⟩:=yj (s:=ppS j d (sl (.int (way:Int))) b c e sto) (l:=aj (au 0) (aj (ak (.int 4)) cj)) (m:=4) h rfl (by decide) (Hx (by decide));have A:nq 5 (f9 gn (aj (au 0) (aj (ak (.int 4)) cj))) (ppS j d (sl (.int (way:Int))) b c e sto)=some (.next,ppS j d (sl (.int (way:Int))) b c (sl (.int (m:Int))) s1):=ys c1 rfl;have C:cu (mOp eqO (au 2) (ak (.int 2))) (ppS j d (sl (.int (way:Int))) b c (sl (.int (m:Int))) s1)=some (((way:Int)==2),ppS j d (sl (.int (way:Int))) b c (sl (.int (m:Int))) s1):=zt (zo rfl rfl wu)
 by_cases z:way=2
 ·subst z;obtain ⟨n,s2,l2,k2,c2⟩:=Lj (s:=ppS j d (sl (.int ((2:Nat):Int))) b c (sl (.int (m:Int))) s1) (l:=aj (au 0) (aj (ak (.bl false)) cj)) k1.rl rfl;obtain ⟨its,s3,e1,e2,k3,c3⟩:=a2s (k:=true) (d:=d) (a:=sl (.int ((2:Nat):Int))) (b:=b) (c:=c) k2.rl l1;have el:its.length<4:=by omega
  refine ⟨Ii (2+n) its,Ph (2+n) its,_,(k1.trans k2).trans k3,.rest (e:=0) (n:=0) (2+n) its (Hj (by omega)) (by omega) (fun q hq=>(e2 q hq).ww) (by omega) ?_,zq A (zqr (zk C (zr (zm (zc rfl (zc (zo rfl c2 rfl) (zc (zm (zc c3 rfl) rfl) rfl))) ?_))))⟩
  ·rw [<- rest_eq];exact (((vd "rest " 5).app (Tq (by rw [iW]; omega))).app (a88 e2 el)).mono (by decide)
  ·show some (T.tup [.str "rest",.int (2+(n:Int)),.tup (its.map Ea)])=some (T.tup [.str "rest",.int ((2+n:Nat):Int),.tup (its.map Ea)]);rw [show ((2+n:Nat):Int)=2+(n:Int) by omega]
 ·obtain ⟨its,s3,e1,e2,k3,c3⟩:=a2s (k:=false) (d:=d) (a:=sl (.int (way:Int))) (b:=b) (c:=c) k1.rl l1;have el:its.length<4:=by omega
  rw [iY.mpr (show ((way:Int))≠2 by omega)] at C;refine ⟨Oc its,Ld its,_,k1.trans k3,.sum (e:=0) (n:=0) its (fun q hq=>(e2 q hq).ww) (by omega) ?_,zq A (zq (ze C rfl) (zr (zm (zc rfl (zc (zm (zc c3 rfl) rfl) rfl)) rfl)))⟩;rw [<- a3l];exact ((vd "sum" 3).app (a88 e2 el)).mono (by decide)
theorem J5:∀ (k f:Nat) (d:Int) (sto:List SO),d=4 - (k:Int)->k<f->RL j sto->∃ (t:T) (l:List Str) (ae:List SO),Kp j sto ae/\GP (k+1) (3+2 * k) t l/\l.length<=pw k/\kh f [.obj j,.int d] sto=some (t,ae)
 | k,0,d,sto,_,h,_=>absurd h (lQ _)
 | k,f+1,d,sto,hd,hf,hR=>by
  rw [kh];obtain ⟨way,s1,l1,k1,c1⟩:=yj (s:=ppS j d none none none none sto) (l:=aj (au 0) (aj (ak (.int 4)) cj)) (m:=4) hR rfl (by decide) (Hx (by decide));have A:nq 2 (f9 gn (aj (au 0) (aj (ak (.int 4)) cj))) (ppS j d none none none none sto)=some (.next,ppS j d (sl (.int (way:Int))) none none none s1):=ys c1 rfl;have W:∀ (i:Int),cu (mOp eqO (au 2) (ak (.int i))) (ppS j d (sl (.int (way:Int))) none none none s1)=some (((way:Int)==i),ppS j d (sl (.int (way:Int))) none none none s1):=fun i=>zt (zo rfl rfl wu);have L:cu (mOp ltT (au 1) (ak (.int 4))) (ppS j d (sl (.int (way:Int))) none none none s1)=some (decide (d<4),ppS j d (sl (.int (way:Int))) none none none s1):=zt (zo rfl rfl rfl);have C0:=adg (W 0) L;have C1:=adg (W 1) L
  by_cases hk:k=0
  ·subst hk;have d4:decide (d<4)=false:=iC (by omega);rw [d4,Bool.and_false] at C0 C1;obtain ⟨t,r,s',k2,g,R⟩:=a1d (way:=way) (d:=d) (b:=none) (c:=none) (e:=none) k1.rl;exact ⟨t,[r],s'.sto,k1.trans k2,g,ic _,zrun (zq A (zq (ze C0 rfl) (zq (ze C1 rfl) R))) rfl⟩
  ·obtain ⟨k,rfl⟩:∃ x,k=x+1:=⟨k - 1,by omega⟩;have d4:decide (d<4)=true:=iF (by omega);have bS:d+1=4 - (k:Int):=by omega
   rw [d4,Bool.and_true] at C0 C1
   by_cases w0:way=0
   ·subst w0;obtain ⟨i,s2,l2,k2,c2⟩:=Lj (s:=ppS j d (sl (.int ((0:Nat):Int))) none none none s1) (l:=aj (au 0) (aj (ak (.bl false)) cj)) k1.rl rfl;have B:nq 3 (f9 jr (aj (au 0) (aj (ak (.bl false)) cj))) (ppS j d (sl (.int ((0:Nat):Int))) none none none s1)=some (.next,ppS j d (sl (.int ((0:Nat):Int))) (sl (.int (i:Int))) none none s2):=ys c2 rfl;obtain ⟨m,s3,l3,k3,c3⟩:=yj (s:=ppS j d (sl (.int ((0:Nat):Int))) (sl (.int (i:Int))) none none s2) (l:=aj (au 0) (aj (ak (.int 4)) cj)) (m:=4) k2.rl rfl (by decide) (Hx (by decide))
    obtain ⟨us,s4,q1,cs,rfl,q2,q3,q4⟩:=Lq (g:=hName 0) (nv:=1) (ci:=[0,1]) (it:=Ad (f9 gn (aj (au 0) (aj (ak (.int 4)) cj)))) (e:=f9 (kh f) (aj (au 1) (aj (mOp uo (au 2) (ak (.int 1))) cj))) (s:=ppS j d (sl (.int ((0:Nat):Int))) (sl (.int (i:Int))) none none s2)
     ((List.range m).map fun (k:Nat)=>T.int (k:Int)) (ppS j d (sl (.int ((0:Nat):Int))) (sl (.int (i:Int))) none none s3) _ [sl (.obj j),sl (.int d)]
     (fun ts acc z=>∃ cs:St,acc=cs.map (·.2)/\cs.length+ts.length=m/\(∀ y∈cs,GP (k+1) (3+2 * k) y.2 y.1/\y.1.length<=pw k)/\Kp j s3 z)
     (zrg c3 (show m<1000000 by omega)) rfl rfl rfl (by rw [hZ,jH]; show _<=1000000; omega)
     ⟨[],rfl,by rw [hZ,jH]; exact Nat.zero_add _,fun _ h=>(nomatch h),Kp.refl k3.rl⟩ (by
      rintro t r acc z ⟨cs,rfl,e1,e2,e3⟩ pre aF
      obtain ⟨x,rfl⟩:∃ x,pre=[x]:=by
       match pre,aF with
       | [x],_=>exact ⟨x,rfl⟩
      obtain ⟨u,l,z',kz,g,gl,c⟩:=J5 k f (d+1) z bS (by omega) e3.rl;refine ⟨[sl t],u,z',rfl,rfl,zf (s1:=⟨[sl t,sl (.obj j),sl (.int d)],z⟩) (zc rfl (zc (zo rfl rfl rfl) rfl)) c,cs++[(l,u)],by rw [jT]; rfl,?_,?_,e3.trans kz⟩
      ·rw [il,iP]; rw [iA] at e1; omega
      ·intro p hp;rcases jn.mp hp with hp | hp
       ·exact e2 p hp
       ·rw [ik.mp hp]; exact ⟨g,gl⟩)
    rw [kI,Nat.add_zero] at q2;refine ⟨tOr i (cs.map (·.2)),orR i cs.length::cs.flatMap (·.1),s4,((k1.trans k2).trans k3).trans q4,.orr (e:=k+1) (n:=3+2 * k) i cs (Hj (by omega)) (by omega) ?_ fun y hy=>(q3 y hy).1,?_,zrun (zq A (zqr (zk C0 (zq B (zr (zm (zc rfl (zc rfl (zc (zm (zc q1 rfl) rfl) rfl))) rfl)))))) rfl⟩
    ·rw [<- or_eq];exact ((((vd "or " 3).app (Tq (by rw [iW]; omega))).app (vd " " 1)).app (Tq (by rw [iW]; omega))).mono (by decide)
    ·have:=V3 fun y hy=>(q3 y hy).2;have:=Nat.mul_le_mul_right (pw k) (show cs.length<=3 by omega);rw [iA,pw]; omega
   ·rw [iY.mpr (show ((way:Int))≠0 by omega)] at C0
    by_cases w1:way=1
    ·subst w1;obtain ⟨bt,s2,l2,k2,c2⟩:=yj (s:=ppS j d (sl (.int ((1:Nat):Int))) none none none s1) (l:=aj (au 0) (aj (ak (.int 4)) cj)) (m:=4) k1.rl rfl (by decide) (Hx (by decide));obtain ⟨b,b1,b2,b3,b4⟩:=a6z l2;have B:nq 4 (mOp dw (gq (fun l=>some (.lst l)) (Rq ["x","@b2","a234567z","@x"])) (f9 gn (aj (au 0) (aj (ak (.int 4)) cj)))) (ppS j d (sl (.int ((1:Nat):Int))) none none none s1)=some (.next,ppS j d (sl (.int ((1:Nat):Int))) none (sl (.str b)) none s2):=ys (zo rfl c2 b4) rfl;obtain ⟨v,s3,v1,_,k3,c3⟩:=Om (b:=true) k2.rl;have D:nq 3 (f9 jr (aj (au 0) (aj (ak (.bl true)) cj))) (ppS j d (sl (.int ((1:Nat):Int))) none (sl (.str b)) none s2)=some (.next,ppS j d (sl (.int ((1:Nat):Int))) (sl (.int v)) (sl (.str b)) none s3):=ys (zf (s1:=ppS j d (sl (.int ((1:Nat):Int))) none (sl (.str b)) none s2) (zc rfl (zc rfl rfl)) c3) rfl;obtain ⟨t1,ls1,s4,k4,g1,gl1,p1⟩:=J5 k f (d+1) s3 bS (by omega) k3.rl;obtain ⟨t2,ls2,s5,k5,g2,gl2,p2⟩:=J5 k f (d+1) s4 bS (by omega) k4.rl;have P1:f9 (kh f) (aj (au 0) (aj (mOp uo (au 1) (ak (.int 1))) cj)) (ppS j d (sl (.int ((1:Nat):Int))) (sl (.int v)) (sl (.str b)) none s3)=some (t1,ppS j d (sl (.int ((1:Nat):Int))) (sl (.int v)) (sl (.str b)) none s4):=zf (s1:=ppS j d (sl (.int ((1:Nat):Int))) (sl (.int v)) (sl (.str b)) none s3) (zc rfl (zc (zo rfl rfl rfl) rfl)) p1;have P2:f9 (kh f) (aj (au 0) (aj (mOp uo (au 1) (ak (.int 1))) cj)) (ppS j d (sl (.int ((1:Nat):Int))) (sl (.int v)) (sl (.str b)) none s4)=some (t2,ppS j d (sl (.int ((1:Nat):Int))) (sl (.int v)) (sl (.str b)) none s5):=zf (s1:=ppS j d (sl (.int ((1:Nat):Int))) (sl (.int v)) (sl (.str b)) none s4) (zc rfl (zc (zo rfl rfl rfl) rfl)) p2;refine ⟨Rr b v t1 t2,Jb b v::(ls1++ls2),s5,(((k1.trans k2).trans k3).trans k4).trans k5,.cut (e:=k+1) (n:=3+2 * k+1) b v b1 b2 b3.le (b3.pn (by decide)) (Hj (by omega)) ?_ (g1.mono (ic _) (by omega)) (g2.mono (ic _) (by omega)),?_,zrun (zq A (zq (ze C0 rfl) (zqr (zk C1 (zq B (zq D (zr (zm (zc rfl (zc rfl (zc rfl (zc P1 (zc P2 rfl))))) rfl)))))))) rfl⟩
     ·rw [<- a3f];exact ((((vd "cut " 4).app b3).app (vd " " 1)).app (Tq (by omega))).mono (by decide)
     ·rw [iA,il,pw]; omega
    ·rw [iY.mpr (show ((way:Int))≠1 by omega)] at C1;obtain ⟨t,r,s',k2,g,R⟩:=a1d (way:=way) (d:=d) (b:=none) (c:=none) (e:=none) k1.rl;refine ⟨t,[r],s'.sto,k1.trans k2,g.mono (by omega) (by omega),?_,zrun (zq A (zq (ze C0 rfl) (zq (ze C1 rfl) R))) rfl⟩;show 1<=pw (k+1);rw [pw]; omega
termination_by k f=>f
end K
end
section
namespace K
open C PySem
variable {j:Nat} {sto:List SO}
theorem a8l (zs:List (T × Str)) {t:T} (h1:zs.length<=4) (h0:zs≠[]) (hz:∀ z∈zs,Dh [z.1]=some (.str z.2)/\Ln z.2 200/\32∉cs z.2/\Pl 0 z.1) (ht:t=.tup (zs.map (·.1))) (hd:yg (zs.map (·.2))=some t):Gd t (Str.join " " (zs.map (·.2))):=by
 refine ⟨⟨zs,ht,rfl,h1,fun z bP=>⟨(hz z bP).1,(hz z bP).2.1⟩⟩,?_,?_,?_⟩
 ·rw [K4 (by intro e; exact h0 (lB.mp e)) (fun w hw=>by
   obtain ⟨z,bP,rfl⟩:=iN.mp hw;exact (hz z bP).2.2.1)]
  exact hd
 ·have:=Hs (sep := " ") (s:=1) (n:=200) (vd " " 1) (l:=zs.map (·.2)) (fun w hw=>by
   obtain ⟨z,bP,rfl⟩:=iN.mp hw;exact (hz z bP).2.1)
  rw [hZ] at this;exact this.mono (by omega)
 ·rw [ht];refine .tup _ (by rw [hZ]; omega) fun u hu=>?_;obtain ⟨z,bP,rfl⟩:=iN.mp hu;exact (hz z bP).2.2.2
theorem a2u {w:Str} (h:Ln w 200) (hs:32∉cs w) (ok:okS w):Dh [T.str w]=some (.str w)/\Ln w 200/\32∉cs w/\Pl 0 (.str w):=⟨rfl,h,hs,.str _ ok⟩
theorem a8q {n:Nat} (h:n<10 ^ 61):Dh [T.int (n:Int)]=some (.str (num (n:Int)))/\Ln (num (n:Int)) 200/\32∉cs (num (n:Int))/\Pl 0 (.int (n:Int)):=⟨Bu (Hj h),(Tq (by rw [iW]; exact h)).mono (by decide),Ei (by omega),.int _⟩
theorem Vk {w:Str} (hn:nameB w=true) (h:Ln w 200) (hs:32∉cs w) (ok:okS w):∃ r,Gd (.tup [.str "start",.str w]) r :=
 ⟨_,a8l [(.str "start","start"),(.str w,w)] (show 2<=4 by decide) (iV _ _) (fun z hz=>by
  simp only [List.mem_cons,List.not_mem_nil,or_false] at hz;rcases hz with rfl | rfl
  ·exact a2u (vd _ _) (by decide +kernel) Vg
  ·exact a2u h hs ok) rfl (Wv hn)⟩
theorem a7s {i:Nat} (h:i<10 ^ 61):∃ r,Gd (.tup [.str "own",.int (i:Int)]) r :=
 ⟨_,a8l [(.str "own","own"),(.int (i:Int),num (i:Int))] (show 2<=4 by decide) (iV _ _) (fun z hz=>by
  simp only [List.mem_cons,List.not_mem_nil,or_false] at hz;rcases hz with rfl | rfl
  ·exact a2u (vd _ _) (by decide +kernel) a84
  ·exact a8q h) rfl (a5u (Hj h))⟩
theorem a5i {i k:Nat} {w:Str} (hn:nameB w=true) (h:Ln w 200) (hs:32∉cs w) (ok:okS w) (hi:i<10 ^ 61) (hk:k<10 ^ 61):∃ r,Gd (.tup [.str "other",.int (i:Int),.str w,.int (k:Int)]) r :=
 ⟨_,a8l [(.str "other","other"),(.int (i:Int),num (i:Int)),(.str w,w),(.int (k:Int),num (k:Int))] (show 4<=4 by decide) (iV _ _) (fun z hz=>by
  simp only [List.mem_cons,List.not_mem_nil,or_false] at hz;rcases hz with rfl | rfl | rfl | rfl
  ·exact a2u (vd _ _) (by decide +kernel) Wc
  ·exact a8q hi
  ·exact a2u h hs ok
  ·exact a8q hk) rfl (Wq hn (Hj hi) (Hj hk))⟩
theorem a05 {t:Nat} (h:t<4):∃ b:Str,nameB b=true/\Ln b 200/\32∉cs b/\okS b/\dw (.lst [.str "x",.str "b2",.str "hands",.str "own9"]) (.int (t:Int))=some (.str b):=by
 match t,h with
 | 0,_=>exact ⟨"x",by decide +kernel,vd _ _,by decide +kernel,by unfold okS; decide +kernel,rfl⟩
 | 1,_=>exact ⟨"b2",by decide +kernel,vd _ _,by decide +kernel,by unfold okS; decide +kernel,rfl⟩
 | 2,_=>exact ⟨"hands",by decide +kernel,vd _ _,by decide +kernel,by unfold okS; decide +kernel,rfl⟩
 | 3,_=>exact ⟨"own9",by decide +kernel,vd _ _,by decide +kernel,by unfold okS; decide +kernel,rfl⟩
abbrev duS (j:Nat) (a b:C.Slot) (sto:List SO):Sta:=⟨[sl (.obj j),a,b],sto⟩
theorem aa1 (h:RL j sto):∃ (t:T) (r:Str) (ae:List SO),Gd t r/\Kp j sto ae/\Cm [.obj j] sto=some (t,ae):=by
 obtain ⟨way,s1,l1,k1,c1⟩:=yj (s:=duS j none none sto) (l:=aj (au 0) (aj (ak (.int 3)) cj)) (m:=3) h rfl (by decide) (Hx (by decide));have A:nq 1 (f9 gn (aj (au 0) (aj (ak (.int 3)) cj))) (duS j none none sto)=some (.next,duS j (sl (.int (way:Int))) none s1):=ys c1 rfl;obtain ⟨ht,s2,l2,k2,c2⟩:=yj (s:=duS j (sl (.int (way:Int))) none s1) (l:=aj (au 0) (aj (ak (.int 4)) cj)) (m:=4) k1.rl rfl (by decide) (Hx (by decide));obtain ⟨w,w1,w2,w3,w4,w5⟩:=a05 l2;have B:nq 2 (mOp dw (gq (fun l=>some (.lst l)) (Rq ["x","b2","hands","own9"])) (f9 gn (aj (au 0) (aj (ak (.int 4)) cj)))) (duS j (sl (.int (way:Int))) none s1)=some (.next,duS j (sl (.int (way:Int))) (sl (.str w)) s2):=ys (zo rfl c2 w5) rfl;have W:∀ (i:Int),cu (mOp eqO (au 1) (ak (.int i))) (duS j (sl (.int (way:Int))) (sl (.str w)) s2)=some (((way:Int)==i),duS j (sl (.int (way:Int))) (sl (.str w)) s2):=fun i=>zt (zo rfl rfl wu);have C0:=W 0;have C1:=W 1
 by_cases z0:way=0
 ·subst z0;obtain ⟨r,g⟩:=Vk w1 w2 w3 w4;exact ⟨_,r,s2,g,k1.trans k2,zrun (zq A (zq B (zqr (zk C0 (zr (zm (zc rfl (zc rfl rfl)) rfl)))))) rfl⟩
 ·rw [iY.mpr (show ((way:Int))≠0 by omega)] at C0;obtain ⟨i,s3,l3,k3,c3⟩:=yj (s:=duS j (sl (.int (way:Int))) (sl (.str w)) s2) (l:=aj (au 0) (aj (ak (.int 100)) cj)) (m:=100) k2.rl rfl (by decide) (Hx (by decide))
  by_cases z1:way=1
  ·subst z1;obtain ⟨r,g⟩:=a7s (i:=i) (by omega);exact ⟨_,r,s3,g,(k1.trans k2).trans k3,zrun (zq A (zq B (zq (ze C0 rfl) (zqr (zk C1 (zr (zm (zc rfl (zc c3 rfl)) rfl))))))) rfl⟩
  ·rw [iY.mpr (show ((way:Int))≠1 by omega)] at C1;obtain ⟨n,s4,l4,k4,c4⟩:=yj (s:=duS j (sl (.int (way:Int))) (sl (.str w)) s3) (l:=aj (au 0) (aj (ak (.int 30)) cj)) (m:=30) k3.rl rfl (by decide) (Hx (by decide));obtain ⟨r,g⟩:=a5i (i:=i) (k:=n) w1 w2 w3 w4 (by omega) (by omega);exact ⟨_,r,s4,g,((k1.trans k2).trans k3).trans k4,zrun (zq A (zq B (zq (ze C0 rfl) (zq (ze C1 rfl) (zr (zm (zc rfl (zc c3 (zc rfl (zc c4 rfl)))) rfl)))))) rfl⟩
abbrev riS (a b:Int) (o:C.Slot) (sto:List SO):Sta:=⟨[sl (.int a),sl (.int b),o],sto⟩
theorem Tw {c:Int}:∃ v:Int,Ck [.int c] sto=some (.int v,sto):=by
 have A:nq 1 (ak (.int 0)) ⟨[sl (.int c),none,none],sto⟩=some (.next,riS c 0 none sto):=ys rfl rfl
 have loop:∀ (ps:List Int) (a b:Int) (o:C.Slot),(∀ p∈ps,a5a p=true)->∃ a' b' o',forL (hName 2) (nj (nq 0 (mOp Mf (mOp uo (mOp a3n (au 0) (au 2)) (ak (.int 11))) (ak (.int 2147483647))))
   (nq 1 (mOp uo (mOp a3n (au 1) (ak (.int 2147483647))) (au 0)))) (ps.map T.int) (riS a b o sto)=some (.next,riS a' b' o' sto):=fun ps=>by
  induction ps with
  | nil=>intro a b o _; exact ⟨a,b,o,fnil⟩
  | cons p ps ih =>
   intro a b o hp;obtain ⟨a',b',o',e⟩:=ih ((a * p+11)%2147483647) (b * 2147483647+(a * p+11)%2147483647) (sl (.int p)) fun q hq=>hp q (ij _ hq);refine ⟨a',b',o',?_⟩;rw [iL];exact fnx (s1:=riS a b (sl (.int p)) sto) rfl (zq (ys (s1:=riS a b (sl (.int p)) sto) (zo (zo (zo rfl rfl (mu2 (hp p ie))) rfl rfl) rfl (md (by decide))) rfl) (ys (s1:=riS ((a * p+11)%2147483647) b (sl (.int p)) sto) (zo (zo rfl rfl (mu2 (by decide))) rfl rfl) rfl)) e
 obtain ⟨a',b',o',L⟩:=loop [48271,39373,69621,16807,48271,39373,69621,16807] c 0 none (by decide);exact ⟨b',zrun (zq A (zq (Iv (adh (f:=T.int) (k:=[48271,39373,69621,16807,48271,39373,69621,16807]) rfl (by decide)) L) (zr rfl))) rfl⟩
theorem a3k:∀ l:List Int,Xu (l.map T.int)=some l
 | []=>rfl
 | x::l=>by rw [iL,Xu,a3k l]; rfl
theorem adb {l:List Int}:abu [.lst (l.map T.int)]=some (.int l.sum):=by
 show (Xu (l.map T.int)).map _=_;rw [a3k]; rfl
theorem a2o {α:Type} {f:α->T} (xs:List α) (p q:Option Int):∃ l:List α,Od (xs.map f) p q=l.map f/\l.length<=xs.length/\∀ x∈l,x∈xs:=by
 unfold Od;simp only [List.length_map,<- List.map_drop,<- List.map_take];exact ⟨_,rfl,by simp only [List.length_take,List.length_drop]; omega,fun x hx=>mr (List.mem_of_mem_take hx)⟩
theorem a73 {xs:List Int}:∃ l:List Int,Od (xs.map T.int) none (some 4)=l.map T.int/\l.length<=4:=by
 unfold Od;simp only [List.length_map,<- List.map_drop,<- List.map_take];refine ⟨_,rfl,?_⟩;have h0:C.sIx xs.length 0 none=0:=rfl
 have h1:C.sIx xs.length xs.length (some 4)=min 4 xs.length:=by
  unfold C.sIx;dsimp only;rw [hV (by decide)]; rfl
 rw [kX,h0,h1];omega
end K
end
section
namespace K
open C PySem
variable {cR cN:Nat} {sto:List SO}
def Bc:Nat->T
 | 0=>Oc [([0],1)]
 | i+1=>Rr "x" (i:Int) (Oc []) (Bc i)
def T6:Nat->List Str
 | 0=>[Ld [([0],1)]]
 | i+1=>Jb "x" (i:Int)::([Ld []]++T6 i)
theorem ach:Xa "x" = true:=by decide +kernel
theorem ag2:32∉cs "x" := by decide +kernel
theorem abb:Ln "x" 1:=vd _ _
theorem a8b {b:Str} {v:Int} {m n:Nat} (hb:Ln b m) (hv:Ln (num v) n):Ln (Jb b v) (4+m+1+n):=by
 rw [<- a3f];exact (((vd "cut " 4).app hb).app (vd " " 1)).app hv
theorem a08 {its:List It} (h:∀ q∈its,Ww false q) (hl:its.length<=10) (ln:Ln (a2n its) 800):GP 1 3 (Oc its) [Ld its]:=.sum (e:=0) (n:=0) its h hl (by
 rw [<- a3l];exact ((vd "sum" 3).app ln).mono (by decide))
theorem ag7:GP 1 3 (Oc []) [Ld []]:=a08 (fun _ h=>(nomatch h)) (by decide) (vd _ _)
theorem Ud:∀ i:Nat,i<100->GP (i+1) (3+i) (Bc i) (T6 i)/\(T6 i).length=1+2 * i
 | 0,_=>⟨a08 (fun q hq=>by
   rw [ik.mp hq];exact ⟨iV _ _,by simp,fun p hp=>by rw [ik.mp hp]; exact yx (by decide),yx (by decide),by decide,fun _=>by decide⟩) (by simp) (vd _ _),rfl⟩
 | i+1,h=>by
  obtain ⟨g,l⟩:=Ud i (by omega);refine ⟨.cut (e:=i+1) (n:=3+i) "x" (i:Int) ach ag2 (ip abb.le (by decide)) (abb.pn (by decide)) (by rw [iW]; exact yx (by omega)) ((a8b abb (Cv (yx (by omega)))).mono (by decide)) (ag7.mono (by omega) (by omega)) g,?_⟩;show (Jb "x" (i:Int)::([Ld []]++T6 i)).length=_;rw [iA,il,iP,l]; omega
def Kz:Nat:=10 ^ 399
theorem a1m:okN Kz:=Zj (k:=399) (by unfold Kz; exact Nat.pow_lt_pow_right (by decide) (by decide)) (by decide)
theorem aaq:a7b (.int ((10:Int) ^ 57)) (.int 7)=some (.int (Kz:Int)):=by
 unfold a7b;dsimp only;rw [hU (by decide +kernel)];rw [show ((10:Int) ^ 57) ^ (7:Int).toNat=(Kz:Int) by unfold Kz; decide +kernel]
abbrev Yh:T:=Rr "x" (0 - (Kz:Int)) (Oc [([Kz],1)]) (Oc [])
theorem abr:GP 2 4 Yh (Jb "x" (0 - (Kz:Int))::([Ld [([Kz],1)]]++[Ld []])):=by
 have o:okN (0 - (Kz:Int)).natAbs:=by
  rw [show (0 - (Kz:Int)).natAbs=Kz by omega]; exact a1m
 refine .cut (e:=1) (n:=3) "x" _ ach ag2 (ip abb.le (by decide)) (abb.pn (by decide)) o ((a8b abb (Sw o)).mono (by decide)) (a08 (fun q hq=>?_) (by simp) ?_) ag7
 ·rw [ik.mp hq];exact ⟨iV _ _,by simp,fun p hp=>by rw [ik.mp hp]; exact a1m,yx (by decide),by decide,fun _=>by decide⟩
 ·have e:a2n [([Kz],1)] = " " ++ (num (Kz:Int) ++ "*" ++ num 1):=by
   unfold a2n;rw [iL,jK,Str.join];rfl
  rw [e];exact ((vd " " 1).app (((Cv a1m).app (vd "*" 1)).app (a82 (i:=1) (k:=0) (by decide)))).mono (by decide)
abbrev scr (xs:List Int):T:=.lst (xs.map .int)
abbrev lwS (xs:List Int) (a b c d e f g:C.Slot) (sto:List SO):Sta:=⟨[sl (scr xs),a,b,c,d,e,f,g],sto⟩
theorem Ow {xs:List Int}:∀ (n i:Nat) (o:C.Slot),∃ o',forL (hName 2) (nq 1 (gq (fun l=>some (.tup l)) (aj (ak (.str "cut")) (aj (ak (.str "x")) (aj (au 2) (aj (gq (fun l=>some (.tup l)) (aj (ak (.str "sum")) (aj (gq (fun l=>some (.tup l)) cj) cj))) (aj (au 1) cj)))))))
  ((List.range' i n).map fun (k:Nat)=>T.int (k:Int)) (lwS xs (sl (Bc i)) o none none none none none sto)=some (.next,lwS xs (sl (Bc (i+n))) o' none none none none none sto)
 | 0,i,o=>⟨o,by rw [List.range'_zero,jK]; exact fnil⟩
 | n+1,i,o=>by
  obtain ⟨o',ih⟩:=Ow (xs:=xs) n (i+1) (sl (.int (i:Int)));refine ⟨o',?_⟩;rw [List.range'_succ,iL,show i+(n+1)=i+1+n by omega];exact fnx (s1:=lwS xs (sl (Bc i)) (sl (.int (i:Int))) none none none none none sto) rfl (ys (s1:=lwS xs (sl (Bc i)) (sl (.int (i:Int))) none none none none none sto) (zm (zc rfl (zc rfl (zc rfl (zc rfl (zc rfl rfl))))) rfl) rfl) ih
end K
end
section
namespace K
open C PySem
variable {cR cN:Nat} {sto:List SO} {xs:List Int}
theorem a6v {c:Int}:∃ z,RL sto.length z/\Cp [.int c] sto=some (.obj sto.length,z):=by
 refine ⟨sto++[cl2 c (1+c%2147483646)],⟨c,1+c%2147483646,by simp⟩,?_⟩;refine zrun (s1:=⟨[sl (.int c)],sto++[cl2 c (1+c%2147483646)]⟩) (zr ?_) rfl;have:aj (au 0) (aj (mOp uo (ak (.int 1)) (mOp Mf (au 0) (ak (.int 2147483646)))) cj) ⟨[sl (.int c)],sto⟩=some ([.int c,.int (1+c%2147483646)],⟨[sl (.int c)],sto⟩):=zc rfl (zc (zo rfl (zo rfl rfl (md (by decide))) rfl) rfl);unfold Ci;rw [show (⟨[T.int c].map (fun t=>some (t,false))++List.replicate (1 - [T.int c].length) none,sto⟩:Sta)=⟨[sl (.int c)],sto⟩ from rfl,this]
abbrev inS (xs:List Int) (a b:C.Slot) (cl:List Int) (es:List Et) (e f g:C.Slot) (z:List SO):Sta:=lwS xs a b (sl (.lst (cl.map T.int))) (some (.lst (es.map etT),true)) e f g z
abbrev inB:S:=nj (nq 6 (f9 Cp (aj (mOp uo (au 5) (gq abu (aj (Ao (au 3) (qe (ak (.int 4))) ou) cj))) cj)))
 (n6 4 (gq (fun l=>some (.tup l)) (aj (f9 Cm (aj (au 6) cj)) (aj (f9 (kh 8) (aj (au 6) (aj (ak (.int 1)) cj))) cj))))
theorem a89 {m:M T} {s:Sta} {L l:List T} {p q:Option Int} {lo hi:M (Option Int)} (hm:m s=some (.lst L,s)) (eU:lo s=some (p,s)) (fX:hi s=some (q,s)) (e:Od L p q=l):Ao m lo hi s=some (.lst l,s):=by
 unfold Ao;rw [hm]; dsimp only;rw [eU]; dsimp only;rw [fX]; dsimp only;rw [show ab6 p q (.lst L)=some (.lst l) by simp only [ab6,e]]
theorem a04 {a b g:C.Slot} {cl:List Int}:∀ (l:List Int) (es:List Et) (e f:C.Slot) (z:List SO),(∀ y∈es,GE y)->es.length+l.length<=4->∃ (bO:List Et) (e' f':C.Slot) (z':List SO),(∀ y∈bO,GE y)/\bO.length<=4/\forL (hName 5) inB (l.map T.int) (inS xs a b cl es e f g z)=some (.next,inS xs a b cl bO e' f' g z')
 | [],es,e,f,z,h,hl=>⟨es,e,f,z,h,by simpa using hl,fnil⟩
 | c::l,es,e,f,z,h,hl=>by
  rw [iA] at hl;obtain ⟨tl,et,_,_⟩:=a2o (f:=T.int) cl (some 4) none;obtain ⟨z1,r1,e1⟩:=a6v (sto:=z) (c:=c+tl.sum)
  have A:nq 6 (f9 Cp (aj (mOp uo (au 5) (gq abu (aj (Ao (au 3) (qe (ak (.int 4))) ou) cj))) cj)) (inS xs a b cl es (sl (.int c)) f g z)=some (.next,inS xs a b cl es (sl (.int c)) (sl (.obj z.length)) g z1) :=
   ys (zf (s1:=inS xs a b cl es (sl (.int c)) f g z) (zc (zo rfl (zm (zc (a89 (L:=cl.map T.int) rfl (zos (p:=4) rfl) rfl et) rfl) adb) rfl) rfl) e1) rfl
  obtain ⟨dt,dr,z2,gd,k2,e2⟩:=aa1 r1;obtain ⟨pt,pl,z3,k3,gp,gl,e3⟩:=J5 3 8 1 z2 (by decide) (by decide) k2.rl;have gl:pl.length<=40:=gl
  have B:n6 4 (gq (fun l=>some (.tup l)) (aj (f9 Cm (aj (au 6) cj)) (aj (f9 (kh 8) (aj (au 6) (aj (ak (.int 1)) cj))) cj))) (inS xs a b cl es (sl (.int c)) (sl (.obj z.length)) g z1)=some (.next,inS xs a b cl (es++[((dt,dr),(pt,pl))]) (sl (.int c)) (sl (.obj z.length)) g z3) :=
   za (t:=.tup [dt,pt]) (xs:=es.map etT) (s1:=inS xs a b cl es (sl (.int c)) (sl (.obj z.length)) g z3) (zm (zc (zf (s1:=inS xs a b cl es (sl (.int c)) (sl (.obj z.length)) g z1) (zc rfl rfl) e2) (zc (zf (s1:=inS xs a b cl es (sl (.int c)) (sl (.obj z.length)) g z2) (zc rfl (zc rfl rfl)) e3) rfl)) rfl) rfl (by rw [hZ]; show _<1000000; omega) rfl (by
    show lwS xs a b (sl (.lst (cl.map T.int))) (some (.lst (es.map etT++[.tup [dt,pt]]),true)) (sl (.int c)) (sl (.obj z.length)) g z3=_;rw [show es.map etT++[T.tup [dt,pt]]=(es++[((dt,dr),(pt,pl))]).map etT by rw [jT]; rfl])
  obtain ⟨bO,e',f',z',q1,q2,q3⟩:=a04 l (es++[((dt,dr),(pt,pl))]) (sl (.int c)) (sl (.obj z.length)) z3 (fun y hy=>by
   rcases jn.mp hy with hy | hy
   ·exact h y hy
   ·rw [ik.mp hy];exact ⟨gd,⟨4,9,gp,by decide,by decide⟩,by show pl.length<=200; omega⟩) (by rw [il,iP]; omega)
  exact ⟨bO,e',f',z',q1,q2,fnx (s1:=inS xs a b cl es (sl (.int c)) f g z) rfl (zq A B) q3⟩
abbrev cmE:M T:=qm 1 [0] (hName 0) (Dz (au 2) (gq Mt (aj (gq Ax (aj (au 0) cj)) (aj (ak (.int 63)) cj))) (ak (.int 6))) p7 (mOp dw (au 1) (au 0))
theorem a5e {k:Nat} {a c d e f g:C.Slot} (hl:xs.length<=63) (hk:k<xs.length):∃ cl:List Int,cl≠[]/\cl.length<=100/\cmE (lwS xs a (sl (.int (k:Int))) c d e f g sto)=some (.lst (cl.map T.int),lwS xs a (sl (.int (k:Int))) c d e f g sto):=by
 have m:gq Mt (aj (gq Ax (aj (au 0) cj)) (aj (ak (.int 63)) cj)) (lwS xs a (sl (.int (k:Int))) c d e f g sto)=some (.int (xs.length:Int),lwS xs a (sl (.int (k:Int))) c d e f g sto):=zm (zc (zm (zc rfl rfl) (a71 (f:=T.int) (l:=xs))) (zc rfl rfl)) (by
  show some (T.int (if (63:Int)<(xs.length:Int) then 63 else (xs.length:Int)))=_;rw [hV (by omega)])
 have it:Dz (au 2) (gq Mt (aj (gq Ax (aj (au 0) cj)) (aj (ak (.int 63)) cj))) (ak (.int 6)) (lwS xs a (sl (.int (k:Int))) c d e f g sto)=some ((List.range (((xs.length:Int) - (k:Int)+5) / 6).toNat).map fun (i:Nat)=>T.int ((k:Int)+(i:Int) * 6),lwS xs a (sl (.int (k:Int))) c d e f g sto):=by
  unfold Dz;rw [show au 2 (lwS xs a (sl (.int (k:Int))) c d e f g sto)=some (.int (k:Int),lwS xs a (sl (.int (k:Int))) c d e f g sto) from rfl];dsimp only;rw [m];dsimp only;rw [show ak (.int 6) (lwS xs a (sl (.int (k:Int))) c d e f g sto)=some (.int 6,lwS xs a (sl (.int (k:Int))) c d e f g sto) from rfl];dsimp only;rw [hU ⟨rfl,show (k:Int).natAbs<1000000 by omega,show (xs.length:Int).natAbs<1000000 by omega⟩];rfl
 refine ⟨(List.range (((xs.length:Int) - (k:Int)+5) / 6).toNat).map fun i:Nat=>xs.getD (k+i * 6) 0,?_,?_,?_⟩
 ·intro z;have:=iX List.length z;rw [hZ,jH,kI] at this;omega
 ·rw [hZ,jH]; omega
 ·rw [ko]
  exact Bm (fun i:Nat=>T.int ((k:Int)+(i:Int) * 6)) (fun i:Nat=>T.int (xs.getD (k+i * 6) 0)) _ (g:=hName 0) (nv:=1) (ci:=[0]) (c:=p7) (e:=mOp dw (au 1) (au 0)) _ [sl (scr xs)] it rfl rfl rfl (by rw [jH]; show _<=1000000; omega) (by
   intro i hi pre aF
   obtain ⟨x,rfl⟩:∃ x,pre=[x]:=by
    match pre,aF with
    | [x],_=>exact ⟨x,rfl⟩
   have gZ:=lE.mp hi;have lt:k+i * 6<xs.length:=by omega
   refine ⟨[sl (.int ((k:Int)+(i:Int) * 6))],rfl,rfl,rfl,zo rfl rfl ?_⟩;rw [show ((k:Int)+(i:Int) * 6)=((k+i * 6:Nat):Int) by omega,Gh T.int xs lt];rw [jS,jC lt]; rfl)
abbrev riB:S:=sIf (cu (mOp eqO (mOp Mf (mOp dw (au 0) (ak (.int 0))) (ak (.int 2))) (ak (.int 1))))
 (nq 3 (qm 1 [] (hName 0) (Bg (au 3)) p7 (f9 Ck (aj (au 0) cj)))) Ce
theorem Xr {a b d e f g:C.Slot} {cl:List Int} (hx:0<xs.length) (hn:cl≠[]) (hl:cl.length<=100):∃ cl':List Int,cl'≠[]/\cl'.length<=100/\riB (lwS xs a b (sl (.lst (cl.map T.int))) d e f g sto)=some (.next,lwS xs a b (sl (.lst (cl'.map T.int))) d e f g sto):=by
 have i0:mOp dw (au 0) (ak (.int 0)) (lwS xs a b (sl (.lst (cl.map T.int))) d e f g sto)=some (.int xs[0],lwS xs a b (sl (.lst (cl.map T.int))) d e f g sto):=zo rfl rfl (Gh T.int xs (k:=0) hx);have C:=zt (zo (zo i0 (b:=ak (.int 2)) rfl (md (by decide))) (b:=ak (.int 1)) rfl wu)
 by_cases q:(xs[0]%2==1)=true
 ·rw [q] at C;refine ⟨cl.map fun c=>Classical.choose (Tw (sto:=sto) (c:=c)),fun z=>hn (lB.mp z),by rw [hZ]; exact hl,zk C (ys (s1:=lwS xs a b (sl (.lst (cl.map T.int))) d e f g sto) ?_ rfl)⟩;rw [ko]
  exact Bm T.int (fun c=>T.int (Classical.choose (Tw (sto:=sto) (c:=c)))) cl (g:=hName 0) (nv:=1) (ci:=[]) (c:=p7) (it:=Bg (au 3)) (e:=f9 Ck (aj (au 0) cj)) (s1:=lwS xs a b (sl (.lst (cl.map T.int))) d e f g sto) _ [] (adh (f:=T.int) (k:=cl) rfl (by show _<1000000; omega)) rfl rfl rfl (by show _<=1000000; omega) (by
   intro c hc pre aF
   obtain ⟨x,rfl⟩:∃ x,pre=[x]:=by
    match pre,aF with
    | [x],_=>exact ⟨x,rfl⟩
   exact ⟨[sl (.int c)],rfl,rfl,rfl,zf0 (s1:=⟨[sl (.int c)],sto⟩) (zc rfl rfl) (Classical.choose_spec (Tw (sto:=sto) (c:=c)))⟩)
 ·rw [Bool.not_eq_true] at q;rw [q] at C;exact ⟨cl,hn,hl,ze C rfl⟩
abbrev ouB (cR cN:Nat):S:=nj (nq 3 cmE) (nj riB (nj (sNew 4 (gq (fun l=>some (.lst l)) cj))
 (nj (U9 (hName 5) (Bg (Ao (au 3) ou (qe (ak (.int 4))))) inB)
 (sIf (Mi (cu (f9 (yw cR cN) (aj (Ir 4 (qe (mOp Mf (mOp dw (au 3) (ak (.int 0))) (ak (.int 2)))) ou) cj))))
 (xg (ak (.bl false)))
 Ce))))
theorem afg {k:Nat} {a c d e f g:C.Slot} (hl:xs.length<=63) (hk:k<xs.length):∃ (c' d' e' f':C.Slot) (z:List SO),ouB cR cN (lwS xs a (sl (.int (k:Int))) c d e f g sto)=some (.next,lwS xs a (sl (.int (k:Int))) c' d' e' f' g z):=by
 obtain ⟨c0,n0,l0,q0⟩:=a5e (sto:=sto) (a:=a) (c:=c) (d:=d) (e:=e) (f:=f) (g:=g) hl hk;obtain ⟨cl,n1,l1,q1⟩:=Xr (xs:=xs) (sto:=sto) (a:=a) (b:=sl (.int (k:Int))) (d:=d) (e:=e) (f:=f) (g:=g) (by omega) n0 l0;obtain ⟨l,el,l4⟩:=a73 (xs:=cl);obtain ⟨es,e',f',z,g1,g2,L⟩:=a04 (xs:=xs) (a:=a) (b:=sl (.int (k:Int))) (g:=g) (cl:=cl) l [] e f sto (fun _ h=>(nomatch h)) (by rw [kI]; omega);have hc:0<cl.length:=mU.mpr n1;obtain ⟨bO,ee,le,me⟩:=a2o (f:=etT) es (some (cl[0]%2)) none
 have O:Ir 4 (qe (mOp Mf (mOp dw (au 3) (ak (.int 0))) (ak (.int 2)))) ou (inS xs a (sl (.int (k:Int))) cl es e' f' g z)=some (.lst (bO.map etT),inS xs a (sl (.int (k:Int))) cl es e' f' g z):=by
  unfold Ir;rw [hU (show Az 4 (inS xs a (sl (.int (k:Int))) cl es e' f' g z)=true from rfl),zos (p:=cl[0]%2) (zo (zo rfl rfl (Gh T.int cl (k:=0) hc)) rfl (md (by decide)))];dsimp only;rw [show ou (inS xs a (sl (.int (k:Int))) cl es e' f' g z)=some (none,inS xs a (sl (.int (k:Int))) cl es e' f' g z) from rfl];dsimp only [List.getElem?_cons_succ,List.getElem?_cons_zero];rw [ee]
 obtain ⟨z',R⟩:=Js (cR:=cR) (cN:=cN) (sto:=z) (es:=bO) (fun y hy=>g1 y (me y hy)) (by omega);have T':=a86 (zt (zf (l:=aj (Ir 4 (qe (mOp Mf (mOp dw (au 3) (ak (.int 0))) (ak (.int 2)))) ou) cj) (s1:=inS xs a (sl (.int (k:Int))) cl es e' f' g z) (zc O rfl) R));exact ⟨_,_,_,_,z',zq (ys (s1:=lwS xs a (sl (.int (k:Int))) c d e f g sto) q0 rfl) (zq q1 (zq (yn (s1:=lwS xs a (sl (.int (k:Int))) (sl (.lst (cl.map T.int))) d e f g sto) rfl rfl) (zq (Iv (adh (f:=T.int) (k:=l) (a89 (L:=cl.map T.int) rfl rfl (zos (p:=4) rfl) el) (by show _<1000000; omega)) L) (ze T' rfl))))⟩
theorem Zx {a:C.Slot} (hl:xs.length<=63):∀ (ks:List Nat) (b c d e f:C.Slot) (z:List SO),(∀ k∈ks,k<xs.length)->∃ (b' c' d' e' f':C.Slot) (z':List SO),forL (hName 2) (ouB cR cN) (ks.map fun (k:Nat)=>T.int (k:Int)) (lwS xs a b c d e f none z)=some (.next,lwS xs a b' c' d' e' f' none z')
 | [],b,c,d,e,f,z,_=>⟨b,c,d,e,f,z,fnil⟩
 | k::ks,b,c,d,e,f,z,h=>by
  obtain ⟨c1,d1,e1,f1,z1,q⟩:=afg (cR:=cR) (cN:=cN) (sto:=z) (a:=a) (c:=c) (d:=d) (e:=e) (f:=f) (g:=none) hl (h k ie);obtain ⟨b',c',d',e',f',z',r⟩:=Zx hl ks (sl (.int (k:Int))) c1 d1 e1 f1 z1 fun i hi=>h i (ij _ hi);exact ⟨b',c',d',e',f',z',fnx (s1:=lwS xs a (sl (.int (k:Int))) c d e f none z) rfl q r⟩
theorem acr {r:Str} (g:Gd (.tup [.str "start",.str "a"]) r):GE ((.tup [.str "start",.str "a"],r),(Yh,Jb "x" (0 - (Kz:Int))::([Ld [([Kz],1)]]++[Ld []]))):=⟨g,⟨2,4,abr,by decide,by decide⟩,show 3<=200 by decide⟩
theorem ab4 {r:Str} (g:Gd (.tup [.str "own",.int ((0:Nat):Int)]) r):GE ((.tup [.str "own",.int ((0:Nat):Int)],r),(Bc 89,T6 89)):=⟨g,⟨90,92,(Ud 89 (by decide)).1,by decide,by decide⟩,by show (T6 89).length<=200; rw [(Ud 89 (by decide)).2]; decide⟩
theorem a6h (hl:xs.length<=63):∃ z,aao cR cN [scr xs] []=some (.bl true,z):=by
 obtain ⟨o1,D⟩:=Ow (xs:=xs) (sto:=[]) 89 0 none;rw [<- List.range_eq_range',Nat.zero_add] at D;have A:nq 1 (gq (fun l=>some (.tup l)) (aj (ak (.str "sum")) (aj (gq (fun l=>some (.tup l)) (aj (gq (fun l=>some (.tup l)) (aj (ak (.int 0)) (aj (ak (.int 1)) cj))) cj)) cj))) (lwS xs none none none none none none none [])=some (.next,lwS xs (sl (Bc 0)) none none none none none none []):=ys (s1:=lwS xs none none none none none none none []) rfl rfl
 have M:gq Mt (aj (ak (.int 6)) (aj (gq Ax (aj (au 0) cj)) cj)) (lwS xs (sl (Bc 89)) o1 none none none none none [])=some (.int ((min 6 xs.length:Nat):Int),lwS xs (sl (Bc 89)) o1 none none none none none []):=zm (zc rfl (zc (zm (zc rfl rfl) (a71 (f:=T.int) (l:=xs))) rfl)) (by
  show some (T.int (if (xs.length:Int)<6 then (xs.length:Int) else 6))=_
  by_cases z:xs.length<6
  ·rw [hU (by omega),Nat.min_eq_right (by omega)]
  ·rw [hV (by omega),mm (by omega)]; rfl)
 obtain ⟨b',c',d',e',f',z1,L⟩:=Zx (cR:=cR) (cN:=cN) (a:=sl (Bc 89)) hl (List.range (min 6 xs.length)) o1 none none none none [] (fun k hk=>by have:=lE.mp hk; omega)
 have F:nq 7 (gq (fun l=>some (.tup l)) (aj (ak (.str "cut")) (aj (ak (.str "x")) (aj (mOp a1a (ak (.int 0)) (mOp a7b (mOp Xg (ak (.int 10)) (ak (.int 57))) (ak (.int 7)))) (aj (gq (fun l=>some (.tup l)) (aj (ak (.str "sum")) (aj (gq (fun l=>some (.tup l)) (aj (gq (fun l=>some (.tup l)) (aj (mOp a7b (mOp Xg (ak (.int 10)) (ak (.int 57))) (ak (.int 7))) (aj (ak (.int 1)) cj))) cj)) cj))) (aj (gq (fun l=>some (.tup l)) (aj (ak (.str "sum")) (aj (gq (fun l=>some (.tup l)) cj) cj))) cj)))))) (lwS xs (sl (Bc 89)) b' c' d' e' f' none z1)=some (.next,lwS xs (sl (Bc 89)) b' c' d' e' f' (sl Yh) z1):=by
  have p:mOp a7b (mOp Xg (ak (.int 10)) (ak (.int 57))) (ak (.int 7)) (lwS xs (sl (Bc 89)) b' c' d' e' f' none z1)=some (.int (Kz:Int),lwS xs (sl (Bc 89)) b' c' d' e' f' none z1):=zo (zo rfl rfl rfl) rfl aaq;exact ys (zm (zc rfl (zc rfl (zc (zo rfl p rfl) (zc (zm (zc rfl (zc (zm (zc (zm (zc p (zc rfl rfl)) rfl) rfl) rfl) rfl)) rfl) (zc rfl rfl))))) rfl) rfl
 obtain ⟨r1,g1⟩:=Vk (w := "a") (by decide +kernel) (vd _ _) (by decide +kernel) (by unfold okS; decide +kernel);obtain ⟨r2,g2⟩:=a7s (i:=0) (by decide);have E1:∀ y∈[((T.tup [.str "start",.str "a"],r1),(Yh,Jb "x" (0 - (Kz:Int))::([Ld [([Kz],1)]]++[Ld []])))],GE y:=fun y hy=>by rw [ik.mp hy]; exact acr g1
 have E2:∀ y∈[((T.tup [.str "own",.int ((0:Nat):Int)],r2),(Bc 89,T6 89))],GE y:=fun y hy=>by rw [ik.mp hy]; exact ab4 g2
 obtain ⟨z2,q,_,_,h2,rd⟩:=Ob (cR:=cR) (cN:=cN) (sto:=z1) E1 (show 1<=4 by decide);have X:∀ z,gq (fun l=>some (.lst l)) (aj (gq (fun l=>some (.tup l)) (aj (gq (fun l=>some (.tup l)) (aj (ak (.str "start")) (aj (ak (.str "a")) cj))) (aj (au 7) cj))) cj) (lwS xs (sl (Bc 89)) b' c' d' e' f' (sl Yh) z)=some (.lst ([((T.tup [.str "start",.str "a"],r1),(Yh,Jb "x" (0 - (Kz:Int))::([Ld [([Kz],1)]]++[Ld []])))].map etT),lwS xs (sl (Bc 89)) b' c' d' e' f' (sl Yh) z):=fun z=>rfl;have N:=zt (a7y (o:=f9 (o9 cR cN) (aj (f9 Bf (aj (gq (fun l=>some (.lst l)) (aj (gq (fun l=>some (.tup l)) (aj (gq (fun l=>some (.tup l)) (aj (ak (.str "start")) (aj (ak (.str "a")) cj))) (aj (au 7) cj))) cj)) cj)) cj)) (f:=neZ) (i:=q) (s1:=lwS xs (sl (Bc 89)) b' c' d' e' f' (sl Yh) z2) (zf (s1:=lwS xs (sl (Bc 89)) b' c' d' e' f' (sl Yh) z1) (zc (zf0 (zc (X z1) rfl) (Vt E1 (show 1<=4 by decide))) rfl) rd) (X z2) h2 (Vp (a2m (a7j E1)) (by decide)));obtain ⟨z3,R1⟩:=Js (cR:=cR) (cN:=cN) (sto:=z2) (es:=[]) (fun _ h=>(nomatch h)) (by decide);obtain ⟨z4,R2⟩:=Js (cR:=cR) (cN:=cN) (sto:=z3) E2 (show 1<=4 by decide);have T1:=zt (zf (s:=lwS xs (sl (Bc 89)) b' c' d' e' f' (sl Yh) z2) (s1:=lwS xs (sl (Bc 89)) b' c' d' e' f' (sl Yh) z2) (l:=aj (gq (fun l=>some (.lst l)) cj) cj) rfl R1);have T2:=zt (zf (s:=lwS xs (sl (Bc 89)) b' c' d' e' f' (sl Yh) z3) (s1:=lwS xs (sl (Bc 89)) b' c' d' e' f' (sl Yh) z3) (l:=aj (gq (fun l=>some (.lst l)) (aj (gq (fun l=>some (.tup l)) (aj (gq (fun l=>some (.tup l)) (aj (ak (.str "own")) (aj (ak (.int 0)) cj))) (aj (au 1) cj))) cj)) cj) rfl R2);exact ⟨z4,zrun (zq A (zq (Iv (zrg (m:=89) rfl (by decide)) D) (zq (Iv (zrg M (show _<1000000 by omega)) L) (zq F (zq (ze N rfl) (zr (zb (aau T1 T2)))))))) rfl⟩
end K
end
section
namespace D
open PySem L2 C
section
variable {K:PySem.W.Frag} {hp:Heap} {mg:Str->Option Value} (X:K.In hp) (G:hp.Ns mainGlobals mg)
include X G
theorem afb {x:Str} {st:Stmt} {f:Addr} {oc:Value} {od an:Option Addr} {bI:Array (Option Value)} {kV doc pm aC ct:Value} (a:PySem.W.nsIn K mainGlobals x=some (some (.ref f)))
  (l:K.lookup f=some ⟨oc,od,.func (PySem.W.fnOf x x (Fz st) (xu st) (j5 st) .none kV doc pm an aC ct),bI⟩) (c:PySem.W.codeIn K aC x=true) (k:PySem.W.keepIn K (.ref f)=true):FA K mg x st:=⟨_,_,W7 l c k,lD X G a⟩
theorem afl {Cl D fI:Addr} {f nm q:Str} {Na:Addr} {bs:List Value} {sn:List Str} {sub:List Value} {ab:Bool} {col:Option Bool} {dd:Option Addr} {k0 k1 k2 k3 k5:Option Value} {x q0:Str} {j:Nat} {Ca:Addr} {oc:Value} {od an:Option Addr} {bI:Array (Option Value)} {kV doc pm aC ct:Value} (a:PySem.W.nsIn K mainGlobals x=some (some (.ref Cl))) (lk:K.lookup Cl=some (excClassObj nm q Cl Na bs (.ref D::My.vB) true sn sub ab col dd k0 k1 k2 k3 k5 "ValueError.__new__")) (b:PySem.W.excIn K D My.vB "ValueError.__new__" = true) (i:PySem.W.findIn K (.ref Cl) "__init__" = some (some (.ref fI))) (fn:PySem.W.isFn K (.ref fI)=true)
  (sa:PySem.W.findIn K (.ref Cl) "__setattr__" = some (some (.builtin "object.__setattr__"))) (ob:PySem.W.mroIn K Cl (.type "object")=some true) (na:PySem.W.findIn K (.ref Cl) f=some none) (kp:PySem.W.keepIn K (.ref Cl)=true)
  (l:K.lookup fI=some ⟨oc,od,.func (PySem.W.fnOf "__init__" q0 (Fz (M8 0 (top j))) (xu (M8 0 (top j))) (j5 (M8 0 (top j))) .none kV doc pm an aC ct),bI⟩) (c:PySem.W.codeIn K aC q0=true) (k:PySem.W.keepIn K (.ref fI)=true) (t:(Value.ref Cl :: .ref D::My.vB).contains (.ref Ca)=true):XE K mg x f q0 j Cl Ca :=
 ⟨D,fI,_,⟨⟨nm,q,Na,bs,sn,sub,ab,col,dd,k0,k1,k2,k3,k5,lk⟩,b,i,fn,sa,ob,na,kp⟩,⟨by simp,nm,q,Na,bs,true,sn,sub,ab,col,dd,k0,k1,k2,k3,k5,lk⟩,W7 l c k,t,lD X G a⟩
theorem aej {x:Str} {n:Int} {t:Tok} (a:PySem.W.nsIn K mainGlobals x=some (some (.int n t))):∃ tk,mg x=some (.int n tk):=⟨_,lD X G a⟩
theorem Oz {q:Addr} {t0 t1 t2 t3 t4 t5 t6 t7 t8 t9 gJ fV gN gc fO f7 gG gA gm gf fS gz gL:Tok} {n:Nat} {s:Array (Option Value)} (a:PySem.W.nsIn K mainGlobals "KEY_WORDS" = some (some (.ref q))) (l:K.lookup q=some ⟨.type "tuple",none,.seq [.str "box" t0,.str "lock" t1,.str "hand" t2,.str "own" t3,.str "end" t4,.str "set" t5,.str "wait" t6,.str "if" t7,.str "else" t8,.str "while" t9,.str "rounds" gJ,.str "either" fV,.str "or" gN,.str "and" gc,.str "not" fO,.str "take" f7,.str "give" gG,.str "label" gA,.str "say" gm,.str "at" gf,.str "divides" fS,.str "true" gz,.str "false" gL].toArray n,s⟩):∃ u,mg "KEY_WORDS" = some u/\Held K u (.tup [(.str "box"),(.str "lock"),(.str "hand"),(.str "own"),(.str "end"),(.str "set"),(.str "wait"),(.str "if"),(.str "else"),(.str "while"),(.str "rounds"),(.str "either"),(.str "or"),(.str "and"),(.str "not"),(.str "take"),(.str "give"),(.str "label"),(.str "say"),(.str "at"),(.str "divides"),(.str "true"),(.str "false")]):=⟨_,lD X G a,(Held.tup l (by simp) (w6.cons Held.str (w6.cons Held.str (w6.cons Held.str (w6.cons Held.str (w6.cons Held.str (w6.cons Held.str (w6.cons Held.str (w6.cons Held.str (w6.cons Held.str (w6.cons Held.str (w6.cons Held.str (w6.cons Held.str (w6.cons Held.str (w6.cons Held.str (w6.cons Held.str (w6.cons Held.str (w6.cons Held.str (w6.cons Held.str (w6.cons Held.str (w6.cons Held.str (w6.cons Held.str (w6.cons Held.str (w6.cons Held.str w6.nil))))))))))))))))))))))))⟩
theorem aex {x v:Str} {t:Tok} (a:PySem.W.nsIn K mainGlobals x=some (some (.str v t))):∃ u,mg x=some u/\Held K u (.str v):=⟨_,lD X G a,Held.str⟩
end
theorem ac4 {K:PySem.W.Frag} {Cl:Addr} {bm:List Value} {nm q:Str} {Na:Addr} {bs:List Value} {hd:Bool} {sn:List Str} {sub:List Value} {ab:Bool} {col:Option Bool} {dd:Option Addr} {k0 k1 k2 k3 k5:Option Value}
  (lk:K.lookup Cl=some (excClassObj nm q Cl Na bs bm hd sn sub ab col dd k0 k1 k2 k3 k5 "ValueError.__new__")) (b:bm.contains (.type "BaseException")=true):XCl K Cl bm:=⟨b,nm,q,Na,bs,hd,sn,sub,ab,col,dd,k0,k1,k2,k3,k5,lk⟩
def spL (K:PySem.W.Frag):Sp:=fun vs H Q E=>∀ cR cN,spF K 1 (_root_.K.aao cR cN) vs H Q E
theorem fin {l:PySem.W.OpenLaw} {w:World} {K:PySem.W.Frag} {mg:Str->Option Value} {fa cR cN Ca:Addr} {bm:List Value} (cD:mg "law" = some (.ref fa)) (Z:Zk K mg cR cN Ca bm) :
  ∃ fd:FuncData,(∀ (s:Shared) (v:Value),BindsTo s fd ⟨[v],[]⟩ [("_law_script",v)])/\∀ base:Heap,K.In base->base.Ns mainGlobals mg->Du l.prog w K mg base CX0 115 fa fd ["_law_script"] (spL K):=by
 obtain ⟨f,fd,F,m⟩:=Z.h34;cases cD.symm.trans m;refine ⟨fd,?_,fun base _ _=>(acn Z F).imp fun _ _ _ _ h=>h _ _⟩;obtain ⟨oc,od,kV,doc,pm,an,aC,ct,bI,rfl,lk,bz⟩:=F.ex;exact fun s v=>.of_eq rfl
theorem walk {l:PySem.W.OpenLaw} {q:Program} {loose:List Str} {XP:(Str->Option Value)->Heap->Prop} {YP:World->Heap->Prop} {d:DefRec} {K:Params->PySem.W.Frag} (hn:l.most=some 63) (dm:d.params.defaults=[])
  (hY:∀ (w:World) (h:Heap),YP w h->(K w.params).In h)
  (F:∀ (w:World) (mg:Str->Option Value) (fa:Addr) (h:Heap),(K w.params).In h->h.Ns mainGlobals mg->mg d.name=some (.ref fa) ->
   ∃ fd:FuncData,(∀ (s:Shared) (u:Value),BindsTo s fd ⟨[u],[]⟩ [("_law_script",u)])/\∀ base:Heap,(K w.params).In base->base.Ns mainGlobals mg->Du l.prog w (K w.params) mg base CX0 115 fa fd ["_law_script"] (spL (K w.params))) :
  PySem.W.WalkO q loose XP YP l.row.toRowW d [] (fun f vs=>PySem.call f vs) :=
 L2.aat (n:=63) (k:=115) (x := "_law_script") (CX:=fun _=>CX0) (sp:=fun w=>spL (K w.params)) hn (by decide) dm ⟨rfl,by decide,by decide⟩ hY F (fun w H a ns hl _ hS=>fun cR cN=>aas hS (_root_.K.a6h (xs:=ns) hl)) fun _ _ _ _ _ z=>z
end D
theorem PySem.W.Fast.tw5946772417320567555:True:=⟨⟩
theorem PySem.W.Fast.tw10934182217484997860:True:=⟨⟩
theorem PySem.W.Fast.tw3856910306392171077:True:=⟨⟩
theorem PySem.W.Fast.tw14644859862733944554:True:=⟨⟩
theorem PySem.W.Fast.tw13360216221297585355:True:=⟨⟩
theorem PySem.W.Fast.tw9011107225986355179:True:=⟨⟩
theorem PySem.W.Fast.tw4372330142463311436:True:=⟨⟩
theorem PySem.W.Fast.tw7345641458406951440:True:=⟨⟩
theorem PySem.W.Fast.tw11174942184091601840:True:=⟨⟩
theorem PySem.W.Fast.tw5399865842788010674:True:=⟨⟩
theorem PySem.W.Fast.tw14493630889066890710:True:=⟨⟩
theorem PySem.W.Fast.tw5264634262303084054:True:=⟨⟩
theorem PySem.W.Fast.tw6882632726966623258:True:=⟨⟩
theorem PySem.W.Fast.tw7848027133145620954:True:=⟨⟩
theorem PySem.W.Fast.tw4634221291484541851:True:=⟨⟩
theorem PySem.W.Fast.tw17560621055278016540:True:=⟨⟩
theorem PySem.W.Fast.tw4069601546487317468:True:=⟨⟩
theorem PySem.W.Fast.tw8930338811665973951:True:=⟨⟩
theorem PySem.W.Fast.tw196951233049119548:True:=⟨⟩
theorem PySem.W.Fast.tw12609607127066724156:True:=⟨⟩
open PySem PySem.W PyProof.Rows
set_option maxRecDepth 100000 in
set_option maxHeartbeats 0 in
theorem PySem.Challenge.cw_calm_k77_papers_written_and_read_holds : PySem.Challenge.rw_calm_k77_papers_written_and_read.Holds := by
 w_on; o_law; k_head; (case hw=>w_witness2)
 k_fill
 refine D.walk (l:=PySem.Challenge.rw_calm_k77_papers_written_and_read) rfl rfl (fun w h Y=>PySem.W.kIn_of Y) ?F
 case F =>
  intro w mg fa h KX G cD;refine' D.fin cD ?Z
  case Z =>
   constructor
   case hR=>refine' PySem.W.mg_of KX G ?a; (case a=>k_is)
   case kc=>refine' ⟨D.ac4 ?lj ?bj,PySem.W.mg_of KX G ?a⟩; (case a=>k_is); (case lj=>k_is); (case bj=>rfl)
   case e=>refine' D.afl KX G ?a ?lk ?b ?i ?fn ?sa ?ob ?na ?kp ?l ?c ?k ?tt; (case a=>k_is); (case lk=>k_is); (case b=>k_exc); (case i=>k_is); (case fn=>k_is); (case sa=>k_is); (case ob=>k_is); (case na=>k_is); (case kp=>k_is); (case l=>k_is); (case c=>k_is); (case k=>k_is); (case tt=>rfl)
   case cls=>refine' L2.Cls.mk ?_ ?_ ?_ ?_ <;> k_is
   case na_number | na_rows=>refine' (show PySem.W.findIn _ _ _=some none from ?a); (case a=>k_is)
   case h8=>refine' ⟨_,_,L2.Mk.mk ?ma ?mi ?mf ?mk,L2.W7 ?l ?c ?k⟩; (case ma=>k_is); (case mi=>k_is); (case mf=>k_is); (case mk=>k_is); (case l=>k_is); (case c=>k_is); (case k=>k_is)
   case h9 | h10=>refine' ⟨_,_,L2.Meth.mk ?ma ?mf ?mk,L2.W7 ?l ?c ?k⟩; (case ma=>k_is); (case mf=>k_is); (case mk=>k_is); (case l=>k_is); (case c=>k_is); (case k=>k_is)
   case c_KEY_WORDS=>refine' D.Oz KX G ?a ?l; (case a=>k_is); (case l=>k_is)
   case c_FIGURES | c_LETTERS | c_WORD_SIGNS=>refine' D.aex KX G ?a; (case a=>k_is)
   case c_LONGEST_NAME | c_MOST_DEEP | c_MOST_FIGURES | c_MOST_ROWS=>refine' D.aej KX G ?a; (case a=>k_is)
   case b_all | b_bool | b_int | b_isinstance | b_len | b_list | b_min | b_range | b_str | b_sum | b_tuple | b_zip=>refine' PySem.W.mg_none_of KX G ?a; (case a=>k_is)
   case h0 | h1 | h2 | h3 | h4 | h5 | h6 | h7 | h11 | h12 | h13 | h14 | h15 | h16 | h17 | h18 | h19 | h20 | h21 | h22 | h23 | h24 | h25 | h26 | h27 | h28 | h29 | h30 | h31 | h32 | h33 | h34=>refine' D.afb KX G ?a ?l ?c ?k; (case a=>k_is); (case l=>k_is); (case c=>k_is); (case k=>k_is)
#print axioms PySem.Challenge.cw_calm_k77_papers_written_and_read_holds
end
