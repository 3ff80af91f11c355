import PyProof.Rows.All
import Wide.All
import OpenK.AllK
import Wide.FinOn
import Lean
import PyProof.EqAt
import PyProof.CallStr
import PyProof.StrCalls2
import PyProof.EqKinds
import PyProof.TupleCall
import PyProof.NeKinds
import PyProof.CollectWalk
import PyProof.CollectStr
import PyProof.SetRoads
import KE.KDictSum
import PyProof.Rows.RuleN_abs
import PyProof.Rows.SeqMore2
import KE.KSortTup
import PyProof.SeqI3
import PyProof.ZipIter
import PyProof.Rows.SetFrom
import PyProof.FactsAll.set
import PySem.Challenge.RW_benchworth_k25_slack
set_option Elab.async false
set_option linter.all false
set_option maxRecDepth 100000
set_option genSizeOf false
abbrev a0a:=@List.getElem?_eq_getElem
abbrev a0b:=@PySem.wpAny_bind
abbrev a0c:=@List.getD_eq_getElem?_getD
abbrev a0d:=@List.length_map
abbrev a0e:=@PySem.wpAny_pure
abbrev a0f:=@PySem.Heap.get?_push_of_some
abbrev a0g:=@List.getElem?_map
abbrev a0h:=@List.map_cons
abbrev a0i:=@Bool.false_ne_true
abbrev a0j:=@List.getElem?_eq_some_iff
abbrev a0k:=@List.mem_cons_of_mem
abbrev a0l:=@Nat.le_refl
abbrev a0m:=@List.mem_cons_self
abbrev a0n:=@PySem.Heap.lt_size
abbrev a0o:=@Array.length_toList
abbrev a0p:=@List.mem_map
abbrev a0q:=@List.mem_cons
abbrev a0r:=@Option.map_eq_some_iff
abbrev a0s:=@List.sum_cons
abbrev a0t:=@List.size_toArray
abbrev a0u:=@List.mem_of_getElem?
abbrev a0v:=@Array.getElem?_eq_getElem
abbrev a0w:=@Nat.ne_of_lt
abbrev a0x:=@List.all_eq_true
abbrev a0y:=@Nat.le_trans
abbrev a0z:=@List.mem_append_right
abbrev a1a:=@List.mem_append
abbrev a1b:=@PySem.Heap.get?_push_size
abbrev a1c:=@decide_eq_false
abbrev a1d:=@Nat.lt_of_lt_of_le
abbrev a1e:=@List.not_mem_nil
abbrev a1f:=@List.getElem?_append_left
abbrev a1g:=@Bool.and_eq_true
abbrev a1h:=@PySem.PassesOwn.never
abbrev a1i:=@List.getElem?_append_right
abbrev a1j:=@Option.some.inj
abbrev a1k:=@List.getElem_mem
abbrev a1l:=@PySem.wpAny_mono
abbrev a1m:=@List.map_append
abbrev a1n:=@List.filterMap_cons
abbrev a1o:=@List.take_add_one
abbrev a1p:=@Int.toNat_natCast
abbrev a1q:=@PySem.W.mg_none_of
abbrev a1r:=@List.length_append
abbrev a1s:=@List.mem_range
abbrev a1t:=@List.filter_cons
abbrev a1u:=@PySem.wpAny_newObj_type
abbrev a1v:=@decide_eq_true
abbrev a1w:=@PySem.wpAny_holding
abbrev a1x:=@PySem.Heap.get?_update_other
abbrev a1y:=@List.take_length
abbrev a1z:=@List.length_replicate
abbrev a2a:=@List.getElem?_eq_none
abbrev a2b:=@PySem.Heap.get?_update_self
abbrev a2c:=@List.length_cons
abbrev a2d:=@Bool.or_eq_true
abbrev a2e:=@List.getElem?_replicate
abbrev a2f:=@List.mem_filter
abbrev a2g:=@List.length_take
abbrev a2h:=@List.map_map
abbrev a2i:=@List.nodup_cons
abbrev a2j:=@List.getElem_of_mem
abbrev a2k:=@Array.getElem?_toList
abbrev a2l:=@PySem.F.plainAttrs_list
abbrev a2m:=@List.getElem?_set
abbrev a2n:=@Nat.lt_of_le_of_lt
abbrev a2o:=@List.getElem?_eq_none_iff
abbrev a2p:=@List.find?_cons
abbrev a2q:=@PySem.Around.under_plainId
abbrev a2r:=@PySem.F.type_list_append
abbrev a2s:=@PySem.F.slot_list_append
abbrev a2t:=@Nat.lt_trans
abbrev a2u:=@PySem.wpAny_call_entry
abbrev a2v:=@PySem.Heap.SameBut.update
abbrev a2w:=@PySem.W.kia_one
abbrev a2x:=@List.zip_cons_cons
abbrev a2y:=@Array.getD_eq_getD_getElem?
abbrev a2z:=@List.mem_append_left
abbrev a3a:=@List.lookup_cons
abbrev a3b:=@Ne.symm
abbrev a3c:=@Nat.zero_le
abbrev a3d:=@List.pairwise_iff_getElem
abbrev a3e:=@List.getElem?_zip_eq_some
abbrev a3f:=@List.drop_eq_getElem_cons
abbrev a3g:=@Nat.le_of_lt
abbrev a3h:=@List.nil_append
abbrev a3i:=@List.length_filter_le
abbrev a3j:=@or_false
abbrev a3k:=@decide_eq_true_iff
abbrev a3l:=@List.filterMap_map
abbrev a3m:=@Nat.lt_succ_self
abbrev a3n:=@PySem.Heap.size_push
abbrev a3o:=@PySem.codeAny_builtin
abbrev a3p:=@List.length_eq_zero_iff
abbrev a3q:=@List.pairwise_map
abbrev a3r:=@List.replicate_succ
abbrev a3s:=@PySem.wpAny_setState_of
abbrev a3t:=@beq_iff_eq
abbrev a3u:=@List.filterMap_eq_map
abbrev a3v:=@List.length_dropLast
abbrev a3w:=@PySem.wpAny_standAt
abbrev a3x:=@PySem.Obj.data_mapFields
abbrev a3y:=@PySem.wpAny_truthy_bool
abbrev a3z:=@List.ext_getElem
abbrev a4a:=@List.take_of_length_le
abbrev a4b:=@List.mem_filterMap
abbrev a4c:=@Int.emod_lt_of_pos
abbrev a4d:=@PySem.wpAny_callSpecial?_slot
abbrev a4e:=@PySem.wpAny_askSetting
abbrev a4f:=@PyProof.Rows.callWith_type1
abbrev a4g:=@List.range_succ
abbrev a4h:=@Int.le_refl
abbrev a4i:=@of_decide_eq_true
abbrev a4j:=@List.length_range
abbrev a4k:=@List.flatten_cons
abbrev a4l:=@List.pairwise_append
abbrev a4m:=@PySem.wpAny_passesOwn
abbrev a4n:=@Nat.le_of_not_lt
abbrev a4o:=@PySem.wpAny_storeSet_of
abbrev a4p:=@PySem.mem_of_lookup
abbrev a4q:=@List.length_reverse
abbrev a4r:=@List.getElem?_range
abbrev a4s:=@PySem.Heap.SameBut.refl
abbrev a4t:=@Array.toList_append
abbrev a4u:=@Nat.eq_or_lt_of_le
abbrev a4v:=@List.filter_append
abbrev a4w:=@Int.emod_nonneg
abbrev a4x:=@Bool.eq_iff_iff
abbrev a4y:=@PySem.wpAny_rule
abbrev a4z:=@PySem.wpAny_comprehension_free
abbrev a5a:=@PySem.F.called_set
abbrev a5b:=@Array.getElem?_eq_none
abbrev a5c:=@decide_eq_true_eq
abbrev a5d:=@PyProof.Rows.slot_tuple_getitem
abbrev a5e:=@List.ext_getElem?
abbrev a5f:=@PySem.plainId_quiet
abbrev a5g:=@PySem.Paired.length
abbrev a5h:=@Nat.ne_of_gt
abbrev a5i:=@Nat.lt_of_not_le
abbrev a5j:=@List.getElem_map
abbrev a5k:=@PySem.fits_of_scanBound
abbrev a5l:=@Nat.lt_irrefl
abbrev a5m:=@List.any_cons
abbrev a5n:=@PySem.wpAny_setField
abbrev a5o:=@PySem.Obj.isFreed_of_fields
abbrev a5p:=@List.length_zip
abbrev a5q:=@List.forIn_cons
abbrev a5r:=@List.append_nil
abbrev a5s:=@List.nodup_iff_pairwise_ne
abbrev a5t:=@PySem.wpAny_newFunctionEnv
abbrev a5u:=@Nat.zero_add
abbrev a5v:=@List.mem_singleton
abbrev a5w:=@List.map_nil
abbrev a5x:=@List.mem_or_eq_of_mem_set
abbrev a5y:=@PySem.wpAny_typeOf
abbrev a5z:=@PySem.codeAny_mono
abbrev a6a:=@List.mem_reverse
abbrev a6b:=@List.map_fst_zip
abbrev a6c:=@List.length_drop
abbrev a6d:=@List.drop_length
abbrev a6e:=@List.any_eq_true
abbrev a6f:=@List.filter_eq_nil_iff
abbrev a6g:=@List.length_singleton
abbrev a6h:=@List.length_set
abbrev a6i:=@List.filterMap_filter
abbrev a6j:=@PySem.F.slot_list_getattribute
abbrev a6k:=@PySem.F.plain_list_iadd
abbrev a6l:=@PySem.wpAny_of_eq
abbrev a6m:=@PySem.SetOf_store
abbrev a6n:=@PySem.wpAny_isInstance
abbrev a6o:=@Option.map_map
abbrev a6p:=@Bool.false_and
abbrev a6q:=@if_true
abbrev a6r:=@beq_eq_false_iff_ne
abbrev a6s:=@List.map_congr_left
abbrev a6t:=@Int.mul_one
abbrev a6u:=@PySem.wpAny_execs_nil
abbrev a6v:=@PySem.builtinLookup_eq_fast
abbrev a6w:=@List.zipIdx_append
abbrev a6x:=@List.mem_replicate
abbrev a6y:=@List.map_replicate
abbrev a6z:=@List.length_zipIdx
abbrev a7a:=@List.findIdx?_eq_some_iff_getElem
abbrev a7b:=@List.find?_eq_none
abbrev a7c:=@PySem.lookup_relabel_local
abbrev a7d:=@bind_congr
abbrev a7e:=@Option.some.injEq
abbrev a7f:=@List.nodup_append
abbrev a7g:=@List.eraseIdx_eq_take_drop_succ
abbrev a7h:=@List.append_assoc
abbrev a7i:=@Array.toList_push
abbrev a7j:=@PySem.isSubtype_type
abbrev a7k:=@PyProof.Rows.F.plain_set_update_loop
local macro_rules | `(tactic| tb_from $t) => `(tactic| (walk_at "w"; refine $t))
abbrev Aa:=PySem.W.Frag
abbrev Ab:=PySem.Shared
abbrev Ac:=PySem.Addr
namespace L2
open PySem PySem.Spec PyProof.Rows
abbrev bA:=Sum Int Str
def xP:bA->Value->Bool
 |.inl k,v=>Value.isInt k v
 |.inr x,v=>Value.isStrOf x v
def a5Y(w:World):bA->Int
 |.inl k=>hashInt k
 |.inr x=>hashStr w x
theorem cJ:∀ {k:bA} {v:Value},xP k v=true->(∃i t,k=Sum.inl i/\v=Value.int i t)\/(∃x t,k=Sum.inr x/\v=Value.str x t)
 | .inl i,v,h=>by
  obtain⟨t,e⟩:=Value.isInt_shape (k:=i) (v:=v) h
  exact .inl ⟨i,t,rfl,e⟩
 | .inr x,v,h=>by
  obtain⟨t,e⟩:=Value.isStrOf_shape (x:=x) (v:=v) h
  exact .inr ⟨x,t,rfl,e⟩
theorem KL(i:Int)(t:Tok):xP (.inl i) (.int i t)=true:=by simp[xP,Value.isInt]
theorem KM(x:Str)(t:Tok):xP (.inr x) (.str x t)=true:=by simp[xP,Value.isStrOf]
theorem ZL (a b:Int):decide ((Sum.inl a:bA)=Sum.inl b)=(a==b):=by
 by_cases e:a=b
 ·subst e;simp
 ·have h:¬(Sum.inl a:bA)=Sum.inl b:=λq=>e (Sum.inl.inj q)
  rw[a1c h]
  exact (a6r.mpr e).symm
theorem ZO (a b:Str):decide ((Sum.inr a:bA)=Sum.inr b)=decide (a=b):=by
 by_cases e:a=b
 ·subst e;simp
 ·have h:¬(Sum.inr a:bA)=Sum.inr b:=λq=>e (Sum.inr.inj q)
  rw[a1c h,a1c e]
theorem ZM(a:Int)(b:Str):decide ((Sum.inl a:bA)=Sum.inr b)=false:=a1c (λq=>nomatch q)
theorem ZN(a:Str)(b:Int):decide ((Sum.inr a:bA)=Sum.inl b)=false:=a1c (λq=>nomatch q)
def bH (prog:Program) (w:World):PySem.KeyKind prog w bA where
 is:=xP
 hash:=a5Y w
 inj:=λv a b ha hb=>by
  rcases cJ ha with ⟨i,t,rfl,rfl⟩|⟨x,t,rfl,rfl⟩
  ·rcases cJ hb with ⟨j,u,rfl,e⟩|⟨y,u,rfl,e⟩
   ·injection e with e1 _;rw[e1]
   ·exact nomatch e
  ·rcases cJ hb with ⟨j,u,rfl,e⟩|⟨y,u,rfl,e⟩
   ·exact nomatch e
   ·injection e with e1 _;rw[e1]
 byValue:=λk v h=>by
  rcases cJ h with ⟨i,t,rfl,rfl⟩|⟨x,t,rfl,rfl⟩<;>rfl
 pyHash:=λhv h=>by
  rcases cJ hv with ⟨i,t,rfl,rfl⟩|⟨x,t,rfl,rfl⟩
  ·exact wpAny_pyHash_int h
  ·exact wpAny_pyHash_str h
 eqBool:=λhu hv h=>by
  rcases cJ hu with ⟨i,t,rfl,rfl⟩|⟨x,t,rfl,rfl⟩
  ·rcases cJ hv with ⟨j,u,rfl,rfl⟩|⟨y,u,rfl,rfl⟩
   ·rw[ZL] at h;exact wpAny_eqBool_int h
   ·rw[ZM] at h;exact SeqAt.EqAt.int_str i t y u _ _ _ _ h
  ·rcases cJ hv with ⟨j,u,rfl,rfl⟩|⟨y,u,rfl,rfl⟩
   ·rw[ZN] at h;exact SeqAt.EqAt.str_int x t j u _ _ _ _ h
   ·rw[ZO] at h;exact wpAny_eqBool_str h
 «strs»:=λk x t v h=>by
  rcases cJ h with ⟨i,u,rfl,e⟩|⟨y,u,rfl,e⟩
  ·exact nomatch e
  ·injection e with e1 _
   subst e1
   cases v<;>rfl
theorem C0(prog:Program)(w:World)(i:Int)(t:Tok):(bH prog w).is (.inl i) (.int i t)=true:=KL i t
theorem C1(prog:Program)(w:World)(x:Str)(t:Tok):(bH prog w).is (.inr x) (.str x t)=true:=KM x t
inductive V where
 |non|bl (b:Bool)|int (i:Int)|str (x:Str)|byt (b:Array UInt8)|flt (b:UInt64)|ref (a:Ac)|ty (n:String)
 deriving DecidableEq
def bD:V->Value->Prop
 |.non,u=>u=Value.none
 |.bl b,u=>u=Value.bool b
 |.int i,u=>∃t,u=Value.int i t
 |.str x,u=>∃t,u=Value.str x t
 |.byt b,u=>∃t,u=Value.bytes b t
 |.flt b,u=>∃t,u=Value.float b t
 |.ref a,u=>u=Value.ref a
 |.ty n,u=>u=Value.type n
abbrev b9:List V->List Value->Prop:=Paired bD
theorem b9.length{xs:List V}{us:List Value}(r:b9 xs us):xs.length=us.length:=a5g r
theorem b9.get:∀ {xs:List V} {us:List Value} {i:Nat} {x:V},b9 xs us->xs[i]? =some x->∃u,us[i]? =some u/\bD x u
 |_,_,_,_,.nil,e=>by simp at e
 |_,_,0,_,.cons r _,e=>by simp at e;subst e;exact⟨_,rfl,r⟩
 | _,_,i+1,x,.cons _ t,e=>by
  obtain⟨u,h1,h2⟩:=b9.get (i:=i) (x:=x) t (by simpa using e)
  exact⟨u,by simpa using h1,h2⟩
theorem b9.set{x:V}{u:Value}(r:bD x u):∀ {xs:List V} {us:List Value} (i:Nat),b9 xs us->b9 (xs.set i x) (us.set i u)
 |_,_,_,.nil=>.nil
 |_,_,0,.cons _ t=>.cons r t
 |_,_,i+1,.cons q t=>.cons q (b9.set r i t)
theorem b9.append:∀ {xs ys:List V} {us ws:List Value},b9 xs us->b9 ys ws->b9 (xs++ys) (us++ws)
 |_,_,_,_,.nil,s=>s
 |_,_,_,_,.cons r t,s=>.cons r (b9.append t s)
theorem b9.take:∀ {xs:List V} {us:List Value} (n:Nat),b9 xs us->b9 (xs.take n) (us.take n)
 |_,_,0,_=>.nil
 |_,_,_+1,.nil=>.nil
 |_,_,n+1,.cons r t=>.cons r (b9.take n t)
theorem b9.drop:∀ {xs:List V} {us:List Value} (n:Nat),b9 xs us->b9 (xs.drop n) (us.drop n)
 |_,_,0,r=>r
 |_,_,_+1,.nil=>.nil
 |_,_,n+1,.cons _ t=>b9.drop n t
def sJ:Option V->Option Value->Prop
 |some v,some u=>bD v u
 |none,none=>True
 |_,_=>False
def KV{κ:Type}:List (κ×V)->List (κ×Value)->Prop:=Paired λ(p:κ×V) (q:κ×Value)=>p.1=q.1/\bD p.2 q.2
def kV:bA->V
 |.inl i=>.int i
 |.inr x=>.str x
inductive HO where
 |lst (xs:List V)
 |tup (xs:List V)
 |dK (kvs:List (bA×V))|dT (kvs:List (List bA×V))
 |set (S:Int->Bool) (n:Nat)
 |ins (C dx:Ac) (fs:List (Str×V))
 |own (x:Ac)
 |xd (fs:List (Str×V))
 |met (f x:Ac)
 |rng (lo hi:Int)
 |frz (o:Obj) (u:HO)
 |tbl
 |ext (φ:Heap->Prop)
abbrev Hp:=Ac->Option HO
def bF(H:Hp)(a:Ac)(o:HO):Hp:=λb=>if b=a then some o else H b
theorem b5{H:Hp}{a:Ac}{o:HO}:bF H a o a=some o:=by unfold bF;rw[if_pos rfl]
theorem aH{H:Hp}{a b:Ac}{o:HO}(h:b≠a):bF H a o b=H b:=by unfold bF;rw[if_neg h]
theorem J1{H:Hp}{a:Addr}{o u:HO}:bF (bF H a o) a u=bF H a u:=by
 funext b;unfold bF;split<;>rfl
theorem a3G{H:Hp}{a b:Addr}{o u:HO}(h:H a=some o)(h':H b=some u)(d:o≠u):a≠b:=by
 intro e;subst e;rw[h] at h';exact d (a1j h')
theorem c9{H:Hp}{a b:Addr}{o:HO}(h:H a=some o)(h':H b=none):a≠b:=by
 intro e;subst e;rw[h] at h';cases h'
section
variable(P:Program)(w:World)
def c5 (H:Hp) (h:Heap) (a:Addr):HO->Prop
 |.lst xs=>xs.length<=sizeLine/\∃(its:List Value) (n:Nat),b9 xs its/\h.get? a=some {cls:=.type "list",data:=.seq its.toArray n}
 |.tup xs=>xs.length<=sizeLine/\∃its:List Value,b9 xs its/\IsTup h a its.toArray
 |.dK kvs=>kvs.length<=sizeLine/\(a==sysModules)=false/\∃vs,KV kvs vs/\h.DictOf (bH P w) a vs
 | .dT kvs=>kvs.length<=sizeLine/\(a==sysModules)=false/\∃xs:List (List bA×Addr×Value),
   Paired (λ(p:List bA×V) (q:List bA×Ac×Value)=>p.1=q.1/\H q.2.1=some (.tup (p.1.map kV))/\bD p.2 q.2.2) kvs xs/\
   ∃o es ep,h.get? a=some o/\o.ExactDict/\o.data= .dict es ep/\es.toList=xs.map (entryOfKey (tupleKind (bH P w)))/\(xs.map (·.1)).Nodup
 |.set S n=>h.SetOf (intKind P w) a S n
 | .ins C dx fs=>H dx=some (.own a)/\fs.length<=1000/\dx≠a/\h.get? a=some (PySem.W.instObj C dx)/\
   ∃mA,h.Ns1 dx mA/\(∀f,sJ (fs.lookup f) (mA f))/\PySem.Within mA (fs.map (·.1))
 |.own _=>∃o,h.get? a=some o
 |.xd fs=>∃mA,h.Ns1 a mA/\∀f,sJ (fs.lookup f) (mA f)
 |.rng lo hi=>∃t u v,h.get? a=some {cls:=.type "range",data:=.fields #[.int lo t,.int hi u,.int 1 v]}
 |.frz o u=>h.get? a=some o/\c5 H h a u
 |.tbl=>∃ps:Array Value,h.get? a=some {cls:=.none,data:=.fields ps}/\TriplesOk ps.toList
 |.met f x=>h.get? a=some (PySem.W.methodObj (.ref f) (.ref x))
 |.ext φ=>φ h/\(∃o,h.get? a=some o)/\∀h1 h2:Heap,φ h1->(∀o,h1.get? a=some o->h2.get? a=some o)->φ h2
def mP(H:Hp)(h:Heap):Prop:=∀a o,H a=some o->c5 P w H h a o
end
section
variable{P:Program}{w:World}{H H':Hp}{h h':Heap}{a:Ac}{o:HO}
theorem c5.lt(x:c5 P w H h a o):a<h.objs.size:=by
 cases o with
 |lst xs=>obtain⟨_,_,_,_,e⟩:=x;exact a0n e
 |tup xs=>obtain⟨_,_,_,p⟩:=x;exact p.lt
 |dK kvs=>obtain⟨_,_,_,_,o,_,_,e,_⟩:=x;exact a0n e
 |dT kvs=>obtain⟨_,_,_,_,o,_,_,e,_⟩:=x;exact a0n e
 |set S n=>obtain⟨o,_,_,_,e,_⟩:=x;exact a0n e
 |ins C dx fs=>obtain⟨_,_,_,e,_⟩:=x;exact a0n e
 |own y=>obtain⟨_,e⟩:=x;exact a0n e
 |xd fs=>obtain⟨_,⟨_,_,_,e,_⟩,_⟩:=x;exact a0n e
 |rng lo hi=>obtain⟨_,_,_,e⟩:=x;exact a0n e
 |frz ob u=>obtain⟨e,_⟩:=x;exact a0n e
 |tbl=>obtain⟨_,e,_⟩:=x;exact a0n e
 |met f y=>exact a0n (show h.get? a=some _ from x)
 |ext φ=>obtain⟨_,⟨_,e⟩,_⟩:=x;exact a0n e
theorem Paired.mapP{α β:Type}{F G:α->β->Prop}:∀ {l₁:List α} {l₂:List β},Paired F l₁ l₂->(∀a b,F a b->G a b)->Paired G l₁ l₂
 |_,_,.nil,_=>.nil
 |_,_,.cons r t,f=>.cons (f _ _ r) (Paired.mapP t f)
theorem c5.stay (x:c5 P w H h a o) (k:∀b u,(b=a\/H b=some (.own a))->h.get? b=some u->h'.get? b=some u)
  (ho:∀b,H b=some (.own a)->H' b=some (.own a)) (ht:∀b xs,H b=some (.tup xs)->H' b=some (.tup xs)):c5 P w H' h' a o:=by
 induction o with
 |lst xs=>obtain⟨z,its,n,r,e⟩:=x;exact⟨z,its,n,r,k _ _ (.inl rfl) e⟩
 |tup xs=>obtain⟨z,its,r,ob,e,c⟩:=x;exact⟨z,its,r,ob,k _ _ (.inl rfl) e,c⟩
 |dK kvs=>obtain⟨z,y,vs,r,ob,es,ep,e,c⟩:=x;exact⟨z,y,vs,r,ob,es,ep,k _ _ (.inl rfl) e,c⟩
 | dT kvs=>
  obtain⟨z,y,xs,r,ob,es,ep,e,c⟩:=x
  exact⟨z,y,xs,Paired.mapP r λp q z=>⟨z.1,ht _ _ z.2.1,z.2.2⟩,ob,es,ep,k _ _ (.inl rfl) e,c⟩
 |set S n=>obtain⟨ob,es,ep,t,e,c⟩:=x;exact⟨ob,es,ep,t,k _ _ (.inl rfl) e,c⟩
 | ins C dx fs=>
  obtain⟨d,z,ne,e,mA,⟨od,es,ep,e2,c⟩,r⟩:=x
  exact⟨ho _ d,z,ne,k _ _ (.inl rfl) e,mA,⟨od,es,ep,k _ _ (.inr d) e2,c⟩,r⟩
 |own y=>obtain⟨ob,e⟩:=x;exact⟨ob,k _ _ (.inl rfl) e⟩
 |xd fs=>obtain⟨mA,⟨od,es,ep,e,c⟩,r⟩:=x;exact⟨mA,⟨od,es,ep,k _ _ (.inl rfl) e,c⟩,r⟩
 |rng lo hi=>obtain⟨t,u,v,e⟩:=x;exact⟨t,u,v,k _ _ (.inl rfl) e⟩
 |frz ob u ih=>obtain⟨e,q⟩:=x;exact⟨k _ _ (.inl rfl) e,ih q⟩
 |tbl=>obtain⟨ps,e,q⟩:=x;exact⟨ps,k _ _ (.inl rfl) e,q⟩
 | met f y=>
  have e:h.get? a=some (PySem.W.methodObj (.ref f) (.ref y)):=x
  show h'.get? a=some (PySem.W.methodObj (.ref f) (.ref y))
  exact k a _ (.inl rfl) e
 |ext φ=>obtain⟨p,⟨o,e⟩,st⟩:=x;exact⟨st _ _ p λo q=>k _ _ (.inl rfl) q,⟨o,k _ _ (.inl rfl) e⟩,st⟩
theorem mP.lt(x:mP P w H h)(e:H a=some o):a<h.objs.size:=(x a o e).lt
theorem mP.fresh(x:mP P w H h)(e:h.objs.size<=a):H a=none:=by
 cases q:H a with
 |none=>rfl
 |some u=>exact absurd (a1d (x.lt q) e) (a5l _)
theorem mP.kept(x:mP P w H h)(k:∀b u,h.get? b=some u->h'.get? b=some u):mP P w H h':=λa o e=>
 (x a o e).stay (λb u _ q=>k b u q) (λ_ q=>q) λ_ _ q=>q
theorem mP.laid (x:mP P w H h) (k:∀b u,h.get? b=some u->h'.get? b=some u) (hp:h.objs.size<=a) (new:c5 P w (bF H a o) h' a o):mP P w (bF H a o) h':=λb u e=>by
 have hn:=x.fresh hp
 by_cases hb:b=a
 ·subst hb;rw[b5] at e;cases e;exact new
 ·rw[aH hb] at e
  exact (x b u e).stay (λc v _ q=>k c v q) (λc q=>by rw[aH (c9 q hn)];exact q) λc xs q=>by rw[aH (c9 q hn)];exact q
end
def Rd(H:Hp)(a:Ac)(u:HO):Prop:=H a=some u\/∃o,H a=some (.frz o u)
theorem Rd.ok {P:Program} {w:World} {H:Hp} {h:Heap} {a:Addr} {u:HO} (r:Rd H a u) (x:mP P w H h):c5 P w H h a u:=by
 rcases r with r|⟨o,r⟩
 ·exact x a u r
 ·obtain⟨_,q⟩:=x a _ r
  exact q
def a2F:Option HO->Prop
 |some (.lst _)=>True
 |some (.dK _)=>True
 |some (.dT _)=>True
 |some (.set _ _)=>True
 |some (.ins _ _ _)=>True
 |some (.ext _)=>True
 |_=>False
section
variable{P:Program}{w:World}{H:Hp}{h h':Heap}{x e:Ac}{o':HO}
theorem mP.write (ok:mP P w H h) (mu:a2F (H x)) (he:e=x\/H e=some (.own x)) (k:∀b u,b≠e->h.get? b=some u->h'.get? b=some u) (heo:∃u,h'.get? e=some u)
  (new:c5 P w (bF H x o') h' x o'):mP P w (bF H x o') h':=λb u q=>by
 have nown:∀c y,H c=some (.own y)->c≠x:=λc y r z=>by subst z;rw[r] at mu;exact mu
 have ntup:∀c xs,H c=some (.tup xs)->c≠x:=λc xs r z=>by subst z;rw[r] at mu;exact mu
 by_cases hb:b=x
 ·subst hb;rw[b5] at q;cases q;exact new
 ·rw [aH hb] at q
  by_cases hbe:b=e
  ·have q':H b=some (.own x):=by
    rcases he with z|z
    ·exact absurd (hbe.trans z) hb
    ·rw[hbe];exact z
   rw[q] at q';cases q'
   obtain⟨v,hv⟩:=heo
   exact⟨v,by rw[hbe];exact hv⟩
  ·refine (ok b u q).stay (λc v hc r=>k c v ?_ r) (λc r=>by rw[aH (nown c b r)];exact r) λc xs r=>by rw[aH (ntup c xs r)];exact r
   rcases hc with rfl|hc
   ·exact hbe
   ·rintro rfl
    rcases he with z|z
    ·exact nown c b hc z
    ·rw[hc] at z;cases z;exact hb rfl
end
structure Un(fs ex:List Addr)(H H':Hp)(h h':Heap):Prop where
 keep:∀b o,h.get? b=some o->H b=none->b∉fs->b∉ex->h'.get? b=some o
 slot:∀b o,h.get? b=some o->H b=none->b∈fs->b∉ex->∃sl,h'.get? b=some {o with slots:=sl}
 free:∀b o,h.get? b=some o->H b=none->b∉ex->H' b=none
 there:∀b o,h.get? b=some o->b∉ex->∃o',h'.get? b=some o'
 tups:∀b xs,H b=some (.tup xs)->H' b=some (.tup xs)
 frzs:∀b o u,H b=some (.frz o u)->H' b=some (.frz o u)
 tbls:∀b,H b=some .tbl->H' b=some .tbl
section
variable{fs fs' ex ex':List Ac}{H H1 H2:Hp}{h h1 h2 h':Heap}{a x e:Ac}{o:HO}
theorem Un.any(u:Un fs ex H H1 h h1){b:Addr}{ob:Obj}(q:h.get? b=some ob)(n:H b=none)(hx:b∉ex):∃sl,h1.get? b=some {ob with slots:=sl}:=by
 by_cases hb:b∈fs
 ·exact u.slot b ob q n hb hx
 ·exact⟨ob.slots,u.keep b ob q n hb hx⟩
theorem Un.kept(k:∀b u,h.get? b=some u->h'.get? b=some u):Un fs ex H H h h':=
 ⟨λb ob q _ _ _=>k b ob q,λb ob q _ _ _=>⟨ob.slots,k b ob q⟩,λ_ _ _ n _=>n,λb ob q _=>⟨ob,k b ob q⟩,λ_ _ q=>q,λ_ _ _ q=>q,λ_ q=>q⟩
theorem Un.refl:Un fs ex H H h h:=Un.kept λ_ _ q=>q
theorem Un.laid(k:∀b u,h.get? b=some u->h'.get? b=some u)(hp:h.objs.size<=a)(hn:H a=none):Un fs ex H (bF H a o) h h' where
 keep:=λb u q _ _ _=>k b u q
 slot:=λb u q _ _ _=>⟨u.slots,k b u q⟩
 free:=λb u q n _=>by rw[aH (a0w (a1d (a0n q) hp))];exact n
 there:=λb u q _=>⟨u,k b u q⟩
 tups:=λb xs q=>by rw[aH (c9 q hn)];exact q
 frzs:=λb u xs q=>by rw[aH (c9 q hn)];exact q
 tbls:=λb q=>by rw[aH (c9 q hn)];exact q
theorem Un.write (mu:a2F (H x)) (he:e=x\/H e=some (.own x)) (k:∀b u,b≠e->h.get? b=some u->h'.get? b=some u) (heo:∃u,h'.get? e=some u):Un fs ex H (bF H x o) h h':=by
 have hx:∀b,H b=none->b≠x:=λb n z=>by subst z;rw[n] at mu;exact mu
 have hb:∀b,H b=none->b≠e:=λb n z=>by
  subst z
  rcases he with r|r
  ·exact hx b n r
  ·rw[n] at r;cases r
 have hm:∀b u,H b=some u->¬a2F (some u)->b≠x:=λb u q nm z=>by subst z;rw[q] at mu;exact nm mu
 refine ⟨λb u q n _ _=>k b u (hb b n) q,λb u q n _ _=>⟨u.slots,k b u (hb b n) q⟩,λb u q n _=>by rw[aH (hx b n)];exact n,λb u q _=>?_,
  λb xs q=>by rw[aH (hm b _ q λz=>z)];exact q,λb u xs q=>by rw[aH (hm b _ q λz=>z)];exact q,λb q=>by rw[aH (hm b _ q λz=>z)];exact q⟩
 by_cases hbe:b=e
 ·subst hbe;exact heo
 ·exact⟨u,k b u hbe q⟩
end
def a5D(h:Heap)(H:Hp):List Ac:=(List.range h.objs.size).filter λa=>(H a).isSome
def KB(h:Heap)(H:Hp):Heap:=PySem.W.hideAll h (a5D h H)
theorem KC(h:Heap)(H:Hp):(KB h H).objs.size=h.objs.size:=PySem.W.hideAll_size _ _
theorem O4 {h:Heap} {H:Hp} {b:Addr} {o:Obj} (e:h.get? b=some o) (n:H b=none):(KB h H).get? b=some o:=
 PySem.W.hideAll_get _ e λhm=>by
  have q:(H b).isSome=true:=(a2f.mp hm).2
  rw[n] at q;simp at q
theorem V3 {h:Heap} {H:Hp} {b:Addr} {o:Obj} (e:(KB h H).get? b=some o):h.get? b=some o/\H b=none:=by
 have e':h.get? b=some o:=PySem.W.of_hideAll (a5D h H) e
 refine⟨e',?_⟩
 cases q:H b with
 |none=>rfl
 | some x=>
  have hm:b∈a5D h H:=a2f.mpr ⟨a1s.mpr (a0n e'),by simp[q]⟩
  have z:(KB h H).get? b=none:=PySem.W.hideAll_none (a5D h H) hm
  rw[z] at e;cases e
def GX(a b:Array GenState):Prop:=∀(i:Nat) (x:GenState),a[i]? =some x->b[i]? =some x
structure Mod(K:PySem.W.Frag)(mg:Str->Option Value)(base:Heap):Prop where
 kin:K.In base
 glob:base.Ns mainGlobals mg
 blt:∃mb,base.Ns builtinsNs mb/\∀x:Str,x≠ "__name__"->mb x=bootBuiltins x
 nolimit:base.NoLimit
 mods:∃o,base.get? sysModules=some o
 bmod:∃bm ob,BMod base mainGlobals mg bm ob
structure Cx where
 prog:Program
 w:World
 K:Aa
 mg:Str->Option Value
 base:Heap
 A:Around
 N:List Str
 s₀:Ab
 H₀:Hp
 env:Env
 outer:List Env
 stack:List Env
 ex:List Ac
 fn:Str->Bool
 calm:Bool
 pn:List (Ac×Obj)
 xe:Value->Ab->Prop
def NZ(l:List Env):List Ac:=l.filterMap (·.frame)
abbrev Cx.fs(X:Cx):List Ac:=NZ X.outer
def a5N(sc:Scope)(x:Str):Prop:=sc.names.lookup x=some .local\/sc.names.lookup x=some .cell\/sc.names.lookup x=some .free
def JA(sc:Scope)(x:Str):Prop:=sc.names.lookup x=some .local\/sc.names.lookup x=some .cell
def a5J(env:Env)(h:Heap)(m:Str->Option Value)(x:Str)(u:Value):Prop:=
 (env.kindOf x=some .local/\m x=some u)\/((env.kindOf x=some .cell\/env.kindOf x=some .free)/\∃c,env.cells.lookup x=some c/\h.IsCell c (some u))
structure Cx.Ok(X:Cx):Prop where
 mod:Mod X.K X.mg X.base
 kind:X.env.scope.kind= .function
 glob:X.env.globals=mainGlobals
 blt:X.env.builtins=builtinsNs
 above:X.s₀.heap.objs.size<=X.env.locals
 inj:∀x y c,X.env.cells.lookup x=some c->X.env.cells.lookup y=some c->x=y
 has:∀x,(X.env.kindOf x=some .cell\/X.env.kindOf x=some .free)->∃c,X.env.cells.lookup x=some c
 cab:∀x c,X.fn x=true->X.env.cells.lookup x=some c->X.s₀.heap.objs.size<=c
 hd:X.calm=true->X.A.handled=none
 frames:X.A.frames=some X.stack
 stk:X.stack=X.outer\/(X.stack=X.env::X.outer/\X.env.frame=some X.env.locals)
 exf:∀b∈X.ex,b≠X.env.locals/\∀x c,X.env.cells.lookup x=some c->c≠b
 bs:∀b o,X.base.get? b=some o->X.s₀.heap.get? b=some o/\X.H₀ b=none
 bsz:X.base.objs.size<=X.s₀.heap.objs.size
 noex:∀b o,X.base.get? b=some o->b∉X.ex
 exfs:∀b∈X.ex,b∉X.fs
 funs:X.s₀.heap.FunFrames X.base X.outer
 frf:∀b∈X.fs,X.H₀ b=none
 tb:∀b∈X.base.life.registered,X.H₀ b=some .tbl
structure Inv(X:Cx)(pins:List (Addr×Obj))(σ:List (Option V))(H:Hp)(s:Shared):Prop where
 ok:X.Ok
 os:s.os=X.s₀.os
 bare:AllBare s.gens/\GX X.s₀.gens s.gens
 base:Un X.fs X.ex X.H₀ H X.s₀.heap s.heap
 loc:∃m,s.heap.Ns X.env.locals m/\∀(i:Nat) (x:Str) (v:V),X.N[i]? =some x->σ[i]? =some (some v)->a5N X.env.scope x->∃u,bD v u/\a5J X.env s.heap m x u
 cell:∀x c,X.env.cells.lookup x=some c->∃v,s.heap.IsCell c v
 free:H X.env.locals=none
 freeC:∀x c,X.env.cells.lookup x=some c->H c=none
 pin:∀p∈X.pn++pins,s.heap.get? p.1=some p.2/\H p.1=none/\p.1≠X.env.locals/\p.1∉X.fs/\∀v,p.2.data≠ .cell v
 hok:mP X.prog X.w H s.heap
 len:σ.length=X.N.length
section
variable{X:Cx}{pins:List (Ac×Obj)}{σ:List (Option V)}{H H':Hp}{s:Ab}{h':Heap}
theorem Cx.Ok.nofr(ok:X.Ok){b:Addr}{o:Obj}(e:X.base.get? b=some o):b∉X.fs:=λhb=>by
 have:=(ok.funs.mem hb).1
 rw[e] at this;cases this
theorem Inv.bs(I:Inv X pins σ H s):∀b o,X.base.get? b=some o->s.heap.get? b=some o/\H b=none:=λb o e=>
 ⟨I.base.keep b o (I.ok.bs b o e).1 (I.ok.bs b o e).2 (I.ok.nofr e) (I.ok.noex b o e),I.base.free b o (I.ok.bs b o e).1 (I.ok.bs b o e).2 (I.ok.noex b o e)⟩
theorem Inv.bk(I:Inv X pins σ H s):∀b o,X.base.get? b=some o->s.heap.get? b=some o:=λb o e=>(I.bs b o e).1
theorem Inv.mod(I:Inv X pins σ H s):Mod X.K X.mg X.base:=I.ok.mod
theorem Inv.kIn(I:Inv X pins σ H s):X.K.In s.heap:=I.ok.mod.kin.keeps I.bk
theorem Inv.lt(I:Inv X pins σ H s):X.env.locals<s.heap.objs.size:=let ⟨_,hn,_⟩:=I.loc;hn.lt
theorem Inv.sz(I:Inv X pins σ H s):X.s₀.heap.objs.size<=s.heap.objs.size:=a0y I.ok.above (a3g I.lt)
theorem Inv.nofs(I:Inv X pins σ H s){a:Addr}(h:s.heap.objs.size<=a):a∉X.fs:=λhb=>by
 obtain⟨_,o,ho,_⟩:=I.ok.funs.mem hb
 exact absurd (a1d (a0n ho) (a0y I.sz h)) (a5l _)
theorem Inv.cne(I:Inv X pins σ H s):∀x c,X.env.cells.lookup x=some c->c≠X.env.locals:=λx c e z=>by
 obtain⟨v,o,ho,hd⟩:=I.cell x c e
 obtain⟨m,⟨o',es,ep,ho',hd',_⟩,_⟩:=I.loc
 rw[z,ho'] at ho;cases ho;rw[hd'] at hd;cases hd
theorem Inv.funs (I:Inv X pins σ H s):s.heap.FunFrames X.base X.outer:=by
 have all:∀(l:List Env),(∀b∈NZ l,b∈X.fs)->X.s₀.heap.FunFrames X.base l->s.heap.FunFrames X.base l:=by
  intro l
  induction l with
  |nil=>intro _ _;trivial
  | cons env r ih=>
   intro hs hl
   obtain⟨hk,⟨L,o,hf,hn,ho,hd⟩,hr⟩:=hl
   have hL:L∈X.fs:=hs L (by unfold NZ;rw[a1n,hf];exact a0m)
   obtain⟨sl,e⟩:=I.base.slot L o ho (I.ok.frf L hL) hL λz=>I.ok.exfs L z hL
   exact⟨hk,⟨L,_,hf,hn,e,hd⟩,ih (λb hb=>hs b (by unfold NZ;rw[a1n,hf];exact a0k _ hb)) hr⟩
 exact all X.outer (λ_ hb=>hb) I.ok.funs
theorem Inv.stack (I:Inv X pins σ H s):s.heap.FunFrames X.base X.stack:=by
 rcases I.ok.stk with e|⟨e,hf⟩
 ·rw[e];exact I.funs
 ·rw[e]
  obtain⟨m,hn,_⟩:=I.loc
  refine .cons (by rw[I.ok.kind];decide) hf hn ?_ I.funs
  exact Heap.get?_none_of_le (a0y I.ok.bsz I.ok.above)
theorem Inv.stkSub (I:Inv X pins σ H s):∀b∈NZ X.stack,b∈X.env.locals::X.fs:=λb hb=>by
 rcases I.ok.stk with e|⟨e,hf⟩
 ·rw[e] at hb;exact a0k _ hb
 ·rw[e] at hb
  unfold NZ at hb
  rw[a1n,hf] at hb
  exact hb
theorem Inv.stkFree (I:Inv X pins σ H s):∀b∈NZ X.stack,H b=none:=λb hb=>by
 rcases a0q.mp (I.stkSub b hb) with e|hb
 ·rw[e];exact I.free
 ·obtain⟨_,o,ho,_⟩:=I.ok.funs.mem hb
  exact I.base.free b o ho (I.ok.frf b hb) λz=>I.ok.exfs b z hb
theorem Inv.tb(I:Inv X pins σ H s):∀b∈X.base.life.registered,H b=some .tbl:=λb hb=>I.base.tbls b (I.ok.tb b hb)
theorem Inv.step {g':Array GenState} {t':Nat} {d':Drawn} {ch:List Addr} (I:Inv X pins σ H s)
  (hch:∀b∈ch,(b∈X.ex\/X.s₀.heap.objs.size<=b)/\b≠X.env.locals/\(∀x c,X.env.cells.lookup x=some c->c≠b)/\∀p∈X.pn++pins,p.1≠b)
  (keep:∀b o,b≠X.env.locals->b∉X.fs->b∉ch->s.heap.get? b=some o->H b=none->h'.get? b=some o)
  (slot:∀b o,b≠X.env.locals->b∈X.fs->b∉ch->s.heap.get? b=some o->H b=none->∃sl,h'.get? b=some {o with slots:=sl}) (free:∀b o,b∉ch->s.heap.get? b=some o->H b=none->H' b=none)
  (there:∀b o,b∉ch->s.heap.get? b=some o->∃o',h'.get? b=some o')
  (tups:∀b xs,H b=some (.tup xs)->H' b=some (.tup xs)) (frzs:∀b o u,H b=some (.frz o u)->H' b=some (.frz o u)) (tbls:∀b,H b=some .tbl->H' b=some .tbl)
  (ns:∀m,s.heap.Ns X.env.locals m->h'.Ns X.env.locals m) (hok:mP X.prog X.w H' h') (hg:AllBare g'/\GX X.s₀.gens g') :
  Inv X pins σ H' {s with heap:=h',gens:=g',drawn:=d',toks:=t'}:=by
 have neL:∀b o,X.s₀.heap.get? b=some o->b≠X.env.locals:=λb o e=>a0w (a1d (a0n e) I.ok.above)
 have neC:∀b o,X.s₀.heap.get? b=some o->b∉X.ex->b∉ch:=λb o e hx hb=>by
  rcases (hch b hb).1 with z|z
  ·exact hx z
  ·exact absurd (a1d (a0n e) z) (a5l _)
 have cellK:∀x c,X.env.cells.lookup x=some c->∀v,s.heap.IsCell c v->h'.IsCell c v:=λx c e v ⟨o,ho,hd⟩=>by
  have nch:c∉ch:=λz=>(hch c z).2.2.1 x c e rfl
  by_cases hc:c∈X.fs
  ·obtain⟨sl,q⟩:=slot c o (I.cne x c e) hc nch ho (I.freeC x c e)
   exact⟨_,q,hd⟩
  ·exact⟨o,keep c o (I.cne x c e) hc nch ho (I.freeC x c e),hd⟩
 refine⟨I.ok,I.os,hg,⟨λb o e n hb hx=>?_,λb o e n hb hx=>?_,λb o e n hx=>?_,λb o e hx=>?_,λb xs e=>tups b xs (I.base.tups b xs e),λb o xs e=>frzs b o xs (I.base.frzs b o xs e),λb e=>tbls b (I.base.tbls b e)⟩,?_,λx c e=>?_,?_,λx c e=>?_,λp hp=>?_,hok,I.len⟩
 ·exact keep b o (neL b o e) hb (neC b o e hx) (I.base.keep b o e n hb hx) (I.base.free b o e n hx)
 ·obtain⟨sl,e1⟩:=I.base.slot b o e n hb hx
  obtain⟨sl',e2⟩:=slot b _ (neL b o e) hb (neC b o e hx) e1 (I.base.free b o e n hx)
  exact⟨sl',e2⟩
 ·obtain⟨o',e1⟩:=I.base.there b o e hx
  exact free b o' (neC b o e hx) e1 (I.base.free b o e n hx)
 ·obtain⟨o',e1⟩:=I.base.there b o e hx
  exact there b o' (neC b o e hx) e1
 ·obtain⟨m,hn,hl⟩:=I.loc
  refine⟨m,ns m hn,λi x v e1 e2 e3=>?_⟩
  obtain⟨u,r,l⟩:=hl i x v e1 e2 e3
  refine⟨u,r,?_⟩
  rcases l with l|⟨k,c,e,z⟩
  ·exact .inl l
  ·exact .inr ⟨k,c,e,cellK x c e _ z⟩
 ·obtain⟨v,z⟩:=I.cell x c e
  exact⟨v,cellK x c e v z⟩
 ·obtain⟨m,⟨o,_,_,ho,_⟩,_⟩:=I.loc
  exact free _ o (λz=>(hch _ z).2.1 rfl) ho I.free
 ·obtain⟨v,o,ho,hd⟩:=I.cell x c e
  exact free c o (λz=>(hch c z).2.2.1 x c e rfl) ho (I.freeC x c e)
 ·obtain⟨e,n,ne,nf,d⟩:=I.pin p hp
  have nch:p.1∉ch:=λz=>(hch p.1 z).2.2.2 p hp rfl
  exact⟨keep p.1 p.2 ne nf nch e n,free p.1 p.2 nch e n,ne,nf,d⟩
theorem Inv.un {t':Nat} (I:Inv X pins σ H s) (u:Un X.fs [] H H' s.heap h') (hok:mP X.prog X.w H' h'):Inv X pins σ H' {s with heap:=h',toks:=t'}:=by
 obtain⟨m,⟨o,es,ep,ho,r⟩,_⟩:=id I.loc
 obtain⟨sl,hL⟩:=u.any ho I.free (by simp)
 exact I.step (g':=s.gens) (d':=s.drawn) (ch:=[]) (λ_ z=>nomatch z) (λb o _ hb _ e n=>u.keep b o e n hb (by simp)) (λb o _ hb _ e n=>u.slot b o e n hb (by simp)) (λb o _ e n=>u.free b o e n (by simp)) (λb o _ e=>u.there b o e (by simp)) u.tups u.frzs u.tbls (λm' hm=>by
  obtain⟨o',es',ep',ho',r'⟩:=hm
  rw[ho] at ho';cases ho'
  exact⟨_,es',ep',hL,r'⟩) hok I.bare
theorem Inv.call {g':Array GenState} {t':Nat} {d':Drawn} {ch:List Addr} (I:Inv X pins σ H s) (u:Un (NZ X.stack) ch H H' s.heap h') (hok:mP X.prog X.w H' h') (hg:AllBare g'/\GX s.gens g')
  (hch:∀b∈ch,(b∈X.ex\/X.s₀.heap.objs.size<=b)/\b≠X.env.locals/\(∀x c,X.env.cells.lookup x=some c->c≠b)/\∀p∈X.pn++pins,p.1≠b) :
  Inv X pins σ H' {s with heap:=h',gens:=g',drawn:=d',toks:=t'}:=by
 obtain⟨m,⟨o,es,ep,ho,r⟩,_⟩:=id I.loc
 obtain⟨sl,hL⟩:=u.any ho I.free λz=>(hch _ z).2.1 rfl
 exact I.step (ch:=ch) hch (λb o hL hb hc e n=>u.keep b o e n (λz=>(a0q.mp (I.stkSub b z)).elim hL hb) hc) (λb o _ _ hc e n=>u.any e n hc) (λb o hc e n=>u.free b o e n hc) (λb o hc e=>u.there b o e hc) u.tups u.frzs u.tbls (λm' hm=>by
  obtain⟨o',es',ep',ho',r'⟩:=hm
  rw[ho] at ho';cases ho'
  exact⟨_,es',ep',hL,r'⟩) hok ⟨hg.1,λi x e=>hg.2 i x (I.bare.2 i x e)⟩
theorem Inv.turned {t':Nat} {it:Addr} (I:Inv X pins σ H s) (k:∀b o,b≠it->s.heap.get? b=some o->h'.get? b=some o) (hn:H it=none) (hL:it≠X.env.locals)
  (h1:it∈X.ex\/X.s₀.heap.objs.size<=it) (h2:∀x c,X.env.cells.lookup x=some c->c≠it) (h3:∀p∈X.pn++pins,p.1≠it):Inv X pins σ H {s with heap:=h',toks:=t'}:=by
 have nit:∀b u,H b=some u->b≠it:=λb u e z=>by rw[z,hn] at e;cases e
 refine I.step (g':=s.gens) (d':=s.drawn) (ch:=[it]) (λb hb=>?_) (λb o _ _ hc e _=>k b o (λz=>hc (by simp[z])) e) (λb o _ _ hc e _=>⟨o.slots,k b o (λz=>hc (by simp[z])) e⟩) (λ_ _ _ _ n=>n)
  (λb o hc e=>⟨o,k b o (λz=>hc (by simp[z])) e⟩) (λ_ _ e=>e) (λ_ _ _ e=>e) (λb e=>e) (λm hm=>?_) (λb u e=>?_) I.bare
 ·have e:b=it:=by simpa using hb
  subst e
  exact⟨h1,hL,h2,h3⟩
 ·obtain⟨o,es,ep,ho,r⟩:=hm
  exact⟨o,es,ep,k _ o (a3b hL) ho,r⟩
 ·refine (I.hok b u e).stay (λc v hc q=>k c v ?_ q) (λ_ q=>q) λ_ _ q=>q
  rcases hc with z|z
  ·rw[z];exact nit b u e
  ·exact nit c _ z
theorem Inv.tok(I:Inv X pins σ H s)(t:Nat):Inv X pins σ H {s with toks:=t}:=I.un (h':=s.heap) (t':=t) Un.refl I.hok
theorem Inv.kept{t':Nat}(I:Inv X pins σ H s)(k:∀b u,s.heap.get? b=some u->h'.get? b=some u):Inv X pins σ H {s with heap:=h',toks:=t'}:=I.un (Un.kept k) (I.hok.kept k)
theorem Inv.laid {a:Addr} {o:HO} {t':Nat} (I:Inv X pins σ H s) (k:∀b u,s.heap.get? b=some u->h'.get? b=some u) (hp:s.heap.objs.size<=a) (new:c5 X.prog X.w (bF H a o) h' a o) :
  Inv X pins σ (bF H a o) {s with heap:=h',toks:=t'}:=I.un (Un.laid k hp (I.hok.fresh hp)) (I.hok.laid k hp new)
theorem Inv.write {x e:Addr} {o:HO} {t':Nat} (I:Inv X pins σ H s) (mu:a2F (H x)) (he:e=x\/H e=some (.own x)) (k:∀b u,b≠e->s.heap.get? b=some u->h'.get? b=some u) (heo:∃u,h'.get? e=some u)
  (new:c5 X.prog X.w (bF H x o) h' x o):Inv X pins σ (bF H x o) {s with heap:=h',toks:=t'}:=I.un (Un.write mu he k heo) (I.hok.write mu he k heo new)
theorem Inv.pins_of{pins':List (Addr×Obj)}(I:Inv X pins σ H s)(h:∀p∈pins',s.heap.get? p.1=some p.2/\H p.1=none/\p.1≠X.env.locals/\p.1∉X.fs/\∀v,p.2.data≠ .cell v):Inv X pins' σ H s:=
 ⟨I.ok,I.os,I.bare,I.base,I.loc,I.cell,I.free,I.freeC,λp hp=>(a1a.mp hp).elim (λz=>I.pin p (a2z _ z)) (h p),I.hok,I.len⟩
theorem C3{N:List Str}(hN:N.Nodup){i j:Nat}{x:Str}(a:N[i]? =some x)(b:N[j]? =some x):i=j:=by
 obtain⟨h1,e1⟩:=a0j.mp a
 obtain⟨h2,e2⟩:=a0j.mp b
 exact (List.getElem_inj hN).mp (e1.trans e2.symm)
theorem LO {M:Model} {A:Around} {E:Value->Shared->Prop} {i:Nat} {x:Str} {v:V} {u:Value} {Q:Unit->Shared->Prop} (I:Inv X pins σ H s) (hN:X.N.Nodup) (hi:X.N[i]? =some x) (hx:JA X.env.scope x) (r:bD v u)
  (h:∀s',Inv X pins (σ.set i (some v)) H s'->(∃a,Heap.SameBut a s.heap s'.heap/\(a=X.env.locals\/X.env.cells.lookup x=some a))->Q () s') (hf:X.fn x=true\/X.env.scope.names.lookup x=some .local:=by first|exact .inl rfl|exact .inr rfl|assumption):wpAny M A (storeName X.env x u) Q E s:=by
 obtain⟨m,hn,hl⟩:=id I.loc
 have hcls:(X.env.scope.kind== .class||(X.env.scope.kind== .module&&X.env.locals !=X.env.globals))=false:=by rw[I.ok.kind];rfl
 have hiσ:i<σ.length:=by rw[I.len];exact (a0j.mp hi).1
 have cne:=I.cne
 have tracked:∀ {a:Addr} {h':Heap},(∃o,s.heap.get? a=some o/\H a=none)->Heap.SameBut a s.heap h'->mP X.prog X.w H h':=fun {a h'} ha hs b ob e=>by
  obtain⟨_,_,hfree⟩:=ha
  refine (I.hok b ob e).stay (λc w' hc q=>(hs.2 c ?_).trans q) (λ_ q=>q) λ_ _ q=>q
  rintro rfl
  rcases hc with rfl|hc
  ·rw[hfree] at e;cases e
  ·rw[hfree] at hc;cases hc
 rcases hx with hk|hk
 ·refine wpAny_storeName_local hk hn (λh' hn' hs=>?_) hcls
  obtain⟨oL,_,_,hoL,_⟩:=id hn
  refine h _ ⟨I.ok,I.os,I.bare,⟨λb o e n hb hx=>?_,λb o e n hb hx=>?_,I.base.free,λb o e hx=>?_,I.base.tups,I.base.frzs,I.base.tbls⟩,⟨_,hn',λj y v' e1 e2 e3=>?_⟩,λy c e=>?_,I.free,I.freeC,λp hp=>?_,tracked ⟨oL,hoL,I.free⟩ hs,by simpa using I.len⟩ ⟨_,hs,.inl rfl⟩
  ·exact (hs.2 b (a0w (a1d (a0n e) I.ok.above))).trans (I.base.keep b o e n hb hx)
  ·obtain⟨sl,e1⟩:=I.base.slot b o e n hb hx
   exact⟨sl,(hs.2 b (a0w (a1d (a0n e) I.ok.above))).trans e1⟩
  ·obtain⟨o',e1⟩:=I.base.there b o e hx
   exact⟨o',(hs.2 b (a0w (a1d (a0n e) I.ok.above))).trans e1⟩
  ·by_cases hj:j=i
   ·subst hj
    rw[hi] at e1;cases e1
    rw[List.getElem?_set_self hiσ] at e2
    cases e2
    exact⟨u,r,.inl ⟨hk,by simp⟩⟩
   ·rw [List.getElem?_set_ne (a3b hj)] at e2
    obtain⟨u',r',q⟩:=hl j y v' e1 e2 e3
    refine⟨u',r',?_⟩
    rcases q with ⟨k,e⟩|⟨k,c,e,z⟩
    ·refine .inl ⟨k,?_⟩
     have:y≠x:=λe=>hj (C3 hN e1 (e▸hi))
     simp[this,e]
    ·exact .inr ⟨k,c,e,z.sameBut hs (cne y c e)⟩
  ·obtain⟨w',z⟩:=I.cell y c e
   exact⟨w',z.sameBut hs (cne y c e)⟩
  ·obtain⟨e,n,ne,nf,d⟩:=I.pin p hp
   exact⟨(hs.2 p.1 ne).trans e,n,ne,nf,d⟩
 ·have hfn:X.fn x=true:=by
   rcases hf with z|z
   ·exact z
   ·rw[z] at hk;cases hk
  obtain⟨c,hc⟩:=I.ok.has x (.inl hk)
  obtain⟨w',z⟩:=I.cell x c hc
  refine wpAny_storeName_cell I.ok.kind hk hc z (λh' hc' hs=>?_)
  obtain⟨oc,hoc,hocd⟩:=id z
  refine h {s with heap:=h'} ⟨I.ok,I.os,I.bare,⟨λb o e n hb hx=>?_,λb o e n hb hx=>?_,I.base.free,λb o e hx=>?_,I.base.tups,I.base.frzs,I.base.tbls⟩,⟨m,hn.sameBut hs (a3b (cne x c hc)),λj y v' e1 e2 e3=>?_⟩,λy c' e=>?_,I.free,I.freeC,λp hp=>?_,tracked ⟨oc,hoc,I.freeC x c hc⟩ hs,by simpa using I.len⟩ ⟨c,hs,.inr hc⟩
  ·exact (hs.2 b (a0w (a1d (a0n e) (I.ok.cab x c hfn hc)))).trans (I.base.keep b o e n hb hx)
  ·obtain⟨sl,e1⟩:=I.base.slot b o e n hb hx
   exact⟨sl,(hs.2 b (a0w (a1d (a0n e) (I.ok.cab x c hfn hc)))).trans e1⟩
  ·obtain⟨o',e1⟩:=I.base.there b o e hx
   exact⟨o',(hs.2 b (a0w (a1d (a0n e) (I.ok.cab x c hfn hc)))).trans e1⟩
  ·by_cases hj:j=i
   ·subst hj
    rw[hi] at e1;cases e1
    rw[List.getElem?_set_self hiσ] at e2
    cases e2
    exact⟨u,r,.inr ⟨.inl hk,c,hc,hc'⟩⟩
   ·rw [List.getElem?_set_ne (a3b hj)] at e2
    obtain⟨u',r',q⟩:=hl j y v' e1 e2 e3
    refine⟨u',r',?_⟩
    rcases q with q|⟨k,c',e,z'⟩
    ·exact .inl q
    ·refine .inr ⟨k,c',e,z'.sameBut hs ?_⟩
     rintro rfl
     exact hj (C3 hN e1 (I.ok.inj _ _ _ e hc▸hi))
  ·by_cases hcc:c'=c
   ·subst hcc;exact⟨_,hc'⟩
   ·obtain⟨w2,z2⟩:=I.cell y c' e
    exact⟨w2,z2.sameBut hs hcc⟩
  ·obtain⟨e,n,ne,nf,d⟩:=I.pin p hp
   refine⟨(hs.2 p.1 ?_).trans e,n,ne,nf,d⟩
   intro q
   rw[q,hoc] at e
   have q':oc=p.2:=a1j e
   exact d w' (by rw[<- q'];exact hocd)
theorem pQ {M:Model} {A:Around} {E:Value->Shared->Prop} {i:Nat} {x:Str} {v:V} {u:Value} {Q:Unit->Shared->Prop} (I:Inv X pins σ H s) (hN:X.N.Nodup) (hi:X.N[i]? =some x) (hx:JA X.env.scope x) (r:bD v u)
  (h:∀s',Inv X pins (σ.set i (some v)) H s'->Q () s') (hf:X.fn x=true\/X.env.scope.names.lookup x=some .local:=by first|exact .inl rfl|exact .inr rfl|assumption):wpAny M A (storeName X.env x u) Q E s:=
 LO I hN hi hx r (λs' I' _=>h s' I') hf
theorem Inv.call' {s':Shared} {ch:List Addr} (I:Inv X pins σ H s) (ho:s'.os=s.os) (u:Un (NZ X.stack) ch H H' s.heap s'.heap) (hok:mP X.prog X.w H' s'.heap) (hg:AllBare s'.gens/\GX s.gens s'.gens)
  (hch:∀b∈ch,(b∈X.ex\/X.s₀.heap.objs.size<=b)/\b≠X.env.locals/\(∀x c,X.env.cells.lookup x=some c->c≠b)/\∀p∈X.pn++pins,p.1≠b):Inv X pins σ H' s':=by
 obtain⟨h',g',d',t',o'⟩:=s'
 have e:o'=s.os:=ho
 subst e
 exact I.call (g':=g') (t':=t') (d':=d') u hok hg hch
end
abbrev XK:=Value->Option Ac->Hp->Prop
abbrev St:=List (Option V)
abbrev VK:=V->Hp->Prop
abbrev TE:=St->Hp->VK->Prop
abbrev TT:=St->Hp->(Bool->Hp->Prop)->Prop
abbrev TA:=St->Hp->(List V->Hp->Prop)->Prop
structure Ends where
 nx:St->Hp->Prop
 rt:VK
 bk:St->Hp->Prop:=λ_ _=>False
 ct:St->Hp->Prop:=λ_ _=>False
abbrev TS:=Ends->St->Hp->Prop
def EP(X:Cx)(pins:List (Ac×Obj))(σ:St)(Q:VK)(u:Value)(s':Ab):Prop:=∃v H',Inv X pins σ H' s'/\bD v u/\Q v H'
def TP(X:Cx)(pins:List (Ac×Obj))(σ:St)(Q:Bool->Hp->Prop)(b:Bool)(s':Ab):Prop:=∃H',Inv X pins σ H' s'/\Q b H'
def AP(X:Cx)(pins:List (Ac×Obj))(σ:St)(Q:List V->Hp->Prop)(us:List Value)(s':Ab):Prop:=∃vs H',Inv X pins σ H' s'/\b9 vs us/\Q vs H'
def SP(X:Cx)(pins:List (Addr×Obj))(D:Ends)(f:Flow)(s':Shared):Prop:=
 match f with
 |.next=>∃σ' H',Inv X pins σ' H' s'/\D.nx σ' H'
 |.brk=>∃σ' H',Inv X pins σ' H' s'/\D.bk σ' H'
 |.cont=>∃σ' H',Inv X pins σ' H' s'/\D.ct σ' H'
 |.ret u=>∃v σ' H',Inv X pins σ' H' s'/\bD v u/\D.rt v H'
def PE(X:Cx)(e:Expr)(t:TE):Prop:=
 ∀(pins:List (Ac×Obj)) (s:Ab) (σ:St) (H:Hp) (Q:VK),Inv X pins σ H s->t σ H Q->wpAny (model X.prog X.w) X.A (eval e X.env) (EP X pins σ Q) X.xe s
def PT(X:Cx)(e:Expr)(t:TT):Prop:=
 ∀(pins:List (Ac×Obj)) (s:Ab) (σ:St) (H:Hp) (Q:Bool->Hp->Prop),Inv X pins σ H s->t σ H Q->wpAny (model X.prog X.w) X.A (isTrue e X.env (eval e X.env)) (TP X pins σ Q) X.xe s
def PW(X:Cx)(e:Expr)(t:TT):Prop:=
 ∀(whole:Sem Value) (pins:List (Ac×Obj)) (s:Ab) (σ:St) (H:Hp) (Q:Bool->Hp->Prop),Inv X pins σ H s->t σ H Q->wpAny (model X.prog X.w) X.A (isTrue e X.env whole) (TP X pins σ Q) X.xe s
theorem PW.pt{X:Cx}{e:Expr}{t:TT}(h:PW X e t):PT X e t:=h _
def PA(X:Cx)(es:List Expr)(t:TA):Prop:=
 ∀(pos:Pos) (pins:List (Ac×Obj)) (s:Ab) (σ:St) (H:Hp) (Q:List V->Hp->Prop),Inv X pins σ H s->t σ H Q->wpAny (model X.prog X.w) X.A (spliced (backTo pos (starEach es X.env))) (AP X pins σ Q) X.xe s
def PS(X:Cx)(st:Stmt)(t:TS):Prop:=
 ∀(pins:List (Ac×Obj)) (s:Ab) (σ:St) (H:Hp) (D:Ends),Inv X pins σ H s->t D σ H->wpAny (model X.prog X.w) X.A (exec st X.env) (SP X pins D) X.xe s
def wV(X:Cx)(st:List Stmt)(t:TS):Prop:=
 ∀(pins:List (Ac×Obj)) (s:Ab) (σ:St) (H:Hp) (D:Ends),Inv X pins σ H s->t D σ H->wpAny (model X.prog X.w) X.A (execs st X.env) (SP X pins D) X.xe s
theorem cO{α:Type}{t:Sem α}{Q Q':α->Ab->Prop}{M:Model}{A:Around}{E:Value->Ab->Prop}{s:Ab}(h:wpAny M A t Q E s)(hQ:∀a s,Q a s->Q' a s):wpAny M A t Q' E s:=a1l h hQ λ_ _ x=>x
section
variable{X:Cx}
def eV(i:Nat):TE:=λσ H Q=>∃v,σ[i]? =some (some v)/\Q v H
def tC(v:V):TE:=λ_ H Q=>Q v H
theorem a0N {i:Nat} {x:Str} {pos:Pos} (hN:X.N[i]? =some x) (hv:a5N X.env.scope x) (hd:(x==("__debug__" : Str))=false:=by decide) (hcd:(x==("__classdict__" : Str))=false:=by decide):PE X (.Name x pos) (eV i):=by
 intro pins s σ H Q I h
 obtain⟨v,e,h⟩:=h
 obtain⟨m,hn,hl⟩:=I.loc
 obtain⟨u,r,l⟩:=hl i x v hN e hv
 have fin:EP X pins σ Q u s:=⟨v,H,I,r,h⟩
 rcases l with ⟨hk,hm⟩|⟨hk,c,hc,hcell⟩
 ·exact wpAny_Name (wpAny_loadName_local I.ok.kind hk hn hm fin) hd
 ·rcases hk with hk|hk
  ·exact wpAny_Name (wpAny_loadName_cell I.ok.kind hk hc hcell fin) hd
  ·exact wpAny_Name (wpAny_loadName_free I.ok.kind hk hc hcell fin hcd) hd
theorem a0F{i j pos}:PE X (.Constant (.int i) j pos) (tC (.int i)):=λ_ _ _ H _ I h=>wpAny_Constant_int ⟨.int i,H,I.tok _,⟨_,rfl⟩,h⟩
theorem a3S{b j pos}:PE X (.Constant (.bool b) j pos) (tC (.bl b)):=λ_ _ _ H _ I h=>Constant_bool ⟨.bl b,H,I,rfl,h⟩
theorem a0G{j pos}:PE X (.Constant .none j pos) (tC .non):=λ_ _ _ H _ I h=>Constant_none ⟨.non,H,I,rfl,h⟩
theorem a0L{x j pos}:PE X (.Constant (.str x) j pos) (tC (.str x)):=λ_ _ _ H _ I h=>Calls.Constant_str ⟨.str x,H,I.tok _,⟨_,rfl⟩,h⟩
def Gl(X:Cx)(x:Str):Prop:=X.env.kindOf x=some .globalImplicit
theorem US {E:Value->Shared->Prop} {pins:List (Addr×Obj)} {s:Shared} {σ:St} {H:Hp} {x:Str} {u:Value} {pos:Pos} {Q:Value->Shared->Prop} (I:Inv X pins σ H s) (hg:Gl X x) (hm:X.mg x=some u) (h:Q u s)
  (hd:(x==("__debug__" : Str))=false:=by decide):wpAny (model X.prog X.w) X.A (eval (.Name x pos) X.env) Q E s:=
 Calls.Name_function_global I.ok.kind hg (Calls.loadGlobal_global (by rw[I.ok.glob];exact I.mod.glob.keeps I.bk) hm h) hd
theorem qJ {E:Value->Shared->Prop} {pins:List (Addr×Obj)} {s:Shared} {σ:St} {H:Hp} {x:Str} {u:Value} {pos:Pos} {Q:Value->Shared->Prop} (I:Inv X pins σ H s) (hg:Gl X x) (hm:X.mg x=none) (hv:bootBuiltins x=some u) (h:Q u s)
  (hn:x≠ "__name__":=by decide) (hd:(x==("__debug__" : Str))=false:=by decide):wpAny (model X.prog X.w) X.A (eval (.Name x pos) X.env) Q E s:=by
 obtain⟨mb,h1,h2⟩:=I.mod.blt
 exact Calls.Name_function_global I.ok.kind hg (Calls.loadGlobal_builtin (by rw[I.ok.glob];exact I.mod.glob.keeps I.bk) hm (by rw[I.ok.blt];exact h1.keeps I.bk) ((h2 x hn).trans hv) h) hd
theorem V7{x:Str}{v:V}{u:Value}{pos:Pos}(hg:Gl X x)(hm:X.mg x=none)(hv:bootBuiltins x=some u)(r:bD v u)(hn:x≠ "__name__":=by decide)(hd:(x==("__debug__" : Str))=false:=by decide):PE X (.Name x pos) (tC v):=
 λ_ _ _ H _ I h=>qJ I hg hm hv ⟨v,H,I,r,h⟩ hn hd
variable{a b:Expr}{ta tb:TE}{pos:Pos}
def tB(t:TE):TT:=λσ H Q=>t σ H λx H1=>∃c,x= .bl c/\Q c H1
theorem a0U{e:Expr}{t:TE}(h:PE X e t)(he:∀whole,isTrue e X.env whole=(do let v <- whole;standAt e.pos;holding [v] (truthy v)):=by intro _;rfl):PT X e (tB t):=by
 intro pins s σ H Q I hw
 refine isTrue_plain (cO (h pins s σ H _ I hw) λv s1 ⟨x,H1,I1,r1,q1⟩=>?_) (he _)
 obtain⟨d,rfl,q⟩:=q1
 cases r1
 exact a3y ⟨H1,I1,q⟩
variable{tA tB':TT}{rest:List Expr}
def a6K(t u:TT):TT:=λσ H Q=>t σ H λc H1=>if c=true then u σ H1 Q else Q false H1
def a7I(t u:TT):TT:=λσ H Q=>t σ H λc H1=>if c=true then Q true H1 else u σ H1 Q
def a6P(t:TT):TT:=λσ H Q=>t σ H λc H1=>Q (!c) H1
theorem VN(ha:PT X a tA):PW X (.BoolOp .And [a] pos) tA:=by
 intro wh pins s σ H Q I h
 refine isTrue_and (cO (ha pins s σ H Q I h) λc s1 e=>?_)
 cases c with
 |true=>exact isTrue_and_nil e
 |false=>exact e
theorem a0W(ha:PT X a tA):PW X (.BoolOp .Or [a] pos) tA:=by
 intro wh pins s σ H Q I h
 refine isTrue_or (cO (ha pins s σ H Q I h) λc s1 e=>?_)
 cases c with
 |false=>exact isTrue_or_nil e
 |true=>exact e
theorem a0V(ha:PT X a tA)(hb:PW X (.BoolOp .And (b::rest) pos) tB'):PW X (.BoolOp .And (a::b::rest) pos) (a6K tA tB'):=by
 intro wh pins s σ H Q I h
 refine isTrue_and (cO (ha pins s σ H _ I h) λc s1 ⟨H1,I1,q1⟩=>?_)
 cases c with
 |true=>exact hb wh pins s1 σ H1 Q I1 q1
 |false=>exact⟨H1,I1,q1⟩
theorem a40(ha:PT X a tA)(hb:PW X (.BoolOp .Or (b::rest) pos) tB'):PW X (.BoolOp .Or (a::b::rest) pos) (a7I tA tB'):=by
 intro wh pins s σ H Q I h
 refine isTrue_or (cO (ha pins s σ H _ I h) λc s1 ⟨H1,I1,q1⟩=>?_)
 cases c with
 |true=>exact⟨H1,I1,q1⟩
 |false=>exact hb wh pins s1 σ H1 Q I1 q1
theorem a0T(ha:PT X a tA):PT X (.UnaryOp .Not a pos) (a6P tA):=by
 intro pins s σ H Q I h
 exact isTrue_not (ha pins s σ H (λc H1=>Q (!c) H1) I h)
def a4J(ta tb:TE):TE:=λσ H Q=>ta σ H λx H1=>∃c,x= .bl c/\if c=true then tb σ H1 Q else Q (.bl false) H1
def a6R(ta tb:TE):TE:=λσ H Q=>ta σ H λx H1=>∃c,x= .bl c/\if c=true then Q (.bl true) H1 else tb σ H1 Q
def a4N(ta:TE):TE:=λσ H Q=>ta σ H λx H1=>∃c,x= .bl c/\Q (.bl (!c)) H1
theorem a0I{op}{t:TE}(h:PE X a t):PE X (.BoolOp op [a] pos) t:=λpins s σ H Q I hw=>BoolOp_one (h pins s σ H Q I hw)
theorem a0D(ha:PE X a ta)(hb:PE X (.BoolOp .And (b::rest) pos) tb):PE X (.BoolOp .And (a::b::rest) pos) (a4J ta tb):=by
 intro pins s σ H Q I h
 refine BoolOp_and (cO (ha pins s σ H _ I h) λv s1 ⟨x,H1,I1,r1,q1⟩=>?_)
 obtain⟨c,rfl,q1⟩:=q1
 cases r1
 refine a3y ?_
 cases c with
 |true=>exact hb pins s1 σ H1 Q I1 q1
 |false=>exact⟨.bl false,H1,I1,rfl,q1⟩
theorem a3V(ha:PE X a ta)(hb:PE X (.BoolOp .Or (b::rest) pos) tb):PE X (.BoolOp .Or (a::b::rest) pos) (a6R ta tb):=by
 intro pins s σ H Q I h
 refine BoolOp_or (cO (ha pins s σ H _ I h) λv s1 ⟨x,H1,I1,r1,q1⟩=>?_)
 obtain⟨c,rfl,q1⟩:=q1
 cases r1
 refine a3y ?_
 cases c with
 |false=>exact hb pins s1 σ H1 Q I1 q1
 |true=>exact⟨.bl true,H1,I1,rfl,q1⟩
theorem a0H(ha:PE X a ta):PE X (.UnaryOp .Not a pos) (a4N ta):=by
 intro pins s σ H Q I h
 refine UnaryOp_ (cO (ha pins s σ H _ I h) λv s1 ⟨x,H1,I1,r1,q1⟩=>?_)
 obtain⟨c,rfl,q1⟩:=q1
 cases r1
 exact not_of (a3y ⟨.bl (!c),H1,I1,rfl,q1⟩)
end
def d9 (K:PySem.W.Frag) (H:Hp) (a:Addr) (xs:List V):Prop:=
 Rd H a (.lst xs)\/
  ∃(o:Obj) (its:Array Value) (n:Nat),K.lookup a=some o/\o.cls= .type "list"/\o.dict=none/\o.data= .seq its n/\its.size<=sizeLine/\b9 xs its.toList
def dQ (K:PySem.W.Frag) (H:Hp) (a:Addr) (xs:List V):Prop:=
 Rd H a (.tup xs)\/
  ∃(o:Obj) (its:Array Value) (n:Nat),K.lookup a=some o/\o.cls= .type "tuple"/\o.data= .seq its n/\its.size<=sizeLine/\b9 xs its.toList
def a5O:Value->Option V
 |.none=>some .non
 |.bool b=>some (.bl b)
 |.int i _=>some (.int i)
 |.str x _=>some (.str x)
 |.bytes b _=>some (.byt b)
 |.float b _=>some (.flt b)
 |.ref a=>some (.ref a)
 |.type n=>some (.ty n)
 |_=>none
theorem bD.abs{x:V}{u:Value}(r:bD x u):a5O u=some x:=by
 cases x with
 |non=>cases r;rfl
 |bl _=>cases r;rfl
 |int _=>obtain⟨t,rfl⟩:=r;rfl
 |str _=>obtain⟨t,rfl⟩:=r;rfl
 |byt _=>obtain⟨t,rfl⟩:=r;rfl
 |flt _=>obtain⟨t,rfl⟩:=r;rfl
 |ref _=>cases r;rfl
 |ty _=>cases r;rfl
theorem bD.inj{x y:V}{u:Value}(r:bD x u)(q:bD y u):x=y:=a1j (r.abs.symm.trans q.abs)
theorem b9.inj:∀ {xs ys:List V} {us:List Value},b9 xs us->b9 ys us->xs=ys
 |_,_,_,.nil,.nil=>rfl
 |_,_,_,.cons r t,.cons r' t'=>by rw[r.inj r',b9.inj t t']
section
variable{X:Cx}{pins:List (Ac×Obj)}{σ:St}{H:Hp}{s:Ab}{a:Ac}{xs ys:List V}
theorem d9.of{K:Aa}(h:H a=some (.lst xs)):d9 K H a xs:=.inl (.inl h)
theorem dQ.of{K:Aa}(h:H a=some (.tup xs)):dQ K H a xs:=.inl (.inl h)
theorem Inv.list (I:Inv X pins σ H s) (h:d9 X.K H a xs):∃its:List Value,b9 xs its/\PlainL s.heap a its.toArray/\xs.length<=sizeLine:=by
 rcases h with h|⟨o,its,n,hk,hc,hd,hs,hz,r⟩
 ·obtain⟨z,its,n,r,e⟩:=h.ok I.hok
  exact⟨its,r,⟨_,n,e,rfl,rfl,rfl⟩,z⟩
 ·refine⟨its.toList,r,⟨o,n,I.kIn a o hk,hc,hd,by simpa using hs⟩,?_⟩
  have e:=r.length
  simp only[a0o] at e
  omega
theorem Inv.tuple (I:Inv X pins σ H s) (h:dQ X.K H a xs):∃its:List Value,b9 xs its/\IsTup s.heap a its.toArray/\xs.length<=sizeLine:=by
 rcases h with h|⟨o,its,n,hk,hc,hs,hz,r⟩
 ·obtain⟨z,its,r,p⟩:=h.ok I.hok
  exact⟨its,r,p,z⟩
 ·refine⟨its.toList,r,⟨o,I.kIn a o hk,hc,n,by simpa using hs⟩,?_⟩
  have e:=r.length
  simp only[a0o] at e
  omega
theorem Inv.list_inj(I:Inv X pins σ H s)(h:d9 X.K H a xs)(h':d9 X.K H a ys):xs=ys:=by
 obtain⟨its,r,⟨o,n,e,_,_,d⟩,_⟩:=I.list h
 obtain⟨its',r',⟨o',n',e',_,_,d'⟩,_⟩:=I.list h'
 rw[e] at e';cases e'
 rw[d] at d'
 injection d' with d1 _
 have:its=its':=by simpa using congrArg Array.toList d1
 subst this
 exact r.inj r'
theorem Inv.tuple_inj(I:Inv X pins σ H s)(h:dQ X.K H a xs)(h':dQ X.K H a ys):xs=ys:=by
 obtain⟨its,r,⟨o,e,_,n,d⟩,_⟩:=I.tuple h
 obtain⟨its',r',⟨o',e',_,n',d'⟩,_⟩:=I.tuple h'
 rw[e] at e';cases e'
 rw[d] at d'
 injection d' with d1 _
 have:its=its':=by simpa using congrArg Array.toList d1
 subst this
 exact r.inj r'
end
abbrev Cx.wish(X:Cx)(E:Value->Ab->Prop):Cx:={X with xe:=E}
abbrev Cx.nox(X:Cx):Cx:=X.wish λ_ _=>False
theorem Cx.Ok.wish{X:Cx}(ok:X.Ok)(E:Value->Shared->Prop):(X.wish E).Ok:=
 ⟨ok.mod,ok.kind,ok.glob,ok.blt,ok.above,ok.inj,ok.has,ok.cab,ok.hd,ok.frames,ok.stk,ok.exf,ok.bs,ok.bsz,ok.noex,ok.exfs,ok.funs,ok.frf,ok.tb⟩
theorem Cx.Ok.unwish{X:Cx}{E:Value->Shared->Prop}(ok:(X.wish E).Ok):X.Ok:=
 ⟨ok.mod,ok.kind,ok.glob,ok.blt,ok.above,ok.inj,ok.has,ok.cab,ok.hd,ok.frames,ok.stk,ok.exf,ok.bs,ok.bsz,ok.noex,ok.exfs,ok.funs,ok.frf,ok.tb⟩
section
variable{X:Cx}{pins:List (Ac×Obj)}{σ:St}{H:Hp}{s:Ab}{E:Value->Ab->Prop}
theorem Inv.wish(I:Inv X pins σ H s)(E:Value->Ab->Prop):Inv (X.wish E) pins σ H s:=⟨I.ok.wish E,I.os,I.bare,I.base,I.loc,I.cell,I.free,I.freeC,I.pin,I.hok,I.len⟩
theorem Inv.unwish(I:Inv (X.wish E) pins σ H s):Inv X pins σ H s:=⟨I.ok.unwish,I.os,I.bare,I.base,I.loc,I.cell,I.free,I.freeC,I.pin,I.hok,I.len⟩
theorem SP.unwish{D:Ends}{f:Flow}{s':Shared}(h:SP (X.wish E) pins D f s'):SP X pins D f s':=by
 cases f with
 |next=>obtain⟨σ',H',I,q⟩:=h;exact⟨σ',H',I.unwish,q⟩
 |brk=>obtain⟨σ',H',I,q⟩:=h;exact⟨σ',H',I.unwish,q⟩
 |cont=>obtain⟨σ',H',I,q⟩:=h;exact⟨σ',H',I.unwish,q⟩
 |ret u=>obtain⟨v,σ',H',I,r,q⟩:=h;exact⟨v,σ',H',I.unwish,r,q⟩
theorem wV.nox{st:List Stmt}{t:TS}(h:wV X.nox st t):wV X st t:=λpins s σ H D I hw=>
 a1l (h pins s σ H D (I.wish _) hw) (λ_ _ q=>q.unwish) λ_ _ z=>False.elim z
end
section
variable{X:Cx}{st:Stmt}{rest:List Stmt}{t u:TS}{e:Expr}{te:TE}{pos:Pos}
def IZ:TS:=λD σ H=>D.nx σ H
def WR(t u:TS):TS:=λD σ H=>t {D with nx:=u D} σ H
theorem IB:wV X [] IZ:=λ_ _ σ H _ I h=>a6u ⟨σ,H,I,h⟩
theorem CO (h1:PS X st t) (h2:wV X rest u):wV X (st::rest) (WR t u):=by
 intro pins s σ H D I h
 refine wpAny_execs_cons (cO (h1 pins s σ H {D with nx:=u D} I h) λf s1 q=>?_)
 cases f with
 | next=>
  obtain⟨σ',H',I',q⟩:=q
  exact h2 pins s1 σ' H' D I' q
 |ret v=>exact q
 |brk=>exact q
 |cont=>exact q
theorem IC(h1:PS X st t):wV X [st] t:=by
 intro pins s σ H D I h
 refine wpAny_execs_cons (cO (h1 pins s σ H D I h) λf s1 q=>?_)
 cases f with
 |next=>exact a6u q
 |ret v=>exact q
 |brk=>exact q
 |cont=>exact q
theorem Inv.quiet{pins:List (Ac×Obj)}{σ:St}{H:Hp}{s:Ab}(I:Inv X pins σ H s):interactive X.env=false:=by simp[interactive,I.ok.kind]
def a4M(te:TE):TS:=λD σ H=>te σ H λ_ H1=>D.nx σ H1
theorem IA(he:PE X e te)(hs:swapsWith e none pos.line X.env=pure false:=by rfl):PS X (.Expr e pos) (a4M te):=by
 intro pins s σ H D I h
 exact wpAny_Expr_any (cO (he pins s σ H _ I h) λv s1 ⟨x,H1,I1,r1,q1⟩=>⟨σ,H1,I1,q1⟩) I.quiet hs
def WQ(te:TE):TS:=λD σ H=>te σ H D.rt
theorem FI(he:PE X e te):PS X (.Return (some e) pos) (WQ te):=by
 intro pins s σ H D I h
 exact wpAny_Return_some (cO (he pins s σ H _ I h) λv s1 ⟨x,H1,I1,r1,q1⟩=>⟨x,σ,H1,I1,r1,q1⟩)
def WL(c:TT)(t u:TS):TS:=λD σ H=>c σ H λb H1=>if b=true then t D σ H1 else u D σ H1
theorem XM{c:Expr}{a b:List Stmt}{tc:TT}(hc:PT X c tc)(ha:wV X a t)(hb:wV X b u):PS X (.If c a b pos) (WL tc t u):=by
 intro pins s σ H D I h
 refine wpAny_If (cO (hc pins s σ H _ I h) λd s1 ⟨H1,I1,q1⟩=>?_)
 cases d with
 |true=>exact ha pins s1 σ H1 D I1 q1
 |false=>exact hb pins s1 σ H1 D I1 q1
end
abbrev TG:=V->St->Hp->(St->Hp->Prop)->Prop
abbrev SI:=List V->St->Hp->(St->Hp->Prop)->Prop
def PG (X:Cx) (target:Expr) (t:TG):Prop:=
 ∀ (pins:List (Addr×Obj)) (s:Shared) (σ:St) (H:Hp) (v:V) (u:Value) (Q:St->Hp->Prop),Inv X pins σ H s->bD v u->t v σ H Q->
  wpAny (model X.prog X.w) X.A (assign target X.env u) (λ_ s'=>∃σ' H',Inv X pins σ' H' s'/\Q σ' H') X.xe s
def X7 (X:Cx) (ts:List Expr) (t:SI):Prop:=
 ∀ (pins:List (Addr×Obj)) (s:Shared) (σ:St) (H:Hp) (vs:List V) (us:List Value) (Q:St->Hp->Prop),Inv X pins σ H s->b9 vs us->t vs σ H Q->
  wpAny (model X.prog X.w) X.A (assignInOrder ((assignEach ts X.env).map (·.2)) us) (λ_ s'=>∃σ' H',Inv X pins σ' H' s'/\Q σ' H') X.xe s
abbrev DZ:=V->V->V->Hp->(Hp->Prop)->Prop
def XZ (X:Cx) (t:DZ):Prop:=
 ∀ (pins:List (Addr×Obj)) (s:Shared) (σ:St) (H:Hp) (o i v:V) (ov iv u:Value) (Q:Hp->Prop),Inv X pins σ H s->bD o ov->bD i iv->bD v u->t o i v H Q->
  wpAny (model X.prog X.w) X.A (setItem ov iv u) (λ_ s'=>∃H',Inv X pins σ H' s'/\Q H') X.xe s
section
variable{X:Cx}{pos:Pos}
def l7(i:Nat):TG:=λv σ H Q=>Q (σ.set i (some v)) H
theorem tI{i:Nat}{x:Str}(hN:X.N.Nodup)(hi:X.N[i]? =some x)(hx:JA X.env.scope x)(hf:X.fn x=true\/X.env.scope.names.lookup x=some .local:=by first|exact .inl rfl|exact .inr rfl|assumption):PG X (.Name x pos) (l7 i):=by
 intro pins s σ H v u Q I r h
 exact wpAny_assign_Name (pQ I hN hi hx r (λs' I'=>⟨_,H,I',h⟩) hf)
def a5U:SI:=λvs σ H Q=>vs=[]/\Q σ H
def a36(t:TG)(u:SI):SI:=λvs σ H Q=>∃v r,vs=v::r/\t v σ H λσ' H'=>u r σ' H' Q
theorem HY:X7 X [] a5U:=by
 intro pins s σ H vs us Q I r h
 obtain⟨e,h⟩:=h
 subst e
 cases r
 exact assignInOrder_nil ⟨σ,H,I,h⟩
theorem v6 {e:Expr} {es:List Expr} {t:TG} {u:SI} (h1:PG X e t) (h2:X7 X es u)
  (hs:(assignEach (e::es) X.env).map (·.2)=assign e X.env::(assignEach es X.env).map (·.2):=by rfl):X7 X (e::es) (a36 t u):=by
 intro pins s σ H vs us Q I r h
 obtain⟨v,vr,e1,h⟩:=h
 subst e1
 cases r with
 | cons r rr=>
  rw[hs]
  refine assignInOrder_cons (cO (h1 pins s σ H _ _ _ I r h) λ_ s1 ⟨σ1,H1,I1,q1⟩=>?_)
  exact h2 pins s1 σ1 H1 _ _ Q I1 rr q1
def a5V(K:Aa)(n:Nat)(t:SI):TG:=λv σ H Q=>∃a xs,v= .ref a/\dQ K H a xs/\xs.length=n/\t xs σ H Q
theorem PM {es:List Expr} {k:Nat} {t:SI} {n:Nat} (hc:X.calm=true) (h:X7 X es t)
  (hn:(assignEach es X.env).length=n:=by rfl) (hst:(assignEach es X.env).findIdx? (·.1)=none:=by rfl):PG X (.Tuple es k pos) (a5V X.K n t):=by
 intro pins s σ H v u Q I r hw
 obtain⟨a,xs,e1,hq,hl,hw⟩:=hw
 subst e1
 cases r
 obtain⟨its,rv,ht,hz⟩:=I.tuple hq
 refine assign_Tuple_tuple (I.ok.hd hc) ht (by simp[hn,<- hl,rv.length]) hst λh' hx=>?_
 have I1:Inv X pins σ H {s with heap:=h'}:=I.kept (t':=s.toks) λb o e=>hx b o (a0w (a0n e)) e
 exact h pins _ σ H xs _ Q I1 (by simpa using rv) hw
def O1(to ti:TE)(t:DZ):TG:=λv σ H Q=>to σ H λo H1=>ti σ H1 λi H2=>t o i v H2 λH3=>Q σ H3
theorem A4 {o i:Expr} {to ti:TE} {t:DZ} (ho:PE X o to) (hi:PE X i ti) (hs:XZ X t)
  (ha:∀v,assign (.Subscript o i pos) X.env v=(do
   let ov <- holding [v] (eval o X.env)
   let iv <- holding [v,ov] (eval i X.env)
   standAt pos
   holding [v,ov,iv] (setItem ov iv v)
   release [v,ov,iv] []):=by intro _;rfl):PG X (.Subscript o i pos) (O1 to ti t):=by
 intro pins s σ H v u Q I r h
 rw[ha]
 refine a0b (a1w (cO (ho pins s σ H _ I h) λov s1 ⟨x,H1,I1,r1,q1⟩=>?_))
 refine a0b (a1w (cO (hi pins s1 σ H1 _ I1 q1) λiv s2 ⟨y,H2,I2,r2,q2⟩=>?_))
 refine a0b (a3w (a0b (a1w (cO (hs pins s2 σ H2 x y v ov iv u _ I2 r1 r2 r q2) λ_ s3 ⟨H3,I3,q3⟩=>?_))))
 exact wpAny_release ⟨σ,H3,I3,q3⟩
def DF(te:TE)(g:TG):TS:=λD σ H=>te σ H λx H1=>g x σ H1 D.nx
theorem A6 {tg e:Expr} {te:TE} {g:TG} (he:PE X e te) (hg:PG X tg g) (hs:swapsWithSole [tg] e pos.line X.env=pure false:=by rfl) (hw:swappedStores [tg] e X.env=pure none:=by rfl)
  (h1:(assignEach [tg] X.env).map (·.2)=[assign tg X.env]:=by rfl):PS X (.Assign [tg] e pos) (DF te g):=by
 intro pins s σ H D I h
 refine wpAny_Assign_stores (cO (he pins s σ H _ I h) λv s1 ⟨x,H1,I1,r1,q1⟩=>?_) hs hw
 rw[h1]
 exact cO (hg pins s1 σ H1 x v _ I1 r1 q1) λ_ s2 q=>q
theorem PU {i:Nat} {x:Str} {e:Expr} {te:TE} {pos':Pos} (hN:X.N.Nodup) (hi:X.N[i]? =some x) (hx:JA X.env.scope x) (he:PE X e te) (hs:swapsWith e (some (.Name x pos')) pos.line X.env=pure false:=by rfl) (hf:X.fn x=true\/X.env.scope.names.lookup x=some .local:=by first|exact .inl rfl|exact .inr rfl|assumption) :
  PS X (.Assign [.Name x pos'] e pos) (DF te (l7 i)):=by
 intro pins s σ H D I h
 refine wpAny_Assign_Name (cO (he pins s σ H _ I h) λv s1 ⟨y,H1,I1,r1,q1⟩=>?_) hs
 exact pQ I1 hN hi hx r1 (λs2 I2=>⟨_,H1,I2,q1⟩) hf
def a6S(i j:Nat)(ta:TA):TS:=λD σ H=>ta σ H λvs H1=>∃v w,vs=[v,w]/\D.nx ((σ.set i (some v)).set j (some w)) H1
theorem a0S {i j:Nat} {x y:Str} {a b:Expr} {ta:TA} {px py pt:Pos} {kt k2 pt2} (hc:X.calm=true) (hN:X.N.Nodup) (hi:X.N[i]? =some x) (hj:X.N[j]? =some y) (hij:i≠j)
  (hx:X.env.scope.names.lookup x=some .local) (hy:X.env.scope.names.lookup y=some .local) (ha:PA X [a,b] ta)
  (hw:swappedStores [.Tuple [.Name x px,.Name y py] kt pt] (.Tuple [a,b] k2 pt2) X.env=pure (some [x,y]))
  (hs:swapsWithSole [.Tuple [.Name x px,.Name y py] kt pt] (.Tuple [a,b] k2 pt2) pos.line X.env=pure false:=by rfl) :
  PS X (.Assign [.Tuple [.Name x px,.Name y py] kt pt] (.Tuple [a,b] k2 pt2) pos) (a6S i j ta):=by
 intro pins s σ H D I h
 rw[exec_Assign_arm]
 refine a0b (a3w ?_)
 rw[hs]
 refine a0b (a0e ?_)
 rw[if_neg (by decide)]
 refine a0b (Tuple_ (cO (ha _ pins s σ H _ I h) λus s1 ⟨vs,H1,I1,r1,q1⟩=>?_))
 obtain⟨v,w,e1,q1⟩:=q1
 subst e1
 obtain ⟨u1,u2,rfl,rv,rw'⟩ : ∃u1 u2,us=[u1,u2]/\bD v u1/\bD w u2:=by
  cases r1 with
  | cons p q=>
   cases q with
   | cons p' q'=>
    cases q'
    exact⟨_,_,rfl,p,p'⟩
 refine a1u ?_ (by show 2<=sizeLine;decide)
 have I2:Inv X pins σ H1 {s1 with heap:=s1.heap.push {cls:=.type "tuple",data:=.seq [u1,u2].toArray} }:=I1.kept (t':=s1.toks) λb o e=>a0f _ e
 rw[hw]
 refine a0b (a0e ?_)
 show wpAny (model X.prog X.w) X.A (do rule "assign.swapped-stores";let items <- unpackItems (.ref s1.heap.objs.size) 2 none;assignInOrder [λv=>bindName X.env y v,λv=>bindName X.env x v] items.reverse;pure Flow.next) _ _ _
 refine a0b (a4y (a0b (unpackItems_tuple (items:=#[u1,u2]) (I.ok.hd hc) (IsTup.new s1.heap _) λh' hx'=>?_)))
 have I3:=I2.kept (h':=h') (t':=s1.toks) λb o e=>hx' b o (a0w (a0n e)) e
 show wpAny _ _ (assignInOrder [λv=>bindName X.env y v,λv=>bindName X.env x v] [u2,u1] >>=λ_=>pure Flow.next) _ _ _
 refine a0b (assignInOrder_cons (wpAny_bindName (pQ I3 hN hj (.inl hy) rw' (λs2 I4=>?_) (.inr hy))))
 refine assignInOrder_cons (wpAny_bindName (pQ I4 hN hi (.inl hx) rv (λs3 I5=>assignInOrder_nil (a0e ?_)) (.inr hx)))
 rw[List.set_comm _ _ (a3b hij)] at I5
 exact⟨_,H1,I5,q1⟩
end
section
variable{X:Cx}{pos:Pos}
def a1Q(c:TT)(tb:TS):TS:=λD σ H=>∃W:Nat->St->Hp->Prop,(∃m,W m σ H)/\∀m σ H,W m σ H->
 c σ H λb H1=>if b=true then ∃N:St->Hp->Prop,(∀σ' H',N σ' H'->∃m',m'<m/\W m' σ' H')/\tb {D with nx:=N,ct:=N,bk:=D.nx} σ H1 else D.nx σ H1
theorem PX {c:Expr} {body:List Stmt} {tc:TT} {tb:TS} (hp:PassesOwn (model X.prog X.w) X.A X.env X.xe) (hc:PT X c tc) (hb:wV X body tb):PS X (.While c body [] pos) (a1Q tc tb):=by
 intro pins s σ H D I h
 obtain⟨W,⟨m0,w0⟩,turn⟩:=h
 refine wpAny_While (codeAny_whileLoop (λn s'=>∃σ' H',Inv X pins σ' H' s'/\W n σ' H') ?_ m0 ⟨σ,H,I,w0⟩)
 rintro n s1 ⟨σ1,H1,I1,w1⟩
 refine a4m hp (cO (hc pins s1 σ1 H1 _ I1 (turn n σ1 H1 w1)) λb s2 ⟨H2,I2,q2⟩=>?_)
 cases b with
 | true=>
  obtain⟨N,hN,q2⟩:=q2
  rw[if_pos rfl]
  refine a4m hp (cO (hb pins s2 σ1 H2 _ I2 q2) λf s3 q3=>?_)
  cases f with
  | next=>
   obtain⟨σ3,H3,I3,n3⟩:=q3
   obtain⟨m',hm,w3⟩:=hN σ3 H3 n3
   exact⟨m',hm,σ3,H3,I3,w3⟩
  | cont=>
   obtain⟨σ3,H3,I3,n3⟩:=q3
   obtain⟨m',hm,w3⟩:=hN σ3 H3 n3
   exact⟨m',hm,σ3,H3,I3,w3⟩
  |brk=>exact q3
  |ret v=>exact q3
 | false=>
  rw[if_neg a0i]
  exact a6u ⟨σ1,H2,I2,q2⟩
end
structure It where
 go:Nat->Hp->Prop
 yld:Nat->Hp->V->Hp->Prop
 stop:Nat->Hp->Prop
def jD(X:Cx)(pins:List (Addr×Obj))(H:Hp)(b:Addr):Prop:=
 H b=none/\b≠X.env.locals/\b∉X.fs/\(b∈X.ex\/X.s₀.heap.objs.size<=b)/\(∀x c,X.env.cells.lookup x=some c->c≠b)/\∀p∈X.pn++pins,p.1≠b
theorem Inv.fpOk {X:Cx} {pins:List (Addr×Obj)} {σ:St} {H H':Hp} {s:Shared} {b:Addr} (I:Inv X pins σ H s) (hb:s.heap.objs.size<=b) (hn:H' b=none):jD X pins H' b:=by
 refine⟨hn,a5h (a1d I.lt hb),I.nofs hb,.inr (a0y I.sz hb),λx c e z=>?_,λp hp z=>?_⟩
 ·obtain⟨v,q⟩:=I.cell x c e
  exact absurd (a1d q.lt (by rw[z];exact hb)) (a5l _)
 ·exact absurd (a1d (a0n (I.pin p hp).1) (by rw[z];exact hb)) (a5l _)
structure Turn (P:Program) (w:World) (K:PySem.W.Frag) (tg:Expr) (J:It) (fp:List Addr) (it:Addr) (tn:Nat->Heap->Prop):Prop where
 mem:it∈fp
 obj:∀i h,tn i h->∀b∈fp,∃o,h.get? b=some o/\∀v,o.data≠ .cell v
 keep:∀i h h',tn i h->(∀b∈fp,∀o,h.get? b=some o->h'.get? b=some o)->tn i h'
 item:∀(X:Cx),X.prog=P->X.w=w->X.K=K->X.calm=true->∀(i:Nat) (pins:List (Addr×Obj)) (s:Shared) (σ:St) (H:Hp) (E:Value->Shared->Prop),Inv X pins σ H s->(∀b∈fp,jD X pins H b)->tn i s.heap->J.go i H->
  wpAny (model P w) X.A (pyNext (.ref it)) (λr s1=>∃u,r=some u/\
   wpAny (model P w) X.A (letOwnedTupleGo tg (.ref it) u) (λ_ s2=>∃x H',Inv X pins σ H' s2/\bD x u/\J.yld i H x H'/\tn (i+1) s2.heap/\∀b∈fp,H' b=none) E s1) E s
 done:∀(X:Cx),X.prog=P->X.w=w->X.K=K->X.calm=true->∀(i:Nat) (pins:List (Addr×Obj)) (s:Shared) (σ:St) (H:Hp) (E:Value->Shared->Prop),Inv X pins σ H s->(∀b∈fp,jD X pins H b)->tn i s.heap->J.stop i H->
  wpAny (model P w) X.A (pyNext (.ref it)) (λr s1=>r=none/\Inv X pins σ H s1) E s
 self:∀(A:Around) (i:Nat) (s:Ab) (Q:Value->Ab->Prop) (E:Value->Ab->Prop),tn i s.heap->Q (.ref it) s->wpAny (model P w) A (pyIter (.ref it)) Q E s
abbrev TI:=St->Hp->(It->Hp->Prop)->Prop
def a70(X:Cx)(pins:List (Addr×Obj))(σ:St)(tg:Expr)(R:It->Hp->Prop)(itv:Value)(s2:Shared):Prop:=
 ∃(it:Ac) (fp:List Ac) (tn:Nat->Heap->Prop) (J:It) (H':Hp),itv= .ref it/\Inv X pins σ H' s2/\Turn X.prog X.w X.K tg J fp it tn/\tn 0 s2.heap/\(∀b∈fp,jD X pins H' b)/\R J H'
def PI (X:Cx) (tg iter:Expr) (wi:TI):Prop:=
 ∀ (pins:List (Addr×Obj)) (s:Shared) (σ:St) (H:Hp) (R:It->Hp->Prop),Inv X pins σ H s->wi σ H R->
  wpAny (model X.prog X.w) X.A (eval iter X.env) (λv s1=>wpAny (model X.prog X.w) X.A (pyIter v) (a70 X pins σ tg R) X.xe s1) X.xe s
theorem O3 {M:Model} {A:Around} {E:Value->Shared->Prop} {s:Shared} {tg:Expr} {it:Addr} {u:Value} {o:Obj} {n:String} {vs:Array Value} {Q:Unit->Shared->Prop} (ho:s.heap.get? it=some o) (hc:o.cls= .type n) (hd:o.data= .fields vs)
    (hn:["enumerate", "zip", "dict_itemiterator", "dict_reverseitemiterator", "odict_iterator", "itertools.zip_longest", "itertools.pairwise"].contains n=false) (hQ:Q () s):wpAny M A (letOwnedTupleGo tg (.ref it) u) Q E s:=by
  unfold letOwnedTupleGo
  cases tg <;>first
    |exact a0e hQ
    | (cases u<;>first
        |exact a0e hQ
        | (refine a0b (wpAny_load ho ?_)
           rw[hc,hd]
           show wpAny M A (if (["enumerate", "zip", "dict_itemiterator", "dict_reverseitemiterator", "odict_iterator", "itertools.zip_longest", "itertools.pairwise"].contains n&&vs[0]? ==some (rawInt _))=true then _ else _) Q E s
           rw[if_neg (by intro h;rw[hn,a6p] at h;cases h)]
           exact a0e hQ))
def a5G(K:PySem.W.Frag)(a:Addr):It:=
 ⟨λi H=>∃xs x,d9 K H a xs/\xs[i]? =some x,λi H x H'=>H'=H/\∀xs,d9 K H a xs->xs[i]? =some x,λi H=>∃xs,d9 K H a xs/\xs.length<=i⟩
def a5H(K:PySem.W.Frag)(a:Addr):It:=
 ⟨λi H=>∃xs x,dQ K H a xs/\xs[i]? =some x,λi H x H'=>H'=H/\∀xs,dQ K H a xs->xs[i]? =some x,λi H=>∃xs,dQ K H a xs/\xs.length<=i⟩
def SE(lo:Int)(n:Nat):It:=⟨λi _=>i<n,λi H x H'=>H'=H/\x= .int (lo+i),λi _=>n<=i⟩
theorem LR {P:Program} {w:World} {K:PySem.W.Frag} {tg:Expr} (a it:Addr):Turn P w K tg (a5G K a) [it] it (λi h=>h.IsListIter it a i) where
 mem:=by simp
 obj:=λi h st b hb=>by
  have e:b=it:=by simpa using hb
  subst e
  obtain⟨o,e,c,d⟩:=st
  exact⟨o,e,λv z=>by rw[d] at z;cases z⟩
 keep:=λi h h' st k=>st.at λo e=>k it (by simp) o e
 item:=by
  intro X hP hw hK hc i pins s σ H E I hf st hg
  subst hP hw hK
  obtain⟨xs,x,hq,hx⟩:=hg
  obtain⟨its,rv,p,hz⟩:=I.list hq
  obtain⟨u,hu,ru⟩:=rv.get hx
  obtain⟨f0,f1,f2,f3,f4,f5⟩:=hf it (by simp)
  refine wpAny_pyNext_list_item st p.isList (x:=u) (by simpa using hu) λh' st' sb=>?_
  have I1:Inv X pins σ H {s with heap:=h'}:=I.turned (t':=s.toks) (λb o hb e=>(sb.2 b hb).trans e) f0 f1 f3 f4 f5
  obtain⟨o,e,c,d⟩:=id st'
  exact⟨u,rfl,O3 (s:={s with heap:=h'}) e c d (by decide) ⟨x,H,I1,ru,⟨rfl,λys hy=>by rw[I.list_inj hy hq];exact hx⟩,st',λb hb=>(hf b hb).1⟩⟩
 done:=by
  intro X hP hw hK hc i pins s σ H E I hf st hg
  subst hP hw hK
  obtain⟨xs,hq,hx⟩:=hg
  obtain⟨its,rv,p,hz⟩:=I.list hq
  obtain⟨f0,f1,f2,f3,f4,f5⟩:=hf it (by simp)
  have hl:=rv.length
  exact wpAny_pyNext_list_end (I.ok.hd hc) st p.isList (by simp;omega) λh' eb=>⟨rfl,I.turned (t':=s.toks) (λb o hb e=>eb b o hb e) f0 f1 f3 f4 f5⟩
 self:=λ_ _ _ _ _ st h=>wpAny_pyIter_listiter st h
theorem G1 {P:Program} {w:World} {K:PySem.W.Frag} {tg:Expr} (a it:Addr):Turn P w K tg (a5H K a) [it] it (λi h=>h.IsTupleIter it a i) where
 mem:=by simp
 obj:=λi h st b hb=>by
  have e:b=it:=by simpa using hb
  subst e
  obtain⟨o,e,c,d⟩:=st
  exact⟨o,e,λv z=>by rw[d] at z;cases z⟩
 keep:=λi h h' st k=>st.at λo e=>k it (by simp) o e
 item:=by
  intro X hP hw hK hc i pins s σ H E I hf st hg
  subst hP hw hK
  obtain⟨xs,x,hq,hx⟩:=hg
  obtain⟨its,rv,p,hz⟩:=I.tuple hq
  obtain⟨u,hu,ru⟩:=rv.get hx
  obtain⟨f0,f1,f2,f3,f4,f5⟩:=hf it (by simp)
  refine wpAny_pyNext_tuple_item st (show s.heap.IsTuple a its.toArray from p) (x:=u) (by simpa using hu) λh' st' sb=>?_
  have I1:Inv X pins σ H {s with heap:=h'}:=I.turned (t':=s.toks) (λb o hb e=>(sb.2 b hb).trans e) f0 f1 f3 f4 f5
  obtain⟨o,e,c,d⟩:=id st'
  exact⟨u,rfl,O3 (s:={s with heap:=h'}) e c d (by decide) ⟨x,H,I1,ru,⟨rfl,λys hy=>by rw[I.tuple_inj hy hq];exact hx⟩,st',λb hb=>(hf b hb).1⟩⟩
 done:=by
  intro X hP hw hK hc i pins s σ H E I hf st hg
  subst hP hw hK
  obtain⟨xs,hq,hx⟩:=hg
  obtain⟨its,rv,p,hz⟩:=I.tuple hq
  obtain⟨f0,f1,f2,f3,f4,f5⟩:=hf it (by simp)
  have hl:=rv.length
  exact wpAny_pyNext_tuple_end (I.ok.hd hc) st (show s.heap.IsTuple a its.toArray from p) (by simp;omega) λh' eb=>⟨rfl,I.turned (t':=s.toks) (λb o hb e=>eb b o hb e) f0 f1 f3 f4 f5⟩
 self:=λ_ _ _ _ _ st h=>wpAny_pyIter_tupleiter st h
theorem FZ {P:Program} {w:World} {K:PySem.W.Frag} {tg:Expr} (it:Addr) (lo:Int) (n:Nat):Turn P w K tg (SE lo n) [it] it (λi h=>IsRangeIter h it (lo+(i:Nat)*1) ((n:Int)-(i:Nat)) 1) where
 mem:=by simp
 obj:=λi h st b hb=>by
  have e:b=it:=by simpa using hb
  subst e
  exact ⟨_,st,λv z=>by
   have z':Data.fields _=Data.cell v:=z
   cases z'⟩
 keep:=λi h h' st k=>k it (by simp) _ st
 item:=by
  intro X hP hw hK hc i pins s σ H E I hf st hg
  subst hP hw hK
  obtain⟨f0,f1,f2,f3,f4,f5⟩:=hf it (by simp)
  have W:=Walks.range (prog:=X.prog) (w:=X.w) (I.ok.hd hc) it lo 1 n
  refine W.item i s _ _ hg st λv h' tk hv st' kk=>?_
  obtain⟨t,rfl⟩:=hv
  have I1:Inv X pins σ H {s with heap:=h',toks:=tk}:=I.turned (λb o hb e=>kk b o (by simpa using hb) e) f0 f1 f3 f4 f5
  refine⟨_,rfl,O3 (s:={s with heap:=h',toks:=tk}) (n:="range_iterator") st' rfl rfl (by decide) ⟨.int (lo+i),H,I1,⟨t,?_⟩,⟨rfl,rfl⟩,st',λb hb=>(hf b hb).1⟩⟩
  rw[a6t]
 done:=by
  intro X hP hw hK hc i pins s σ H E I hf st hg
  subst hP hw hK
  obtain⟨f0,f1,f2,f3,f4,f5⟩:=hf it (by simp)
  exact wpAny_pyNext_range_end (I.ok.hd hc) st (by have:n<=i:=hg;omega) λh' eb=>⟨rfl,I.turned (t':=s.toks) (λb o hb e=>eb b o hb e) f0 f1 f3 f4 f5⟩
 self:=λ_ _ _ _ _ st h=>wpAny_pyIter_rangeiter st h
section
variable{X:Cx}{tg:Expr}
def a38(K:Aa)(tl:TE):TI:=λσ H R=>tl σ H λx H1=>∃a,x= .ref a/\(∃xs,d9 K H1 a xs)/\R (a5G K a) H1
def a5W(K:Aa)(tl:TE):TI:=λσ H R=>tl σ H λx H1=>∃a,x= .ref a/\(∃xs,dQ K H1 a xs)/\R (a5H K a) H1
theorem HZ{l:Expr}{tl:TE}(hl:PE X l tl):PI X tg l (a38 X.K tl):=by
 intro pins s σ H R I h
 refine cO (hl pins s σ H _ I h) λv s1 ⟨x,H1,I1,r1,q1⟩=>?_
 obtain⟨a,e,⟨xs,hq⟩,q⟩:=q1
 subst e
 cases r1
 obtain⟨its,rv,p,hz⟩:=I1.list hq
 refine wpAny_pyIter_list p.isList ?_
 refine⟨s1.heap.objs.size,[s1.heap.objs.size],_,_,H1,rfl,I1.kept (t':=s1.toks) λb o e=>a0f _ e,LR a _,⟨_,a1b _ rfl,rfl,rfl⟩,λb hb=>?_,q⟩
 have e:b=s1.heap.objs.size:=by simpa using hb
 subst e
 exact I1.fpOk (a0l _) (I1.hok.fresh (a0l _))
theorem a0O{l:Expr}{tl:TE}(hl:PE X l tl):PI X tg l (a5W X.K tl):=by
 intro pins s σ H R I h
 refine cO (hl pins s σ H _ I h) λv s1 ⟨x,H1,I1,r1,q1⟩=>?_
 obtain⟨a,e,⟨xs,hq⟩,q⟩:=q1
 subst e
 cases r1
 obtain⟨its,rv,p,hz⟩:=I1.tuple hq
 refine wpAny_pyIter_tuple (show s1.heap.IsTuple a its.toArray from p) ?_
 refine⟨s1.heap.objs.size,[s1.heap.objs.size],_,_,H1,rfl,I1.kept (t':=s1.toks) λb o e=>a0f _ e,G1 a _,⟨_,a1b _ rfl,rfl,rfl⟩,λb hb=>?_,q⟩
 have e:b=s1.heap.objs.size:=by simpa using hb
 subst e
 exact I1.fpOk (a0l _) (I1.hok.fresh (a0l _))
theorem QN {pins:List (Addr×Obj)} {σ:St} {H:Hp} {s:Shared} {R:It->Hp->Prop} {E:Value->Shared->Prop} {lo hi:Int} {t u v:Tok} {tk:Nat} (I:Inv X pins σ H s) (h1:-(2^62)<=lo) (h2:lo<2^62) (h3:-(2^62)<=hi) (h4:hi<2^62)
  (q:R (SE lo (hi-lo).toNat) H):wpAny (model X.prog X.w) X.A (pyIter (.ref s.heap.objs.size)) (a70 X pins σ tg R) E {s with heap:=s.heap.push {cls:=.type "range",data:=.fields #[.int lo t,.int hi u,.int 1 v]},toks:=tk}:=by
 refine wpAny_pyIter_range (IsRange.new ..) (small_one h1 h2 h3 h4) ?_
 have I1:Inv X pins σ H {s with heap:=s.heap.push {cls:=.type "range",data:=.fields #[.int lo t,.int hi u,.int 1 v]},toks:=tk}:=I.kept λb o e=>a0f _ e
 refine ⟨(s.heap.push {cls:=.type "range",data:=.fields #[.int lo t,.int hi u,.int 1 v]}).objs.size,[(s.heap.push {cls:=.type "range",data:=.fields #[.int lo t,.int hi u,.int 1 v]}).objs.size],_,_,H,rfl,
  I1.kept (t':=tk) λb o e=>a0f _ e,FZ _ lo (hi-lo).toNat,?_,λb hb=>?_,q⟩
 ·have e1:lo+((0:Nat):Int)*1=lo:=by simp
  have e2:(((hi-lo).toNat:Nat):Int)-((0:Nat):Int)=Builtin.Range.rangeSize lo hi 1:=by rw[rangeSize_one];split<;>omega
  show IsRangeIter _ _ (lo+((0:Nat):Int)*1) ((((hi-lo).toNat:Nat):Int)-((0:Nat):Int)) 1
  rw[e1,e2]
  exact a1b _ rfl
 ·have e:b=(s.heap.push {cls:=.type "range",data:=.fields #[.int lo t,.int hi u,.int 1 v]}).objs.size:=by simpa using hb
  subst e
  exact I1.fpOk (a0l _) (I1.hok.fresh (a0l _))
def HE(ta:TA):TI:=λσ H R=>ta σ H λvs H1=>∃j:Int,vs=[.int j]/\-(2^62)<=j/\j<2^62/\R (SE 0 j.toNat) H1
theorem yE {a:Expr} {ta:TA} {p pos:Pos} (hg:Gl X "range") (hm:X.mg "range"=none) (ha:PA X [a] ta) (hs:starEach [a] X.env=[(false,eval a X.env)]:=by rfl):PI X tg (.Call (.Name "range" p) [a] [] pos) (HE ta):=by
 intro pins s σ H R I h
 refine Call_ (qJ I hg hm boot_range (a4f (cO (ha pos pins s σ H _ I h) λus s1 ⟨vs,H1,I1,r1,q1⟩=>?_) hs rfl))
 obtain⟨j,e,q1,q2,q⟩:=q1
 subst e
 cases r1 with
 | cons r rr=>
  cases rr
  obtain⟨t,rfl⟩:=r
  exact call_range_1 (QN I1 (by omega) (by omega) q1 q2 (by simpa using q))
def RF(wi:TI)(g:TG)(tb:TS):TS:=λD σ H=>wi σ H λJ H1=>∃W:Nat->Nat->St->Hp->Prop,(∃m,W 0 m σ H1)/\∀i m σ H,W i m σ H->
 (J.stop i H/\D.nx σ H)\/(J.go i H/\∃N:St->Hp->Prop,(∀σ' H',N σ' H'->∃m',m'<m/\W (i+1) m' σ' H')/\∀x H',J.yld i H x H'->g x σ H' λσ2 H2=>tb {D with nx:=N,ct:=N,bk:=D.nx} σ2 H2)
def o4(fp:List Ac)(h:Heap):List (Ac×Obj):=fp.filterMap λb=>(h.get? b).map λo=>(b,o)
theorem eN{fp:List Ac}{h:Heap}{b:Ac}{o:Obj}(hb:b∈fp)(e:h.get? b=some o):(b,o)∈o4 fp h:=a4b.mpr ⟨b,hb,by rw[e];rfl⟩
theorem KY {fp:List Addr} {h:Heap} {p:Addr×Obj} (hp:p∈o4 fp h):p.1∈fp/\h.get? p.1=some p.2:=by
 obtain⟨b,hb,e⟩:=a4b.mp hp
 cases q:h.get? b with
 |none=>rw[q] at e;cases e
 | some o=>
  rw[q] at e
  have e':(b,o)=p:=a1j e
  subst e'
  exact⟨hb,q⟩
theorem Inv.pinned {pins:List (Addr×Obj)} {σ:St} {H:Hp} {s:Shared} {fp:List Addr} (I:Inv X pins σ H s) (hf:∀b∈fp,jD X pins H b) (ho:∀b∈fp,∃o,s.heap.get? b=some o/\∀v,o.data≠ .cell v):Inv X (pins++o4 fp s.heap) σ H s:=
 I.pins_of λp hp=>(a1a.mp hp).elim (λz=>I.pin p (a0z _ z)) λz=>by
  obtain⟨hb,e⟩:=KY z
  obtain⟨f0,f1,f2,_⟩:=hf p.1 hb
  obtain⟨o,e',d⟩:=ho p.1 hb
  rw[e] at e';cases e'
  exact⟨e,f0,f1,f2,d⟩
theorem Inv.unpinned{pins pl:List (Ac×Obj)}{σ:St}{H:Hp}{s:Ab}(I:Inv X (pins++pl) σ H s):Inv X pins σ H s:=I.pins_of λp hp=>I.pin p (a0z _ (a2z _ hp))
theorem PR {iter:Expr} {body:List Stmt} {wi:TI} {g:TG} {tb:TS} {pos:Pos} (hp:PassesOwn (model X.prog X.w) X.A X.env X.xe) (hc:X.calm=true) (hi:PI X tg iter wi) (hg:PG X tg g) (hb:wV X body tb)
  (hs:∀x,foldedSetIterable iter X.env x=pure x:=by intro _;rfl):PS X (.For tg iter body [] pos) (RF wi g tb):=by
 intro pins s σ H D I h
 refine wpAny_For (cO (hi pins s σ H _ I h) λv s1 h1=>cO h1 λitv s2 h2=>?_) hs
 obtain⟨it,fp,tn,J,H2,e,I2,T,st2,f2,W,⟨m0,w0⟩,turn⟩:=h2
 subst e
 have stat:∀ {H':Hp},(∀b∈fp,H' b=none)->∀b∈fp,jD X pins H' b:=λhn b hb=>⟨hn b hb,(f2 b hb).2⟩
 refine codeAny_forLoop_any (λn s'=>∃i σ' H',Inv X pins σ' H' s'/\tn i s'.heap/\(∀b∈fp,H' b=none)/\W i n σ' H') ?_ m0 ⟨0,σ,H2,I2,st2,λb hb=>(f2 b hb).1,w0⟩
 rintro n s3 ⟨i,σ3,H3,I3,SC,fr3,w3⟩
 rcases turn i n σ3 H3 w3 with ⟨stop,qn⟩|⟨go,N,hN,step⟩
 ·refine a4m hp (cO (T.done X rfl rfl rfl hc i pins s3 σ3 H3 X.xe I3 (stat fr3) SC stop) λr s4 ⟨hr,I4⟩=>?_)
  subst hr
  exact a6u ⟨σ3,H3,I4,qn⟩
 ·refine a4m hp (cO (T.item X rfl rfl rfl hc i pins s3 σ3 H3 X.xe I3 (stat fr3) SC go) λr s4 ⟨u,hr,h4⟩=>?_)
  subst hr
  refine a4m hp (cO h4 λ_ s5 ⟨x,H5,I5,r5,y5,st5,fr5⟩=>?_)
  have I5':=I5.pinned (stat fr5) (T.obj _ _ st5)
  refine a4m hp (cO (hg _ s5 σ3 H5 x u _ I5' r5 (step x H5 y5)) λ_ s6 ⟨σ6,H6,I6,q6⟩=>?_)
  refine a4m hp (cO (hb _ s6 σ6 H6 _ I6 q6) λf s7 q7=>?_)
  have again:∀ {σ7:St} {H7:Hp},Inv X (pins++o4 fp s5.heap) σ7 H7 s7->N σ7 H7->∃m,m<n/\∃i σ' H',Inv X pins σ' H' s7/\tn i s7.heap/\(∀b∈fp,H' b=none)/\W i m σ' H':=fun {σ7 H7} I7 n7=>by
   obtain⟨m',hm,w7⟩:=hN σ7 H7 n7
   refine⟨m',hm,i+1,σ7,H7,I7.unpinned,T.keep _ _ _ st5 λb hb o e=>(I7.pin (b,o) (a0z _ (a0z _ (eN hb e)))).1,λb hb=>?_,w7⟩
   obtain⟨o,e,d⟩:=T.obj _ _ st5 b hb
   exact (I7.pin (b,o) (a0z _ (a0z _ (eN hb e)))).2.1
  cases f with
  |next=>obtain⟨σ7,H7,I7,n7⟩:=q7;exact again I7 n7
  |cont=>obtain⟨σ7,H7,I7,n7⟩:=q7;exact again I7 n7
  |brk=>obtain⟨σ7,H7,I7,q7⟩:=q7;exact⟨σ7,H7,I7.unpinned,q7⟩
  |ret v=>obtain⟨x7,σ7,H7,I7,r7,q7⟩:=q7;exact⟨x7,σ7,H7,I7.unpinned,r7,q7⟩
end
theorem KA {lo:Int} {n:Nat} {g:TG} {tb:TS} {D:Ends} {σ:St} {H:Hp} (Pv:Nat->St->Hp->Prop) (h0:Pv 0 σ H)
  (hs:∀i σ H,i<n->Pv i σ H->g (.int (lo+i)) σ H λσ2 H2=>tb {D with nx:=Pv (i+1),ct:=Pv (i+1),bk:=D.nx} σ2 H2) (hd:∀σ H,Pv n σ H->D.nx σ H) :
  ∃ W:Nat->Nat->St->Hp->Prop,(∃m,W 0 m σ H)/\∀i m σ H,W i m σ H->
   ((SE lo n).stop i H/\D.nx σ H)\/((SE lo n).go i H/\∃N:St->Hp->Prop,(∀σ' H',N σ' H'->∃m',m'<m/\W (i+1) m' σ' H')/\∀x H',(SE lo n).yld i H x H'->g x σ H' λσ2 H2=>tb {D with nx:=N,ct:=N,bk:=D.nx} σ2 H2):=by
 refine⟨λi m σ H=>m=n-i/\i<=n/\Pv i σ H,⟨n,by simp,a3c _,h0⟩,?_⟩
 rintro i m σ H ⟨rfl,hi,p⟩
 by_cases hlt:i<n
 ·refine .inr ⟨hlt,Pv (i+1),λσ' H' p'=>⟨n-(i+1),by omega,rfl,hlt,p'⟩,λx H' y=>?_⟩
  obtain⟨e,y⟩:=y
  subst e y
  exact hs i σ _ hlt p
 ·have e:i=n:=by omega
  subst e
  exact .inl ⟨a0l _,hd σ H p⟩
abbrev R2:=V->V->Hp->VK->Prop
def n6 (X:Cx) (f:Value->Value->Sem Value) (r:R2):Prop:=
 ∀ (pins:List (Addr×Obj)) (s:Shared) (σ:St) (H:Hp) (x y:V) (v u:Value) (Q:VK),Inv X pins σ H s->bD x v->bD y u->r x y H Q->
  wpAny (model X.prog X.w) X.A (f v u) (EP X pins σ Q) X.xe s
def a57 (X:Cx) (f:Value->Sem Value) (r:V->Hp->VK->Prop):Prop:=
 ∀ (pins:List (Addr×Obj)) (s:Shared) (σ:St) (H:Hp) (x:V) (v:Value) (Q:VK),Inv X pins σ H s->bD x v->r x H Q->
  wpAny (model X.prog X.w) X.A (f v) (EP X pins σ Q) X.xe s
def eD (X:Cx) (f:Value) (r:List V->Hp->VK->Prop):Prop:=
 ∀ (pins:List (Addr×Obj)) (s:Shared) (σ:St) (H:Hp) (xs:List V) (us:List Value) (Q:VK),Inv X pins σ H s->b9 xs us->r xs H Q->
  wpAny (model X.prog X.w) X.A (call f us) (EP X pins σ Q) X.xe s
def a5M (X:Cx) (r:V->Hp->(Bool->Hp->Prop)->Prop):Prop:=
 ∀ (pins:List (Addr×Obj)) (s:Shared) (σ:St) (H:Hp) (x:V) (v:Value) (Q:Bool->Hp->Prop),Inv X pins σ H s->bD x v->r x H Q->
  wpAny (model X.prog X.w) X.A (truthy v) (TP X pins σ Q) X.xe s
def RH(r:R2)(ta tb:TE):TE:=λσ H Q=>ta σ H λx H1=>tb σ H1 λy H2=>r x y H2 Q
def a5C(r:V->Hp->VK->Prop)(ta:TE):TE:=λσ H Q=>ta σ H λx H1=>r x H1 Q
def rI(C:Int->Int->Prop)(g:Int->Int->V):R2:=λx y H Q=>∃i j,x= .int i/\y= .int j/\C i j/\Q (g i j) H
def wM(g:Int->Int->V):R2:=λx y H Q=>∃i j,x= .int i/\y= .int j/\Q (g i j) H
def rU(g:Int->V):V->Hp->VK->Prop:=λx H Q=>∃i,x= .int i/\Q (g i) H
section
variable{X:Cx}{a b c:Expr}{ta tb tc:TE}{pos:Pos}
theorem Y3 (ha:PE X a ta) (hb:PE X b tb) {pins:List (Addr×Obj)} {s:Shared} {σ:St} {H:Hp} {R:V->V->Hp->Prop} (I:Inv X pins σ H s)
  (h:ta σ H λx H1=>tb σ H1 λy H2=>R x y H2) {Q:Value->Ab->Prop} {f:Value->Value->Sem Value}
  (hf:∀v u s2 x y H2,Inv X pins σ H2 s2->bD x v->bD y u->R x y H2->wpAny (model X.prog X.w) X.A (f v u) Q X.xe s2) :
  wpAny (model X.prog X.w) X.A (eval a X.env) (λv s₁=>wpAny (model X.prog X.w) X.A (eval b X.env) (λu s₂=>wpAny (model X.prog X.w) X.A (f v u) Q X.xe s₂) X.xe s₁) X.xe s:=by
 refine cO (ha pins s σ H _ I h) λv s1 ⟨x,H1,I1,r1,q1⟩=>?_
 refine cO (hb pins s1 σ H1 _ I1 q1) λu s2 ⟨y,H2,I2,r2,q2⟩=>?_
 exact hf v u s2 x y H2 I2 r1 r2 q2
theorem CL{op:Operator}{r:R2}(ho:n6 X (binaryOp op) r)(ha:PE X a ta)(hb:PE X b tb):PE X (.BinOp a op b pos) (RH r ta tb):=by
 intro pins s σ H Q I h
 exact wpAny_BinOp (Y3 ha hb I h λv u s2 x y H2 I2 rx ry q=>ho pins s2 σ H2 x y v u Q I2 rx ry q)
theorem XJ{op:UnaryOp}{r:V->Hp->VK->Prop}(ho:a57 X (unaryOp op) r)(ha:PE X a ta):PE X (.UnaryOp op a pos) (a5C r ta):=by
 intro pins s σ H Q I h
 exact UnaryOp_ (cO (ha pins s σ H _ I h) λv s1 ⟨x,H1,I1,r1,q1⟩=>ho pins s1 σ H1 x v Q I1 r1 q1)
theorem a59 {f:Value->Value->Sem Value} {C:Int->Int->Prop} {g:Int->Int->Int}
  (rule:∀(i j:Int) (t u:Tok) (s:Ab) (Q:Value->Ab->Prop) (E:Value->Ab->Prop),C i j->Q (.int (g i j) s.toks) {s with toks:=s.toks+1}->wpAny (model X.prog X.w) X.A (f (.int i t) (.int j u)) Q E s) :
  n6 X f (rI C λi j=>.int (g i j)):=by
 intro pins s σ H x y v u Q I rx ry h
 obtain⟨i,j,rfl,rfl,hc,q⟩:=h
 obtain⟨t,rfl⟩:=rx
 obtain⟨t',rfl⟩:=ry
 exact rule i j t t' s _ _ hc ⟨.int (g i j),H,I.tok _,⟨_,rfl⟩,q⟩
theorem a3J {f:Value->Value->Sem Value} {g:Int->Int->Int}
  (rule:∀(i j:Int) (t u:Tok) (s:Ab) (Q:Value->Ab->Prop) (E:Value->Ab->Prop),Q (.int (g i j) s.toks) {s with toks:=s.toks+1}->wpAny (model X.prog X.w) X.A (f (.int i t) (.int j u)) Q E s) :
  n6 X f (wM λi j=>.int (g i j)):=by
 intro pins s σ H x y v u Q I rx ry h
 obtain⟨i,j,rfl,rfl,q⟩:=h
 obtain⟨t,rfl⟩:=rx
 obtain⟨t',rfl⟩:=ry
 exact rule i j t t' s _ _ ⟨.int (g i j),H,I.tok _,⟨_,rfl⟩,q⟩
theorem ZZ {f:Value->Value->Sem Value} {g:Int->Int->Bool}
  (rule:∀(i j:Int) (t u:Tok) (s:Ab) (Q:Value->Ab->Prop) (E:Value->Ab->Prop),Q (.bool (g i j)) s->wpAny (model X.prog X.w) X.A (f (.int i t) (.int j u)) Q E s) :
  n6 X f (wM λi j=>.bl (g i j)):=by
 intro pins s σ H x y v u Q I rx ry h
 obtain⟨i,j,rfl,rfl,q⟩:=h
 obtain⟨t,rfl⟩:=rx
 obtain⟨t',rfl⟩:=ry
 exact rule i j t t' s _ _ ⟨.bl (g i j),H,I,rfl,q⟩
def w8(i j:Int):Prop:=0<=j/\j<=1000000/\i.natAbs<2^64
def w6(i j:Int):Prop:=(-(2^64)<i/\i<2^64)\/(-(2^64)<j/\j<2^64)
theorem w6.ok{i j:Int}(h:w6 i j):IntMulOk i j:=by
 rcases h with ⟨h1,h2⟩|⟨h1,h2⟩
 ·exact .of_left (intBits_le_64 h1 h2)
 ·exact .of_right (intBits_le_64 h1 h2)
theorem a00:n6 X (binaryOp .Add) (wM λi j=>.int (i+j)):=a3J λ_ _ _ _ _ _ _ q=>add_int q
theorem a0A:n6 X (binaryOp .Sub) (wM λi j=>.int (i-j)):=a3J λ_ _ _ _ _ _ _ q=>sub_int q
theorem a06:n6 X (binaryOp .Mult) (rI w6 λi j=>.int (i*j)):=a59 λ_ _ _ _ _ _ _ hc q=>mul_int q hc.ok
theorem a05:n6 X (binaryOp .Mod) (rI (λ_ j=>0<j) λi j=>.int (i % j)):=a59 λi j _ _ _ _ _ hc q=>by
 have h1:(0:Int)<j:=hc
 exact mod_int' (by omega) (by rw[Int.fmod_eq_emod_of_nonneg i (by omega)];exact q)
theorem a08:n6 X (binaryOp .Pow) (rI w8 λi j=>.int (i^j.toNat)):=a59 λ_ _ _ _ _ _ _ hc q=>pow_int_small hc.1 hc.2.1 hc.2.2 q
theorem a7K {f:Value->Sem Value} {g:Int->Int}
  (rule:∀(i:Int) (t:Tok) (s:Ab) (Q:Value->Ab->Prop) (E:Value->Ab->Prop),Q (.int (g i) s.toks) {s with toks:=s.toks+1}->wpAny (model X.prog X.w) X.A (f (.int i t)) Q E s) :
  a57 X f (rU λi=>.int (g i)):=by
 intro pins s σ H x v Q I rx h
 obtain⟨i,rfl,q⟩:=h
 obtain⟨t,rfl⟩:=rx
 exact rule i t s _ _ ⟨.int (g i),H,I.tok _,⟨_,rfl⟩,q⟩
theorem a1U:a57 X (unaryOp .USub) (rU λi=>.int (-i)):=a7K λ_ _ _ _ _ q=>neg_int q
end
def a4H:V->V->Bool
 |.non,.non=>true|.non,.int _=>true|.int _,.non=>true|.non,.bl _=>true|.bl _,.non=>true|.non,.str _=>true|.str _,.non=>true
 |.int _,.int _=>true|.bl _,.bl _=>true|.str _,.str _=>true|.byt _,.byt _=>true
 |.int _,.str _=>true|.str _,.int _=>true|.bl _,.str _=>true|.str _,.bl _=>true
 |_,_=>false
def a6D:R2:=λx y H Q=>a4H x y=true/\Q (.bl (decide (x=y))) H
def a6F:R2:=λx y H Q=>a4H x y=true/\Q (.bl (!decide (x=y))) H
theorem GO{i j:Int}:decide (V.int i=V.int j)=(i==j):=by
 rw[a4x]
 simp
theorem ND{i j:Bool}:decide (V.bl i=V.bl j)=(i==j):=by
 rw[a4x]
 simp
theorem GP{i j:Str}:decide (V.str i=V.str j)=(i==j):=by
 rw[a4x]
 simp
theorem GN{i j:Array UInt8}:decide (V.byt i=V.byt j)=(i.toList==j.toList):=by
 rw[a4x]
 cases i
 cases j
 simp
section
variable{X:Cx}{a b c:Expr}{ta tb tc:TE}{pos:Pos}
theorem bJ{pins:List (Addr×Obj)}{σ:St}{H:Hp}{s:Shared}{Q:VK}{k k':Bool}(I:Inv X pins σ H s)(q:Q (.bl k) H)(e:k=k'):EP X pins σ Q (.bool k') s:=by
 subst e
 exact⟨.bl k,H,I,rfl,q⟩
theorem a3K:n6 X (compareOp .Eq) a6D:=by
 intro pins s σ H x y v u Q I rx ry h
 obtain⟨hs,q⟩:=h
 cases x with
 | non=>
  cases rx
  cases y with
  |non=>cases ry;exact PySem.EqNone.eq_none_none (bJ I q (by simp))
  |bl j=>cases ry;exact PySem.EqNone.eq_none_bool (bJ I q (by simp))
  |int j=>obtain⟨t',rfl⟩:=ry;exact PySem.EqNone.eq_none_int (bJ I q (by simp))
  |str j=>obtain⟨t',rfl⟩:=ry;exact PySem.EqNone.eq_none_str (bJ I q (by simp))
  |_=>exact absurd (show false=true from hs) a0i
 | bl i=>
  cases rx
  cases y with
  |non=>cases ry;exact PySem.EqNone.eq_bool_none (bJ I q (by simp))
  |bl j=>cases ry;exact eq_bool (bJ I q ND)
  |str j=>obtain⟨t',rfl⟩:=ry;exact PySem.EqMixed.eq_bool_str (bJ I q (by simp))
  |_=>exact absurd (show false=true from hs) a0i
 | int i=>
  obtain⟨t,rfl⟩:=rx
  cases y with
  |non=>cases ry;exact PySem.EqNone.eq_int_none (bJ I q (by simp))
  |int j=>obtain⟨t',rfl⟩:=ry;exact eq_int (bJ I q GO)
  |str j=>obtain⟨t',rfl⟩:=ry;exact PySem.EqMixed.eq_int_str (bJ I q (by simp))
  |_=>exact absurd (show false=true from hs) a0i
 | str i=>
  obtain⟨t,rfl⟩:=rx
  cases y with
  |non=>cases ry;exact PySem.EqNone.eq_str_none (bJ I q (by simp))
  |bl j=>cases ry;exact PySem.EqMixed.eq_str_bool (bJ I q (by simp))
  |int j=>obtain⟨t',rfl⟩:=ry;exact PySem.EqMixed.eq_str_int (bJ I q (by simp))
  |str j=>obtain⟨t',rfl⟩:=ry;exact eq_str (bJ I q GP)
  |_=>exact absurd (show false=true from hs) a0i
 | byt i=>
  obtain⟨t,rfl⟩:=rx
  cases y with
  |byt j=>obtain⟨t',rfl⟩:=ry;exact PySem.W.eq_bytes (bJ I q GN)
  |_=>exact absurd (show false=true from hs) a0i
 |_=>cases y<;>exact absurd (show false=true from hs) a0i
theorem a3O:n6 X (compareOp .NotEq) a6F:=by
 intro pins s σ H x y v u Q I rx ry h
 obtain⟨hs,q⟩:=h
 cases x with
 | non=>
  cases rx
  cases y with
  |non=>cases ry;exact PySem.EqNone.ne_none_none (bJ I q (by simp))
  |bl j=>cases ry;exact PySem.EqNone.ne_none_bool (bJ I q (by simp))
  |int j=>obtain⟨t',rfl⟩:=ry;exact PySem.EqNone.ne_none_int (bJ I q (by simp))
  |str j=>obtain⟨t',rfl⟩:=ry;exact PySem.EqNone.ne_none_str (bJ I q (by simp))
  |_=>exact absurd (show false=true from hs) a0i
 | bl i=>
  cases rx
  cases y with
  |non=>cases ry;exact PySem.EqNone.ne_bool_none (bJ I q (by simp))
  |bl j=>cases ry;exact ne_bool (bJ I q (congrArg not ND))
  |str j=>obtain⟨t',rfl⟩:=ry;exact PySem.EqMixed.ne_bool_str (bJ I q (by simp))
  |_=>exact absurd (show false=true from hs) a0i
 | int i=>
  obtain⟨t,rfl⟩:=rx
  cases y with
  |non=>cases ry;exact PySem.EqNone.ne_int_none (bJ I q (by simp))
  |int j=>obtain⟨t',rfl⟩:=ry;exact ne_int (bJ I q (congrArg not GO))
  |str j=>obtain⟨t',rfl⟩:=ry;exact PySem.EqMixed.ne_int_str (bJ I q (by simp))
  |_=>exact absurd (show false=true from hs) a0i
 | str i=>
  obtain⟨t,rfl⟩:=rx
  cases y with
  |non=>cases ry;exact PySem.EqNone.ne_str_none (bJ I q (by simp))
  |bl j=>cases ry;exact PySem.EqMixed.ne_str_bool (bJ I q (by simp))
  |int j=>obtain⟨t',rfl⟩:=ry;exact PySem.EqMixed.ne_str_int (bJ I q (by simp))
  |str j=>obtain⟨t',rfl⟩:=ry;exact ne_str (bJ I q (congrArg not GP))
  |_=>exact absurd (show false=true from hs) a0i
 | byt i=>
  obtain⟨t,rfl⟩:=rx
  cases y with
  |byt j=>obtain⟨t',rfl⟩:=ry;exact PySem.W.ne_bytes (bJ I q (congrArg not GN))
  |_=>exact absurd (show false=true from hs) a0i
 |_=>cases y<;>exact absurd (show false=true from hs) a0i
theorem a3N:n6 X (compareOp .Lt) (wM λi j=>.bl (decide (i<j))):=ZZ λ_ _ _ _ _ _ _ q=>lt_int q
theorem a3M:n6 X (compareOp .LtE) (wM λi j=>.bl (decide (i<=j))):=ZZ λ_ _ _ _ _ _ _ q=>le_int q
theorem a3L:n6 X (compareOp .Gt) (wM λi j=>.bl (decide (j<i))):=ZZ λ_ _ _ _ _ _ _ q=>gt_int q
theorem a04:n6 X (compareOp .Is) (λx y H Q=>y= .non/\Q (.bl (decide (x= .non))) H):=by
 intro pins s σ H x y v u Q I rx ry h
 obtain⟨rfl,q⟩:=h
 cases ry
 refine is_none_gen (bJ I q ?_)
 cases x<;>first
  |(cases rx;rfl)
  |(obtain⟨t,rfl⟩:=rx;rfl)
theorem V5:n6 X (compareOp .IsNot) (λx y H Q=>y= .non/\Q (.bl (!decide (x= .non))) H):=by
 intro pins s σ H x y v u Q I rx ry h
 obtain⟨rfl,q⟩:=h
 cases ry
 refine isnot_none_gen (bJ I q ?_)
 cases x<;>first
  |(cases rx;rfl)
  |(obtain⟨t,rfl⟩:=rx;rfl)
theorem aV(b:Expr){op:CmpOp}(h:op≠ .In:=by decide)(h2:op≠ .NotIn:=by decide):behindInMarks op b=false:=by
 have e1:(op==CmpOp.In)=false:=by cases op<;>first|rfl|exact absurd rfl h
 have e2:(op==CmpOp.NotIn)=false:=by cases op<;>first|rfl|exact absurd rfl h2
 cases b<;>simp[behindInMarks,e1,e2]
theorem HW{op:CmpOp}{r:R2}(ho:n6 X (compareOp op) r)(ha:PE X a ta)(hb:PE X b tb)(hm:behindInMarks op b=false):PE X (.Compare a [op] [b] pos) (RH r ta tb):=by
 intro pins s σ H Q I h
 exact wpAny_Compare1 (Y3 ha hb I h λv u s2 x y H2 I2 rx ry q=>ho pins s2 σ H2 x y v u Q I2 rx ry q) hm
def J0(t:TE):TT:=λσ H Q=>t σ H λx H'=>∃k,x= .bl k/\Q k H'
theorem ID {op:CmpOp} {r:R2} (ho:n6 X (compareOp op) r) (ha:PE X a ta) (hb:PE X b tb) (hm:behindInMarks op b=false):PT X (.Compare a [op] [b] pos) (J0 (RH r ta tb)):=by
 intro pins s σ H Q I h
 refine wpAny_isTrue_Compare1 (cO (ha pins s σ H _ I h) λv s1 ⟨x,H1,I1,r1,q1⟩=>cO (hb pins s1 σ H1 _ I1 q1) λu s2 ⟨y,H2,I2,r2,q2⟩=>
  cO (ho pins s2 σ H2 x y v u _ I2 r1 r2 q2) λc s3 ⟨z,H3,I3,r3,k,e,q3⟩=>?_) hm
 subst e
 cases r3
 exact a3y ⟨H3,I3,q3⟩
def RC(r r':R2)(ta tb tc:TE):TE:=λσ H Q=>ta σ H λx H1=>tb σ H1 λy H2=>r x y H2 λz H3=>∃k,z= .bl k/\
 (if k=true then tc σ H3 λw' H4=>r' y w' H4 Q else Q (.bl false) H3)
theorem PH {op op':CmpOp} {r r':R2} (ho:n6 X (compareOp op) r) (ho':n6 X (compareOp op') r') (ha:PE X a ta) (hb:PE X b tb) (hc:PE X c tc)
  (hm:lastMarks [op,op'] [b,c]=false:=by with_unfolding_all rfl):PE X (.Compare a [op,op'] [b,c] pos) (RC r r' ta tb tc):=by
 intro pins s σ H Q I h
 refine Compare_chain (cO (ha pins s σ H _ I h) λv s1 ⟨x,H1,I1,r1,q1⟩=>chain_link (cO (hb pins s1 σ H1 _ I1 q1) λu s2 ⟨y,H2,I2,r2,q2⟩=>
  cO (ho pins s2 σ H2 x y v u _ I2 r1 r2 q2) λd s3 ⟨z,H3,I3,r3,k,e,q3⟩=>?_)) hm
 subst e
 cases r3
 refine a3y ?_
 cases k with
 |false=>exact ite_ff ⟨.bl false,H3,I3,rfl,q3⟩
 |true=>exact ite_tt (chain_last (cO (hc pins s3 σ H3 _ I3 q3) λw' s4 ⟨z',H4,I4,r4,q4⟩=>ho' pins s4 σ H4 y z' u w' Q I4 r2 r4 q4))
def a2H(K:PySem.W.Frag)(x:V)(H:Hp)(k:Bool):Prop:=
 match x with
 |.non=>k=false
 |.bl b=>k=b
 |.int i=>k=(i !=0)
 |.str y=>y.length<=sizeLine/\k=((y.length:Int) !=0)
 |.byt y=>y.size<=sizeLine/\k=((y.size:Int) !=0)
 |.ref p=>(∃xs,d9 K H p xs/\k= !xs.isEmpty)\/(∃xs,dQ K H p xs/\k= !xs.isEmpty)\/∃kvs,H p=some (.dK kvs)/\k= !kvs.isEmpty
 |_=>False
theorem ES{κ:Type}{kvs:List (κ×V)}{vs:List (κ×Value)}(r:KV kvs vs):(!vs.isEmpty)= !kvs.isEmpty:=by
 cases r<;>rfl
theorem uF{xs:List V}{its:List Value}(r:b9 xs its):(!its.toArray.isEmpty)= !xs.isEmpty:=by
 cases r<;>simp
theorem nW:(sizeLine:Nat)<2^63:=by rw[sizeLine_eq];decide
theorem a1R:a5M X (λx H Q=>∃k,a2H X.K x H k/\Q k H):=by
 intro pins s σ H x v Q I rx h
 obtain⟨k,e,q⟩:=h
 have hl:=nW
 have hs:sizeLine=16777216:=sizeLine_eq
 cases x with
 | non=>
  cases rx
  have e':k=false:=e
  subst e'
  exact truthy_none ⟨H,I,q⟩
 | bl b=>
  cases rx
  have e':k=b:=e
  subst e'
  exact a3y ⟨H,I,q⟩
 | int i=>
  obtain⟨t,rfl⟩:=rx
  have e':k=(i !=0):=e
  subst e'
  exact PySem.P.truthy_int ⟨H,I,q⟩
 | str y=>
  obtain⟨t,rfl⟩:=rx
  obtain⟨hy,e'⟩ : y.length<=sizeLine/\k=((y.length:Int) !=0):=e
  subst e'
  exact PySem.P.truthy_str (by omega) ⟨H,I.tok _,q⟩
 | byt y=>
  obtain⟨t,rfl⟩:=rx
  obtain⟨hy,e'⟩ : y.size<=sizeLine/\k=((y.size:Int) !=0):=e
  subst e'
  exact PySem.W.truthy_bytes (by omega) ⟨H,I.tok _,q⟩
 | ref p=>
  cases rx
  have e':(∃xs,d9 X.K H p xs/\k= !xs.isEmpty)\/(∃xs,dQ X.K H p xs/\k= !xs.isEmpty)\/∃kvs,H p=some (.dK kvs)/\k= !kvs.isEmpty:=e
  rcases e' with ⟨xs,hx,e'⟩|⟨xs,hx,e'⟩|⟨kvs,hx,e'⟩
  ·subst e'
   obtain⟨its,r,pl,hz⟩:=I.list hx
   have hlen:=r.length
   exact wpAny_truthy_list pl.isList (by simp only[a0t];omega) ⟨H,I.tok _,by rw[uF r];exact q⟩
  ·subst e'
   obtain⟨its,r,pl,hz⟩:=I.tuple hx
   have hlen:=r.length
   exact truthy_tuple pl (by simp only[a0t];omega) ⟨H,I.tok _,by rw[uF r];exact q⟩
  ·subst e'
   obtain⟨hz,hS,vs,r,m⟩ : kvs.length<=sizeLine/\(p==sysModules)=false/\∃vs,KV kvs vs/\s.heap.DictOf (bH X.prog X.w) p vs:=I.hok p _ hx
   have hlen:kvs.length=vs.length:=a5g r
   exact wpAny_truthy_dict hS m (by omega) ⟨H,I.tok _,by rw[ES r];exact q⟩
 |_=>exact (show False from e).elim
theorem FA:n6 X (binaryOp .Add) (λx y H Q=>∃i j,x= .str i/\y= .str j/\i.length+j.length<=sizeLine/\Q (.str (i++j)) H):=by
 intro pins s σ H x y v u Q I rx ry h
 obtain⟨i,j,rfl,rfl,hz,q⟩:=h
 obtain⟨t,rfl⟩:=rx
 obtain⟨t',rfl⟩:=ry
 exact add_str (λt' tk=>⟨.str (i++j),H,I.tok _,⟨_,rfl⟩,q⟩) hz
theorem j5{x:V}{us:List Value}(r:b9 [x] us):∃u,us=[u]/\bD x u:=by
 cases r with
 |cons r1 r2=>cases r2;exact⟨_,rfl,r1⟩
theorem J3 {x y:V} {us:List Value} (r:b9 [x,y] us):∃u w',us=[u,w']/\bD x u/\bD y w':=by
 cases r with
 | cons r1 r2=>
  cases r2 with
  |cons r3 r4=>cases r4;exact⟨_,_,rfl,r1,r3⟩
theorem JR(hc:X.calm=true):eD X (.builtin "max") (λxs H Q=>∃i j,xs=[.int i,.int j]/\Q (.int (if j>i then j else i)) H):=by
 intro pins s σ H xs us Q I r h
 obtain⟨i,j,rfl,q⟩:=h
 obtain⟨u,w',rfl,⟨t,rfl⟩,⟨t',rfl⟩⟩:=J3 r
 refine max_two_ints (I.ok.hd hc) λh' tk k=>⟨_,H,I.kept k,?_,q⟩
 by_cases hj:j>i
 ·rw[if_pos hj,if_pos hj];exact⟨_,rfl⟩
 ·rw[if_neg hj,if_neg hj];exact⟨_,rfl⟩
theorem JS(hc:X.calm=true):eD X (.builtin "min") (λxs H Q=>∃i j,xs=[.int i,.int j]/\Q (.int (if j<i then j else i)) H):=by
 intro pins s σ H xs us Q I r h
 obtain⟨i,j,rfl,q⟩:=h
 obtain⟨u,w',rfl,⟨t,rfl⟩,⟨t',rfl⟩⟩:=J3 r
 refine min_two_ints (I.ok.hd hc) λh' tk k=>⟨_,H,I.kept k,?_,q⟩
 by_cases hj:j<i
 ·rw[if_pos hj,if_pos hj];exact⟨_,rfl⟩
 ·rw[if_neg hj,if_neg hj];exact⟨_,rfl⟩
theorem JQ:eD X (.type "int") (λxs H Q=>(∃i,xs=[.int i]/\Q (.int i) H)\/∃k,xs=[.bl k]/\Q (.int (if k then 1 else 0)) H):=by
 intro pins s σ H xs us Q I r h
 rcases h with ⟨i,rfl,q⟩|⟨k,rfl,q⟩
 ·obtain⟨u,rfl,t,rfl⟩:=j5 r
  exact call_int_int ⟨.int i,H,I,⟨_,rfl⟩,q⟩
 ·obtain⟨u,rfl,r1⟩:=j5 r
  cases r1
  exact call_int_bool ⟨.int (if k then 1 else 0),H,I.tok _,⟨_,rfl⟩,q⟩
def a2E(K:PySem.W.Frag)(x:V)(H:Hp)(n:Nat):Prop:=
 match x with
 |.str y=>y.length<=sizeLine/\n=y.length
 |.byt y=>y.size<=sizeLine/\n=y.size
 |.ref p=>(∃xs,d9 K H p xs/\n=xs.length)\/∃xs,dQ K H p xs/\n=xs.length
 |_=>False
theorem N7:eD X (.builtin "len") (λxs H Q=>∃x n,xs=[x]/\a2E X.K x H n/\Q (.int n) H):=by
 intro pins s σ H xs us Q I r h
 obtain⟨x,n,rfl,e,q⟩:=h
 obtain⟨u,rfl,rx⟩:=j5 r
 have hl:=nW
 have hs:sizeLine=16777216:=sizeLine_eq
 cases x with
 | str y=>
  obtain⟨t,rfl⟩:=rx
  obtain⟨hy,e'⟩ : y.length<=sizeLine/\n=y.length:=e
  subst e'
  exact len_str (by omega) ⟨.int _,H,I.tok _,⟨_,rfl⟩,q⟩
 | byt y=>
  obtain⟨t,rfl⟩:=rx
  obtain⟨hy,e'⟩ : y.size<=sizeLine/\n=y.size:=e
  subst e'
  exact PySem.W.len_bytes (by omega) ⟨.int _,H,I.tok _,⟨_,rfl⟩,q⟩
 | ref p=>
  cases rx
  have e':(∃xs,d9 X.K H p xs/\n=xs.length)\/∃xs,dQ X.K H p xs/\n=xs.length:=e
  rcases e' with ⟨xs,hx,e'⟩|⟨xs,hx,e'⟩
  ·subst e'
   obtain⟨its,r',pl,hz⟩:=I.list hx
   have hlen:=r'.length
   exact Calls.call_len_list pl.isList (by simp only[a0t];omega) ⟨.int xs.length,H,I.tok _,⟨_,by simp only[a0t];rw[hlen]⟩,q⟩
  ·subst e'
   obtain⟨its,r',pl,hz⟩:=I.tuple hx
   have hlen:=r'.length
   exact len_tuple pl (by simp only[a0t];omega) ⟨.int xs.length,H,I.tok _,⟨_,by simp only[a0t];rw[hlen]⟩,q⟩
 |_=>exact (show False from e).elim
end
structure ObjM(h:Heap)(x dx C:Addr)(mA:Str->Option Value):Prop where
 obj:h.get? x=some (PySem.W.instObj C dx)
 ns:h.Ns1 dx mA
 ne:dx≠x
theorem KU {h:Heap} {dx:Addr} {mA:Str->Option Value} (n:h.Ns1 dx mA):∃od,h.get? dx=some od/\∀name,PySem.W.lookIn name od=some (mA name):=by
 obtain⟨o,es,ep,ho,hd,hk,_,hm⟩:=n
 refine⟨o,ho,λname=>?_⟩
 have e:=hm name
 unfold nsFind findBy at e
 rw[<- Array.find?_toList] at e
 unfold PySem.W.lookIn
 rw[hd]
 dsimp only
 split
 ·rename_i y q
  rw[q] at e
  exact congrArg some e
 ·rename_i q
  rw[q] at e
  have a:es.toList.any (·.refKey)=false:=by
   rw[List.any_eq_false]
   intro y hy
   obtain⟨z,t,hkey⟩:=hk y (Array.mem_toList_iff.mp hy)
   simp[DictEntry.refKey,hkey]
  have a':¬es.toList.any (·.refKey)=true:=by rw[a];exact a0i
  rw[if_neg a']
  exact congrArg some e
theorem ObjM.look{h:Heap}{x dx C:Addr}{mA:Str->Option Value}(I:ObjM h x dx C mA):∃od,PySem.W.InstAt h x (PySem.W.instObj C dx) C (some od)/\∀name,PySem.W.lookIn name od=some (mA name):=
 let ⟨od,ho,hl⟩:=KU I.ns
 ⟨od,⟨I.obj,rfl,rfl,ho⟩,hl⟩
theorem sJ.some_of{v:V}{o:Option Value}(r:sJ (some v) o):∃u,o=some u/\bD v u:=by
 cases o with
 |none=>exact (show False from r).elim
 |some u=>exact⟨u,rfl,r⟩
section
variable{P:Program}{w:World}{H H':Hp}{h h':Heap}{a C dx:Ac}{fs fs':List (Str×V)}
theorem UG(hok:mP P w H h)(e:H a=some (.ins C dx fs)):∃mA,ObjM h a dx C mA/\(∀f,sJ (fs.lookup f) (mA f))/\PySem.Within mA (fs.map (·.1))/\fs.length<=1000/\H dx=some (.own a):=by
 obtain⟨d,z,ne,ob,mA,n,r,q⟩:=(show c5 P w H h a (.ins C dx fs) from hok a _ e)
 exact⟨mA,⟨ob,n,ne⟩,r,q,z,d⟩
end
structure Cls(K:PySem.W.Frag)(C:Addr):Prop where
 pg:PySem.W.plainGet K C Str.empty=true
 hd:PySem.W.hasDictIn K C=true
 po:PySem.W.plainOver K C=true
 sa:PySem.W.findIn K (.ref C) "__setattr__"=some (some (.builtin "object.__setattr__"))
theorem Cls.get{K:Aa}{C:Ac}(c:Cls K C)(f:Str):PySem.W.plainGet K C f=true:=c.pg
section
variable{X:Cx}{pins:List (Ac×Obj)}{σ:St}{H:Hp}{s:Ab}{A:Around}{E:Value->Ab->Prop}{Q:Value->Ab->Prop}{c:Value}{b:Bool}
inductive TyOf (K:PySem.W.Frag) (H:Hp):V->Value->Prop where
 |non:TyOf K H .non (.type "NoneType")
 |bl (x:Bool):TyOf K H (.bl x) (.type "bool")
 |int (i:Int):TyOf K H (.int i) (.type "int")
 |str (x:Str):TyOf K H (.str x) (.type "str")
 |flt (x:UInt64):TyOf K H (.flt x) (.type "float")
 |lst {a:Ac} {xs:List V} (e:H a=some (.lst xs)):TyOf K H (.ref a) (.type "list")
 |frz {a:Ac} {o:Obj} {xs:List V} (e:H a=some (.frz o (.lst xs))):TyOf K H (.ref a) (.type "list")
 |tup {a:Ac} {xs:List V} (e:H a=some (.tup xs)):TyOf K H (.ref a) (.type "tuple")
 |dK {a:Ac} {kvs:List (bA×V)} (e:H a=some (.dK kvs)):TyOf K H (.ref a) (.type "dict")
 |dT {a:Ac} {kvs:List (List bA×V)} (e:H a=some (.dT kvs)):TyOf K H (.ref a) (.type "dict")
 | ins {a C dx:Addr} {fs:List (Str×V)} (e:H a=some (.ins C dx fs)) (cl:Cls K C) (ha:PySem.W.findIn K (.ref C) "__class__"=some (some (.builtin "object.__class__")))
   (hn:PySem.W.specialIn K (.builtin "object.__class__") "__get__"=some (some (.builtin "getset_descriptor.__get__"))) (htk:PySem.W.takesIn K (.builtin "object.__class__")=some true)
   (hm:PySem.W.mroIn K C (.type "object")=some true):TyOf K H (.ref a) (.ref C)
theorem KH {x:V} {u t:Value} (I:Inv X pins σ H s) (rx:bD x u) (ty:TyOf X.K H x t) (e:PySem.W.kitOne X.K t c=some b) (h:∀tk,Q (.bool b) {s with toks:=tk}) :
  wpAny (model X.prog X.w) A (call (.builtin "isinstance") [u,c]) Q E s:=by
 cases ty with
 |non=>cases (show u=Value.none from rx);exact a2w PySem.W.kitx_none I.kIn True.intro e (λz=>nomatch z) h
 |bl y=>cases (show u=Value.bool y from rx);exact a2w PySem.W.kitx_bool I.kIn True.intro e (λz=>nomatch z) h
 |int i=>obtain⟨t,q⟩:=(show ∃t,u=Value.int i t from rx);cases q;exact a2w PySem.W.kitx_int I.kIn True.intro e (λz=>nomatch z) h
 |str y=>obtain⟨t,q⟩:=(show ∃t,u=Value.str y t from rx);cases q;exact a2w PySem.W.kitx_str I.kIn True.intro e (λz=>nomatch z) h
 |flt y=>obtain⟨t,q⟩:=(show ∃t,u=Value.float y t from rx);cases q;exact a2w PySem.W.kitx_float I.kIn True.intro e (λz=>nomatch z) h
 | @lst a xs ea=>
  cases (show u=Value.ref a from rx)
  obtain⟨_,_,n,_,h1⟩:=(show c5 X.prog X.w H s.heap a (.lst xs) from I.hok a _ ea)
  exact a2w PySem.W.kitx_list I.kIn ⟨_,h1,rfl⟩ e (λz=>nomatch z) h
 | @frz a ob xs ea=>
  cases (show u=Value.ref a from rx)
  obtain⟨_,_,_,n,_,h1⟩:=(show c5 X.prog X.w H s.heap a (.frz ob (.lst xs)) from I.hok a _ ea)
  exact a2w PySem.W.kitx_list I.kIn ⟨_,h1,rfl⟩ e (λz=>nomatch z) h
 | @tup a xs ea=>
  cases (show u=Value.ref a from rx)
  obtain⟨_,_,_,p⟩:=(show c5 X.prog X.w H s.heap a (.tup xs) from I.hok a _ ea)
  obtain⟨o,h1,h2,_⟩:=p
  exact a2w PySem.W.kitx_tuple I.kIn ⟨o,h1,h2⟩ e (λz=>nomatch z) h
 | @dK a kvs ea=>
  cases (show u=Value.ref a from rx)
  obtain⟨_,_,vs,_,p⟩:=(show c5 X.prog X.w H s.heap a (.dK kvs) from I.hok a _ ea)
  obtain⟨o,es,ep,h1,h2,_⟩:=p
  exact a2w PySem.W.kitx_dict I.kIn ⟨o,h1,h2.1⟩ e (λz=>nomatch z) h
 | @dT a kvs ea=>
  cases (show u=Value.ref a from rx)
  obtain⟨_,_,xs,_,o,es,ep,h1,h2,_⟩:=(show c5 X.prog X.w H s.heap a (.dT kvs) from I.hok a _ ea)
  exact a2w PySem.W.kitx_dict I.kIn ⟨o,h1,h2.1⟩ e (λz=>nomatch z) h
 | @ins a C dx fs ea cl ha hn htk hm=>
  cases (show u=Value.ref a from rx)
  obtain⟨mA,O,_⟩:=UG I.hok ea
  obtain⟨od,J,_⟩:=O.look
  exact a2w (PySem.W.kitx_own (cl.get _) cl.hd ha hn htk hm) I.kIn J e (λz=>nomatch z) h
end
structure Room(k:Nat)(A:Around):Prop where
 hd:A.handled=none
 dp:A.depth+3*k+5<recursionLimit
 un:A.units+16*k+200<cLine
 gd:A.guards=some []:=by rfl
theorem Room.mono{j k:Nat}{A:Around}(r:Room k A)(h:j<=k):Room j A:=⟨r.hd,by have:=r.dp;omega,by have:=r.un;omega,r.gd⟩
theorem Room.deeper{k:Nat}{A:Around}(r:Room (k+1) A)(env:Env):Room k (A.deeper env):=
 ⟨r.hd,by have:=r.dp;show A.depth+1+3*k+5<_;omega,by have:=r.un;show A.units+3+16*k+200<_;omega,r.gd⟩
theorem Room.depth{k:Nat}{A:Around}(r:Room k A):A.depth<recursionLimit:=by have:=r.dp;omega
theorem Room.units{k:Nat}{A:Around}(r:Room k A):A.units+64<cLine:=by have:=r.un;omega
def RG:TA:=λ_ H Q=>Q [] H
def DG(ta:TE)(tr:TA):TA:=λσ H Q=>ta σ H λx H1=>tr σ H1 λxs H2=>Q (x::xs) H2
section
variable{X:Cx}{e:Expr}{es:List Expr}{te:TE}{t:TA}{pos:Pos}
theorem iN:PA X [] RG:=λ_ _ _ _ H Q I h=>Calls.spliced_nil ⟨[],H,I,.nil,h⟩
theorem eJ(ha:PE X e te)(hr:PA X es t)(hs:starEach (e::es) X.env=(false,eval e X.env)::starEach es X.env:=by rfl):PA X (e::es) (DG te t):=by
 intro pos pins s σ H Q I h
 rw[hs]
 show wpAny _ _ (spliced ((false,eval e X.env)::backTo pos (starEach es X.env))) _ _ s
 refine Calls.spliced_cons (cO (ha pins s σ H _ I h) λu s1 ⟨x,H1,I1,r1,q1⟩=>?_)
 exact cO (hr pos pins s1 σ H1 _ I1 q1) λus s2 ⟨xs,H2,I2,r2,q2⟩=>⟨x::xs,H2,I2,.cons r1 r2,q2⟩
def a6U(t:TA):TE:=λσ H Q=>t σ H λxs H1=>xs.length<=sizeLine/\∀p,H1 p=none->Q (.ref p) (bF H1 p (.tup xs))
def WM(t:TA):TE:=λσ H Q=>t σ H λxs H1=>xs.length<=sizeLine/\∀p,H1 p=none->Q (.ref p) (bF H1 p (.lst xs))
theorem a0M{x1}(h:PA X es t):PE X (.Tuple es x1 pos) (a6U t):=by
 intro pins s σ H Q I hq
 refine wpAny_Tuple_spliced (cO (h pos pins s σ H _ I hq) λus s1 ⟨xs,H1,I1,r,z,q⟩=>⟨by rw[<- r.length];exact z,?_⟩)
 have hf:H1 s1.heap.objs.size=none:=I1.hok.fresh (a0l _)
 refine⟨.ref s1.heap.objs.size,bF H1 s1.heap.objs.size (.tup xs),I1.laid (t':=s1.toks) (λb u e=>a0f _ e) (a0l _) ?_,rfl,q _ hf⟩
 exact⟨z,us,r,⟨_,a1b _ rfl,rfl,_,rfl⟩⟩
theorem FH(h:PA X es t):PE X (.List es pos) (WM t):=by
 intro pins s σ H Q I hq
 refine wpAny_List_spliced (cO (h pos pins s σ H _ I hq) λus s1 ⟨xs,H1,I1,r,z,q⟩=>⟨by rw[<- r.length];exact z,?_⟩)
 have hf:H1 s1.heap.objs.size=none:=I1.hok.fresh (a0l _)
 refine⟨.ref s1.heap.objs.size,bF H1 s1.heap.objs.size (.lst xs),I1.laid (t':=s1.toks) (λb u e=>a0f _ e) (a0l _) ?_,rfl,q _ hf⟩
 exact⟨z,us,0,r,a1b _ rfl⟩
end
abbrev Sp:=List V->Hp->VK->XK->Prop
abbrev MD:=List Env->Hp->Ab->XK->Value->Ab->Prop
structure Env0(P:Program)(w:World)(K:PySem.W.Frag)(mg:Str->Option Value)(base:Heap)(A:Around)(outer:List Env)(s:Shared)(H:Hp):Prop where
 frames:A.frames=some outer
 mod:Mod K mg base
 bs:∀b o,base.get? b=some o->s.heap.get? b=some o/\H b=none
 bsz:base.objs.size<=s.heap.objs.size
 funs:s.heap.FunFrames base outer
 frf:∀b∈NZ outer,H b=none
 hok:mP P w H s.heap
 bare:AllBare s.gens
 tb:∀b∈base.life.registered,H b=some .tbl
def CE(outer:List Env)(P:Program)(w:World)(H:Hp)(s:Shared)(Q:VK)(u:Value)(s':Shared):Prop:=
 ∃v H',s'.os=s.os/\(AllBare s'.gens/\GX s.gens s'.gens)/\Un (NZ outer) [] H H' s.heap s'.heap/\mP P w H' s'.heap/\bD v u/\Q v H'
def CR(CX:MD)(outer:List Env)(P:Program)(w:World)(H:Hp)(s:Shared)(Q:VK)(E:XK)(r:Result)(s':Shared):Prop:=
 match r with
 |.ok (.ret u)=>CE outer P w H s Q u s'
 |.ok _=>False
 |.error e=>CX outer H s E e s'
structure FnOk (P:Program) (w:World) (K:PySem.W.Frag) (mg:Str->Option Value) (base:Heap) (CX:MD) (k:Nat) (f:Addr) (fd:FuncData) (ps:List Str) (sp:Sp):Prop where
 len:∀vs H Q E,sp vs H Q E->vs.length=ps.length
 run:∀(A:Around) (outer:List Env) (s:Shared) (H:Hp) (args:Args) (us:List Value) (vs:List V) (Q:VK) (E:XK),Room k A->Env0 P w K mg base A outer s H->BindsTo s fd args (ps.zip us)->b9 vs us->sp vs H Q E->
  codeAny (model P w) A (.call (.ref f) args) (CR CX outer P w H s Q E) s
theorem FnOk.imp {P:Program} {w:World} {K:PySem.W.Frag} {mg:Str->Option Value} {base:Heap} {CX:MD} {k:Nat} {f:Addr} {fd:FuncData} {ps:List Str} {sp sp':Sp} (F:FnOk P w K mg base CX k f fd ps sp)
  (h:∀vs H Q E,sp' vs H Q E->sp vs H Q E):FnOk P w K mg base CX k f fd ps sp':=
 ⟨λvs H Q E q=>F.len vs H Q E (h _ _ _ _ q),λA outer s H args us vs Q E hr he hb hv hs=>F.run A outer s H args us vs Q E hr he hb hv (h _ _ _ _ hs)⟩
section
variable{X:Cx}{pins:List (Ac×Obj)}{σ:St}{H:Hp}{s s':Ab}
theorem Inv.env0(I:Inv X pins σ H s):Env0 X.prog X.w X.K X.mg X.base X.A X.stack s H:=
 ⟨I.ok.frames,I.ok.mod,I.bs,a0y I.ok.bsz I.sz,I.stack,I.stkFree,I.hok,I.bare.1,I.tb⟩
theorem Inv.after{Q:VK}{u:Value}(I:Inv X pins σ H s)(h:CE X.stack X.prog X.w H s Q u s'):EP X pins σ Q u s':=by
 obtain⟨v,H',os,bare,un,hok,r,q⟩:=h
 obtain⟨hh,g,d,t,os'⟩:=s'
 obtain rfl:os'=s.os:=os
 exact⟨v,H',I.call (h':=hh) (g':=g) (d':=d) (t':=t) (ch:=[]) un hok bare (λb z=>absurd z (by simp)),r,q⟩
end
def XU(sp:Sp)(dvs:List V)(E:XK)(t:TA):TE:=λσ H Q=>t σ H λvs H1=>sp (vs++dvs) H1 Q E
def wU(K:PySem.W.Frag)(fd:FuncData)(ps:List Str)(ds:List Value):Prop:=
 ∀(s:Ab) (us:List Value),K.In s.heap->(us++ds).length=ps.length->BindsTo s fd ⟨us,[]⟩ (ps.zip (us++ds))
theorem wU.all{K:PySem.W.Frag}{fd:FuncData}{ps:List Str}(h:∀us:List Value,us.length=ps.length->bindArgs fd ⟨us,[]⟩=pure (ps.zip us)):wU K fd ps []:=λs us _ hl=>by
 rw[a5r] at hl ⊢
 exact .of_eq (h us hl)
def DY(CX:MD)(X:Cx)(E:XK):Prop:=∀(pins:List (Ac×Obj)) (σ:St) (H:Hp) (s:Ab) (e:Value) (s':Ab),Inv X pins σ H s->CX X.stack H s E e s'->X.xe e s'
section
variable{X:Cx}{CX:MD}{k:Nat}{f C:Ac}{fd:FuncData}{ps:List Str}{sp:Sp}{dvs:List V}{ds:List Value}{E:XK}{x m:Str}{p pos apos:Pos}{e o:Expr}{es:List Expr}{ta:TE}{t:TA}
theorem a1B {pins:List (Addr×Obj)} {σ:St} {H:Hp} {s:Shared} {Q:VK} {us:List Value} {vs:List V} (F:FnOk X.prog X.w X.K X.mg X.base CX k f fd ps sp) (hr:Room k X.A) (hb:wU X.K fd ps ds) (hd:b9 dvs ds) (hx:DY CX X E)
  (I:Inv X pins σ H s) (r:b9 vs us) (h:sp (vs++dvs) H Q E):wpAny (model X.prog X.w) X.A (call (.ref f) us) (EP X pins σ Q) X.xe s:=by
 have r2:b9 (vs++dvs) (us++ds):=r.append hd
 have hl:(us++ds).length=ps.length:=by rw[<- r2.length];exact F.len _ _ _ _ h
 refine wpAny_call (a5z (F.run X.A X.stack s H ⟨us,[]⟩ (us++ds) (vs++dvs) Q E hr I.env0 (hb s us I.kIn hl) r2 h) λr s' hq=>?_)
 cases r with
 |error e=>exact hx pins σ H s e s' I hq
 | ok fl=>
  cases fl with
  |ret u=>exact I.after hq
  |next=>exact False.elim hq
  |brk=>exact False.elim hq
  |cont=>exact False.elim hq
theorem V8 (F:FnOk X.prog X.w X.K X.mg X.base CX k f fd ps sp) (hr:Room k X.A) (hg:Gl X x) (hm:X.mg x=some (.ref f)) (hk:PySem.W.keepIn X.K (.ref f)=true) (hb:wU X.K fd ps ds) (hd:b9 dvs ds) (hx:DY CX X E)
  (ha:PA X (e::es) t) (hdb:(x==("__debug__" : Str))=false:=by decide) (he:starEach (e::es) X.env=(false,eval e X.env)::starEach es X.env:=by rfl) (hpl:(backTo pos (starEach es X.env)).any (·.1)=false:=by rfl) :
  PE X (.Call (.Name x p) (e::es) [] pos) (XU sp dvs E t):=by
 intro pins s σ H Q I h
 refine wpAny_Call_Name_kw (US I hg hm ?_ hdb)
 refine PySem.W.callWith_K (h₀:=X.base) I.ok.mod.kin hk (cO (ha pos pins s σ H _ I h) λus s1 ⟨vs,H1,I1,r,q⟩=>⟨I1.kIn,?_⟩) he hpl
 exact a1B F hr hb hd hx I1 r q
end
structure FnScope(N P:List Str)(sc:Scope):Prop where
 kind:sc.kind= .function
 co:sc.isCoroutine=false
 gen:sc.isGenerator=false
 nd:N.Nodup
 pre:N.take P.length=P
 par:∀x∈P,sc.names.lookup x=some .local\/sc.names.lookup x=some .cell
 nofree:∀y∈sc.names,y.2≠ .free
theorem x9 {kindOf:Str->Option NameKind} {x:Str}:∀ {binds:List (Str×Value)} {m:Str->Option Value},(∀v,(x,v)∉binds)->bindL kindOf binds m x=m x
 |[],_,_=>rfl
 | (n,v)::r,m,h=>by
  unfold bindL
  rw[x9 λw hw=>h w (a0k _ hw)]
  split
  ·have:x≠n:=by rintro rfl;exact h v a0m
   simp[this]
  ·rfl
theorem wZ {kindOf:Str->Option NameKind} {x:Str}:∀ {binds:List (Str×Value)} {m:Str->Option Value},(∀v,(x,v)∉binds)->bindC kindOf binds m x=m x
 |[],_,_=>rfl
 | (n,v)::r,m,h=>by
  unfold bindC
  rw[wZ λw hw=>h w (a0k _ hw)]
  split
  ·rfl
  ·have:x≠n:=by rintro rfl;exact h v a0m
   simp[this]
theorem x8 {kindOf:Str->Option NameKind} {x:Str} {v:Value}:∀ {P:List Str} {vs:List Value} {i:Nat} {m:Str->Option Value},P.Nodup->P[i]? =some x->vs[i]? =some v->kindOf x=some .local->
  bindL kindOf (P.zip vs) m x=some v
 |[],_,_,_,_,h,_,_=>by simp at h
 |_::_,[],_,_,_,_,h,_=>by simp at h
 | p::P,w::vs,0,m,nd,h1,h2,hk=>by
  simp at h1 h2;subst h1;subst h2
  show bindL kindOf ((p,w)::P.zip vs) m p=_
  unfold bindL
  rw[x9 λv hv=>(a2i.mp nd).1 (List.of_mem_zip hv).1,if_pos hk]
  simp
 | p::P,w::vs,i+1,m,nd,h1,h2,hk=>by
  show bindL kindOf ((p,w)::P.zip vs) m x=_
  unfold bindL
  exact x8 (i:=i) (a2i.mp nd).2 (by simpa using h1) (by simpa using h2) hk
theorem wY {kindOf:Str->Option NameKind} {x:Str} {v:Value}:∀ {P:List Str} {vs:List Value} {i:Nat} {m:Str->Option Value},P.Nodup->P[i]? =some x->vs[i]? =some v->kindOf x≠some .local->
  bindC kindOf (P.zip vs) m x=some v
 |[],_,_,_,_,h,_,_=>by simp at h
 |_::_,[],_,_,_,_,h,_=>by simp at h
 | p::P,w::vs,0,m,nd,h1,h2,hk=>by
  simp at h1 h2;subst h1;subst h2
  show bindC kindOf ((p,w)::P.zip vs) m p=_
  unfold bindC
  rw[wZ λv hv=>(a2i.mp nd).1 (List.of_mem_zip hv).1,if_neg hk]
  simp
 | p::P,w::vs,i+1,m,nd,h1,h2,hk=>by
  show bindC kindOf ((p,w)::P.zip vs) m x=_
  unfold bindC
  exact wY (i:=i) (a2i.mp nd).2 (by simpa using h1) (by simpa using h2) hk
def start(N:List Str)(vs:List V):St:=vs.map some++List.replicate (N.length-vs.length) none
def d4(CX:MD)(P:Program)(w:World)(K:PySem.W.Frag)(mg:Str->Option Value)(base:Heap)(N:List Str)(qual:Str)(scope:Scope)(f:Addr)(cd:Value)(A:Around)(outer:List Env)(s:Shared)(H:Hp)(E:XK):Cx where
 prog:=P
 w:=w
 K:=K
 mg:=mg
 base:=base
 A:=A.deeper (envOfC qual scope s.heap.objs.size f cd)
 N:=N
 s₀:=s
 H₀:=H
 env:=envOfC qual scope s.heap.objs.size f cd
 outer:=outer
 stack:=envOfC qual scope s.heap.objs.size f cd::outer
 ex:=[]
 calm:=true
 fn:=λ_=>true
 pn:=[]
 xe:=λe s'=>wpAny (model P w) (A.deeper (envOfC qual scope s.heap.objs.size f cd)) (leaving (envOfC qual scope s.heap.objs.size f cd) e) (λ_ s''=>CX outer H s E e s'') (λe' s''=>CX outer H s E e' s'') s'
theorem BC{sc:Scope}{n:Nat}{x:Str}(h:sc.names.lookup x=some .cell):∃c,(cellsFrom n sc.names []).lookup x=some c:=by
 have q:=PySem.W.cellsFrom_some sc.names n [] (.inl h)
 exact Option.isSome_iff_exists.mp q
theorem KF {CX:MD} {P:Program} {w:World} {K:PySem.W.Frag} {mg:Str->Option Value} {base:Heap} {N ps:List Str} {qual:Str} {scope:Scope} {f:Addr} {cd:Value} {A:Around} {outer:List Env} {s s1:Shared} {H:Hp} {E:XK} {us:List Value} {vs:List V}
  (S:FnScope N ps scope) (hd:A.handled=none) (e0:Env0 P w K mg base A outer s H) (hl:vs.length=ps.length) (r:b9 vs us)
  (x:InCallC s s.heap.objs.size (bindL (envOfC qual scope s.heap.objs.size f cd).kindOf (ps.zip us) λ_=>none) (cellsFrom (s.heap.objs.size+1) scope.names []) (bindC (envOfC qual scope s.heap.objs.size f cd).kindOf (ps.zip us) λ_=>none) s1) :
  Inv (d4 CX P w K mg base N qual scope f cd A outer s H E) [] (start N vs) H s1:=by
 have hpl:ps.length<=N.length:=by have:=congrArg List.length S.pre;rw[a2g] at this;omega
 obtain⟨h1,tk,rfl,hk⟩:=x.done
 have noA:∀b:Ac,b∉(d4 CX P w K mg base N qual scope f cd A outer s H E).ex:=λb z=>absurd (show b∈([]:List Ac) from z) (by simp)
 refine ⟨⟨e0.mod,S.kind,rfl,rfl,a0l _,λy z c h1 h2=>?_,λy hy=>?_,λy c _ h=>?_,λ_=>hd,Around.frames_deeper e0.frames,.inr ⟨rfl,rfl⟩,λb z=>absurd z (noA b),e0.bs,e0.bsz,λb _ _=>noA b,λb z=>absurd z (noA b),e0.funs,e0.frf,e0.tb⟩,
  rfl,⟨e0.bare,λ_ _ e=>e⟩,Un.kept hk,⟨_,x.toInCall.ns,λi y v h1 h2 h3=>?_⟩,λy c h=>⟨_,x.cell y c h⟩,e0.hok.fresh (a0l _),λy c h=>?_,λp hp=>absurd (show p∈([]:List (Ac×Obj)) from hp) (by simp),e0.hok.kept hk,?_⟩
 ·exact name_of_addr x.apart (a4p h1) (a4p h2)
 ·have hy:scope.names.lookup y=some .cell\/scope.names.lookup y=some .free:=hy
  rcases hy with hy|hy
  ·exact BC hy
  ·exact absurd rfl (S.nofree _ (a4p hy))
 ·exact a3g (x.above y c (a4p h))
 ·have hi:i<vs.length:=by
   unfold start at h2
   by_cases hi:i<vs.length
   ·exact hi
   ·rw[a1i (by simpa using hi)] at h2
    rw[a2e] at h2
    split at h2<;>cases h2
  have ha:vs[i]? =some v:=by
   unfold start at h2
   rw[a1f (by simpa using hi),a0g] at h2
   cases e:vs[i]? with
   |none=>rw[e] at h2;cases h2
   |some a=>rw[e] at h2;cases h2;rfl
  obtain⟨u,hu,rv⟩:=r.get ha
  have hp:ps[i]? =some y:=by
   rw[<- S.pre,List.getElem?_take_of_lt (by omega)];exact h1
  have ndP:ps.Nodup:=by rw[<- S.pre];exact S.nd.sublist (List.take_sublist _ _)
  refine⟨u,rv,?_⟩
  rcases S.par y (a0u hp) with k|k
  ·exact .inl ⟨k,x8 ndP hp hu k⟩
  ·obtain⟨c,e⟩:=BC (n:=s.heap.objs.size+1) k
   refine .inr ⟨.inl k,c,e,?_⟩
   have q:=x.cell y c e
   rw[wY ndP hp hu (by show scope.names.lookup y≠_;rw[k];decide)] at q
   exact q
 ·exact e0.hok.fresh (a3g (x.above y c (a4p h)))
 ·unfold start
  show _=N.length
  rw[a1r,a0d,a1z]
  omega
theorem a34 {CX:MD} {P:Program} {w:World} {K:PySem.W.Frag} {mg:Str->Option Value} {base:Heap} {k:Nat} {f:Addr} {name qual:Str} {params:Arguments} {body:List Stmt} {scope:Scope} {dV kV doc pm cdv ct oc:Value} {an od:Option Addr}
  {osl:Array (Option Value)} {N ps:List Str} {sp:Sp} (lk:K.lookup f=some ⟨oc,od,.func (PySem.W.fnOf name qual params body scope dV kV doc pm an cdv ct),osl⟩) (hcd:PySem.W.codeIn K cdv qual=true) (S:FnScope N ps scope)
  (len:∀vs H Q E,sp vs H Q E->vs.length=ps.length)
  (hbody:∀(A:Around) (outer:List Env) (s:Shared) (H:Hp) (vs:List V) (Q:VK) (E:XK),Room k (A.deeper (envOfC qual scope s.heap.objs.size f cdv))->sp vs H Q E->
   ∃t,wV (d4 CX P w K mg base N qual scope f cdv A outer s H E) body t/\t {nx:=λ_ H'=>Q .non H',rt:=Q} (start N vs) H) :
  FnOk P w K mg base CX (k+1) f (PySem.W.fnOf name qual params body scope dV kV doc pm an cdv ct) ps sp:=by
 refine⟨len,λA outer s H args us vs Q E hr e0 hb r hsp=>?_⟩
 have hl:=len _ _ _ _ hsp
 have KX:K.In s.heap:=e0.mod.kin.keeps λb o e=>(e0.bs b o e).1
 have lim:s.heap.NoLimit:=e0.mod.nolimit.keeps λb o e=>(e0.bs b o e).1
 have hkind:∀y∈ps.zip us,scope.names.lookup y.1=some .local\/(scope.names.lookup y.1=some .cell/\((cellsFrom (s.heap.objs.size+1) scope.names []).lookup y.1).isSome=true):=λ⟨n,v⟩ hy=>by
  rcases S.par n (List.of_mem_zip hy).1 with q|q
  ·exact .inl q
  ·exact .inr ⟨q,PySem.W.cellsFrom_some _ _ _ (.inl q)⟩
 refine codeAny_call_function hr.depth (KX _ _ lk) rfl S.co S.gen rfl (PySem.W.codeRec_of KX hcd) (hb _ _ _ _ ?_)
 refine wpAny_newFunctionEnv_cells S.kind hkind λenv he s1 x=>?_
 subst he
 refine⟨lim.keeps x.toInCall.keep,codeAny_func ?_⟩
 obtain⟨t,ht,hq⟩:=hbody A outer s H vs Q E (hr.deeper _) hsp
 have I:Inv (d4 CX P w K mg base N qual scope f cdv A outer s H E) [] (start N vs) H s1:=KF S hr.hd e0 hl r x
 refine a1l (ht [] s1 (start N vs) H _ I hq) (λfl s' hs=>?_) λe s' hs=>hs
 have fin:∀ {σ':St} {H':Hp} {v:V} {u:Value},Inv (d4 CX P w K mg base N qual scope f cdv A outer s H E) [] σ' H' s'->bD v u->Q v H'->CE outer P w H s Q u s':=
  fun {σ' H' v u} J rv q=>⟨v,H',J.os,J.bare,J.base,J.hok,rv,q⟩
 cases fl with
 | ret u=>
  obtain⟨v,σ',H',J,rv,q⟩:=hs
  exact fin J rv q
 | next=>
  obtain⟨σ',H',J,q⟩:=hs
  exact fin (v:=V.non) (u:=Value.none) J rfl q
 | brk=>
  obtain⟨_,_,_,q⟩:=hs
  exact False.elim q
 | cont=>
  obtain⟨_,_,_,q⟩:=hs
  exact False.elim q
section
variable{X:Cx}{x:Str}{p pos:Pos}{e:Expr}{es:List Expr}{t:TA}{id T:String}{r:List V->Hp->VK->Prop}
def XT(r:List V->Hp->VK->Prop)(t:TA):TE:=λσ H Q=>t σ H λvs H1=>r vs H1 Q
theorem jX (hc:eD X (.builtin id) r) (hg:Gl X x) (hm:X.mg x=none) (hv:bootBuiltins x=some (.builtin id)) (ha:PA X (e::es) t) (hn:x≠ "__name__":=by decide) (hdb:(x==("__debug__" : Str))=false:=by decide)
  (he:starEach (e::es) X.env=(false,eval e X.env)::starEach es X.env:=by rfl) (hpl:(backTo pos (starEach es X.env)).any (·.1)=false:=by rfl):PE X (.Call (.Name x p) (e::es) [] pos) (XT r t):=by
 intro pins s σ H Q I h
 refine wpAny_Call_Name_kw (qJ I hg hm hv ?_ hn hdb)
 exact PyProof.Rows.callWith_builtin1 (cO (ha pos pins s σ H _ I h) λus s1 ⟨vs,H1,I1,r1,q1⟩=>hc pins s1 σ H1 vs us Q I1 r1 q1) he hpl
theorem gB (hc:eD X (.type T) r) (hg:Gl X x) (hm:X.mg x=none) (hv:bootBuiltins x=some (.type T)) (ha:PA X (e::es) t) (hn:x≠ "__name__":=by decide) (hdb:(x==("__debug__" : Str))=false:=by decide)
  (he:starEach (e::es) X.env=(false,eval e X.env)::starEach es X.env:=by rfl) (hpl:(backTo pos (starEach es X.env)).any (·.1)=false:=by rfl):PE X (.Call (.Name x p) (e::es) [] pos) (XT r t):=by
 intro pins s σ H Q I h
 refine wpAny_Call_Name_kw (qJ I hg hm hv ?_ hn hdb)
 exact a4f (cO (ha pos pins s σ H _ I h) λus s1 ⟨vs,H1,I1,r1,q1⟩=>hc pins s1 σ H1 vs us Q I1 r1 q1) he hpl
end
end L2
namespace HT
open PySem PyProof.Rows
section
open PySem.SeqAt
open PySem.AutoSeq1 (wpAny_loadPart')
open PySem.MeetsSeq PySem.MeetsSeq2 PySem.MeetsSeq3
end
section
variable{prog:Program}{w:World}{A:Around}{E:Value->Ab->Prop}{s:Ab}
def sIx(n d:Nat):Option Int->Nat
 |none=>d
 |some v=>if v<0 then (v+(n:Int)).toNat else min v.toNat n
theorem sIx_none(n d:Nat):sIx n d none=d:=rfl
theorem sIx_le (n d:Nat) (hd:d<=n) (o:Option Int):sIx n d o<=n:=by
 cases o with
 |none=>exact hd
 | some v=>
  show (if v<0 then (v+(n:Int)).toNat else min v.toNat n)<=n
  by_cases hv:v<0
  ·rw[if_pos hv];omega
  ·rw[if_neg hv];exact Nat.min_le_right _ _
theorem clip_eq(v:Int)(n d:Nat):(if v<0 then max (v+(n:Int)) 0 else min v (n:Int))=((sIx n d (some v):Nat):Int):=by
 show (if v<0 then max (v+(n:Int)) 0 else min v (n:Int))=(((if v<0 then (v+(n:Int)).toNat else min v.toNat n):Nat):Int)
 by_cases hv:v<0
 ·simp only[if_pos hv];omega
 ·simp only[if_neg hv];omega
theorem adjust_gen (lo hi:Option Int) (n:Nat):Builtin.Slice.sliceAdjust lo hi 1 (n:Int)=(((sIx n 0 lo:Nat):Int),((sIx n n hi:Nat):Int)):=by
 have h1:¬((1:Int)<0):=by omega
 unfold Builtin.Slice.sliceAdjust
 simp only[h1,if_false]
 refine Prod.ext ?_ ?_
 ·cases lo with
  |none=>rfl
  |some v=>exact clip_eq v n 0
 ·cases hi with
  |none=>rfl
  |some v=>exact clip_eq v n n
theorem places_gen(i j:Nat):Builtin.Slice.slicePlaces (i:Int) (j:Int) 1=j-i:=by
 unfold Builtin.Slice.slicePlaces
 have h1:(1:Int)>0:=by omega
 simp only[h1,a6q,Int.ediv_one]
 split<;>omega
theorem slicePart_{v:Value}{o:Option Int}{Q:Option Int->Shared->Prop}(p:IsPart v o)(h:Q o s):wpAny (model prog w) A (Builtin.Slice.slicePartIndex v) Q E s:=by
 cases p with
 |none=>exact slicePart_none h
 |int i t=>exact slicePart_int h
theorem sliceApplied_gen {sl:Addr} {vl vu:Value} {lo hi:Option Int} {n:Nat} {Q:Int×Int×Nat->Shared->Prop} (hs:s.heap.IsSliceOf sl vl vu .none) (pl:IsPart vl lo) (pu:IsPart vu hi)
  (h:Q (((sIx n 0 lo:Nat):Int),1,sIx n n hi-sIx n 0 lo) s):wpAny (model prog w) A (Builtin.Slice.sliceApplied (.ref sl) (pure (n:Int))) Q E s:=by
 obtain⟨os,hos,hcs,hds⟩:=id hs
 unfold Builtin.Slice.sliceApplied Builtin.Slice.sliceFields
 refine a0b (a0b (wpAny_field hos hds (x:=vl) rfl (a0b (wpAny_field hos hds (x:=vu) rfl (a0b (wpAny_field hos hds (x:=.none) rfl (a0e ?_)))))))
 refine a0b (slicePart_none ?_)
 show wpAny _ _ (if ((1:Int)==0)=true then _ else _) _ _ s
 rw[if_neg (by decide)]
 refine a0b (slicePart_ pl (a0b (slicePart_ pu (a0b (a0e ?_)))))
 show wpAny _ _ (match Builtin.Slice.sliceAdjust lo hi 1 (n:Int) with|(lo,hi)=>pure (lo,(1:Int),Builtin.Slice.slicePlaces lo hi 1)) _ _ s
 rw[adjust_gen lo hi n]
 show wpAny _ _ (pure (((sIx n 0 lo:Nat):Int),(1:Int),Builtin.Slice.slicePlaces ((sIx n 0 lo:Nat):Int) ((sIx n n hi:Nat):Int) 1)) _ _ s
 rw[places_gen]
 exact a0e h
theorem pick_gen (xs:Array Value) (i k:Nat):((List.range k).filterMap λ(m:Nat)=>xs[((i:Int)+(m:Int)*1).toNat]?).toArray=((xs.toList.drop i).take k).toArray:=by
 have e:(λ(m:Nat)=>xs[((i:Int)+(m:Int)*1).toNat]?)=λm=>xs[i+m]?:=by
  funext m
  have:((i:Int)+(m:Int)*1).toNat=i+m:=by omega
  rw[this]
 rw[e]
 have:=pick_run xs i k
 rw[a3l] at this
 have e2:((λx=>xs[x]?)∘λx=>i+x)=λm=>xs[i+m]?:=rfl
 rw[e2] at this
 rw[this]
theorem getItem_tuple_cut {t sl:Addr} {items:Array Value} {vl vu:Value} {lo hi:Option Int} {Q:Value->Shared->Prop} (ht:IsTup s.heap t items) (hs:s.heap.IsSliceOf sl vl vu .none) (pl:IsPart vl lo) (pu:IsPart vu hi)
  (hw:¬(sIx items.size 0 lo=0/\sIx items.size items.size hi=items.size))
  (h:Q (.ref s.heap.objs.size) {s with heap:=s.heap.push {cls:=.type "tuple",data:=.seq ((items.toList.drop (sIx items.size 0 lo)).take (sIx items.size items.size hi-sIx items.size 0 lo)).toArray} })
  (hsz:items.size<=sizeLine):wpAny (model prog w) A (getItem (.ref t) (.ref sl)) Q E s:=by
 have htake:sizeOk (.seq ((items.toList.drop (sIx items.size 0 lo)).take (sIx items.size items.size hi-sIx items.size 0 lo)).toArray):=by
  show ((items.toList.drop (sIx items.size 0 lo)).take (sIx items.size items.size hi-sIx items.size 0 lo)).toArray.size<=sizeLine
  rw[a0t,a2g,a6c,a0o]
  omega
 have hj:sIx items.size items.size hi<=items.size:=sIx_le _ _ (a0l _) hi
 obtain⟨os,hos,hcs,hds⟩:=id hs
 have hTs:s.TypeIs (.ref sl) "slice":=⟨os,hos,hcs⟩
 unfold getItem
 try with_reducible refine a1w ?_
 first|refine a0b (a0e ?_)|skip
 refine a0b (wpAny_sequenceKey ht.typeIs (by decide) ?_)
 refine a0b (a4d (name:=Str.ofString "__getitem__") ht.typeIs a5d
  (a2u a5d ht.typeIs entry_tuple_getitem ?_ (args_tuple_getitem _ _)))
 show wpAny _ _ (Builtin.Tuple.tupleItemsOf (.ref t) >>=_) _ _ s
 refine a0b (tupleItemsOf_ ht ?_)
 refine a0b (a5y hTs ?_)
 rw[if_pos (by decide)]
 refine a0b (sliceApplied_gen hs pl pu ?_)
 have hno:¬((((sIx items.size 0 lo:Nat):Int)==0&&(1:Int)==1&&(sIx items.size items.size hi-sIx items.size 0 lo)==items.size)=true):=by
  intro q
  rw[a1g,a1g] at q
  have q1:((sIx items.size 0 lo:Nat):Int)=0:=eq_of_beq q.1.1
  have q2:sIx items.size items.size hi-sIx items.size 0 lo=items.size:=eq_of_beq q.2
  exact hw ⟨by omega,by omega⟩
 show wpAny _ _ (if (((sIx items.size 0 lo:Nat):Int)==0&&(1:Int)==1&&(sIx items.size items.size hi-sIx items.size 0 lo)==items.size)=true then _ else _) _ _ s
 rw[if_neg hno,pick_gen]
 first
  |exact a0b (m:=Builtin.Tuple.tupleExact _) (a1u (a0e ⟨_,rfl,a0e h⟩) htake)
  |exact a0b (m:=Builtin.Tuple.tupleExact _) (a1u (a0b (a0e (a0e ⟨_,rfl,a0e h⟩))) htake)
  |exact a0b (a0b (m:=Builtin.Tuple.tupleExact _) (a1u (a0e (a0e ⟨_,rfl,a0e h⟩)) htake))
  |exact a0b (a0b (m:=Builtin.Tuple.tupleExact _) (a1u (a0e ⟨_,rfl,a0e h⟩) htake))
end
end HT
namespace L2
open PySem PySem.Spec PyProof.Rows
abbrev TO:=St->Hp->(Option Int->Hp->Prop)->Prop
def PO (X:Cx) (e:Option Expr) (t:TO):Prop:=
 ∀ (pins:List (Addr×Obj)) (s:Shared) (σ:St) (H:Hp) (Q:Option Int->Hp->Prop),Inv X pins σ H s->t σ H Q->
  wpAny (model X.prog X.w) X.A (evalPart e X.env) (λu s'=>∃o H',Inv X pins σ H' s'/\IsPart u o/\Q o H') X.xe s
def WP:TO:=λ_ H Q=>Q none H
def a4P(t:TE):TO:=λσ H Q=>t σ H λx H1=>∃i,x= .int i/\Q (some i) H1
theorem uE {ns:List Int}:∀ {us:List Value},b9 (ns.map V.int) us->IntsAre us ns:=by
 induction ns with
 |nil=>intro us r;rw[a5w] at r;cases r;exact .nil
 | cons n ns ih=>
  intro us r
  rw[a0h] at r
  cases r with
  | cons r1 r2=>
   obtain⟨t,e⟩:=r1
   subst e
   exact .cons n t (ih r2)
section
variable{X:Cx}{e:Expr}{te:TE}{lo hi:Option Expr}{tl th:TO}{pos p2:Pos}
theorem VD:PO X none WP:=by
 intro pins s σ H Q I h
 rw[evalPart_none]
 exact a0e ⟨none,H,I,.none,h⟩
theorem VF(h:PE X e te):PO X (some e) (a4P te):=by
 intro pins s σ H Q I hw
 rw[evalPart_some]
 refine cO (h pins s σ H _ I hw) λu s1 ⟨x,H1,I1,r1,q1⟩=>?_
 obtain⟨i,rfl,q⟩:=q1
 obtain⟨t,rfl⟩:=r1
 exact⟨some i,H1,I1,.int i t,q⟩
def a56 (X:Cx) (r:V->Option Int->Option Int->Hp->VK->Prop):Prop:=
 ∀ (pins:List (Addr×Obj)) (s:Shared) (σ:St) (H:Hp) (x:V) (v vl vu:Value) (lo hi:Option Int) (sl:Addr) (Q:VK),Inv X pins σ H s->bD x v->s.heap.IsSliceOf sl vl vu .none->IsPart vl lo->IsPart vu hi->r x lo hi H Q->
  ∃T id,typeLookup (.type T) "__getitem__"=pure (some (.builtin id))/\s.TypeIs v T/\wpAny (model X.prog X.w) X.A (getItem v (.ref sl)) (EP X pins σ Q) X.xe s
def a7J(r:V->Option Int->Option Int->Hp->VK->Prop)(te:TE)(tl th:TO):TE:=λσ H Q=>te σ H λx H1=>tl σ H1 λl H2=>th σ H2 λu H3=>r x l u H3 Q
theorem PL{r:V->Option Int->Option Int->Hp->VK->Prop}(hr:a56 X r)(he:PE X e te)(hl:PO X lo tl)(hu:PO X hi th):PE X (.Subscript e (.Slice lo hi none p2) pos) (a7J r te tl th):=by
 intro pins s σ H Q I h
 refine Subscript_ (cO (he pins s σ H _ I h) λv s1 ⟨x,H1,I1,r1,q1⟩=>?_)
 refine wpAny_Slice (cO (hl pins s1 σ H1 _ I1 q1) λvl s2 ⟨l,H2,I2,pl,q2⟩=>cO (hu pins s2 σ H2 _ I2 q2) λvu s3 ⟨u,H3,I3,pu,q3⟩=>?_)
 rw[evalPart_none]
 refine a0e ?_
 have I4:Inv X pins σ H3 {s3 with heap:=s3.heap.push {cls:=.type "slice",data:=.fields #[vl,vu,.none]} }:=I3.kept (t':=s3.toks) λb ob q=>a0f _ q
 obtain⟨T,id,hT,ht,hg⟩:=hr pins {s3 with heap:=s3.heap.push {cls:=.type "slice",data:=.fields #[vl,vu,.none]} } σ H3 x v vl vu l u s3.heap.objs.size Q I4 r1 (Heap.IsSliceOf.new ..) pl pu q3
 show wpAny (model X.prog X.w) X.A (subscriptTail e (.Slice lo hi none p2) v (.ref s3.heap.objs.size)) (EP X pins σ Q) X.xe {s3 with heap:=s3.heap.push {cls:=.type "slice",data:=.fields #[vl,vu,.none]} }
 exact tail_any (ops:=[.ref s3.heap.objs.size,v]) ht hT hg (by with_unfolding_all rfl)
def BF(xs:List V)(lo hi:Option Int):List V:=(xs.drop (HT.sIx xs.length 0 lo)).take (HT.sIx xs.length xs.length hi-HT.sIx xs.length 0 lo)
theorem rK(xs:List V)(lo hi:Option Int):(BF xs lo hi).length<=xs.length:=by
 unfold BF
 rw[a2g,a6c]
 omega
def a4B(K:PySem.W.Frag):V->Option Int->Option Int->Hp->VK->Prop:=λx lo hi H Q=>∃a xs,x= .ref a/\dQ K H a xs/\
 ¬(HT.sIx xs.length 0 lo=0/\HT.sIx xs.length xs.length hi=xs.length)/\∀p,H p=none->Q (.ref p) (bF H p (.tup (BF xs lo hi)))
theorem a1I:a56 X (a4B X.K):=by
 intro pins s σ H x v vl vu lo hi sl Q I rx hs pl pu h
 obtain⟨a,xs,rfl,hx,hw,q⟩:=h
 cases rx
 obtain⟨its,r,ht,hz⟩:=I.tuple hx
 have hlen:its.toArray.size=xs.length:=by rw[a0t];exact r.length.symm
 refine⟨"tuple",_,a5d.lookup,ht.typeIs,?_⟩
 refine HT.getItem_tuple_cut ht hs pl pu (by rw[hlen];exact hw) ?_ (by rw[hlen];exact hz)
 rw[hlen]
 refine⟨.ref s.heap.objs.size,_,I.laid (t':=s.toks) (o:=.tup (BF xs lo hi)) (λb ob q=>a0f _ q) (a0l _) ?_,rfl,q _ (I.hok.fresh (a0l _))⟩
 exact⟨a0y (rK xs lo hi) hz,_,(r.drop (HT.sIx xs.length 0 lo)).take (HT.sIx xs.length xs.length hi-HT.sIx xs.length 0 lo),IsTup.new _ _⟩
end
def sR(n:Nat)(i:Int):Option Nat:=if 0<=i then (if i<n then some i.toNat else none) else if -(n:Int)<=i then some (i+n).toNat else none
def iV{α:Type}(xs:List α)(i:Int):Option α:=(sR xs.length i).bind λj=>xs[j]?
theorem HG {n:Nat} {i:Int} {j:Nat} (h:sR n i=some j):seqIndex? i n=some j/\j<n/\-(n:Int)<=i/\i<n:=by
 unfold sR at h
 by_cases h0:0<=i
 ·rw [if_pos h0] at h
  by_cases h1:i<n
  ·rw[if_pos h1] at h
   have e:i.toNat=j:=a1j h
   exact⟨by rw[seqIndex_of h0 h1,e],by omega,by omega,h1⟩
  ·rw[if_neg h1] at h;cases h
 ·rw [if_neg h0] at h
  by_cases h1:-(n:Int)<=i
  ·rw[if_pos h1] at h
   have e:(i+n).toNat=j:=a1j h
   exact⟨by rw[seqIndex_neg (by omega) h1,e],by omega,h1,by omega⟩
  ·rw[if_neg h1] at h;cases h
theorem z9 {α:Type} {xs:List α} {i:Int} {v:α} (h:iV xs i=some v):∃j,seqIndex? i xs.length=some j/\xs[j]? =some v/\j<xs.length/\-(xs.length:Int)<=i/\i<xs.length:=by
 unfold iV at h
 cases e:sR xs.length i with
 |none=>rw[e] at h;cases h
 | some j=>
  rw[e] at h
  obtain⟨h1,h2,h3,h4⟩:=HG e
  exact⟨j,h1,h,h2,h3,h4⟩
theorem SM {α:Type} {xs:List α} {j:Nat} {v:α} (h:xs[j]? =some v):iV xs (j:Int)=some v:=by
 have hj:j<xs.length:=(a0j.mp h).1
 have e:sR xs.length (j:Int)=some j:=by
  unfold sR
  rw[if_pos (by omega),if_pos (by omega)];simp
 unfold iV;rw[e];exact h
theorem MN {α:Type} (xs:List α) (v:α):iV (xs++[v]) (-1)=some v:=by
 have hl:(xs++[v]).length=xs.length+1:=by simp
 have e:sR (xs++[v]).length (-1)=some xs.length:=by
  unfold sR
  rw[hl,if_neg (by decide),if_pos (by omega)]
  congr 1
  omega
 unfold iV
 rw[e]
 show (xs++[v])[xs.length]? =some v
 simp
def SH(b:Expr):Prop:=∀o i,subscripted b false o i=operate [o,i] (getItem o i)
def MF (X:Cx) (r:R2):Prop:=
 ∀ (value slice:Expr) (pins:List (Addr×Obj)) (s:Shared) (σ:St) (H:Hp) (x y:V) (v u:Value) (Q:VK),Inv X pins σ H s->bD x v->bD y u->r x y H Q->
  subscripted slice false v u=operate [v,u] (getItem v u)->wpAny (model X.prog X.w) X.A (subscriptTail value slice v u) (EP X pins σ Q) X.xe s
def a5K (X:Cx) (id:String) (r:V->List V->Hp->VK->Prop):Prop:=
 ∀ (pins:List (Addr×Obj)) (s:Shared) (σ:St) (H:Hp) (x:V) (xs:List V) (v:Value) (us:List Value) (Q:VK),Inv X pins σ H s->bD x v->b9 xs us->r x xs H Q->
  wpAny (model X.prog X.w) X.A (call (.builtin id) (v::us)) (EP X pins σ Q) X.xe s
section
variable{X:Cx}{a b:Expr}{ta tb:TE}{pos:Pos}
theorem MF.or{r r':R2}(h:MF X r)(h':MF X r'):MF X (λx y H Q=>r x y H Q\/r' x y H Q):=by
 intro value slice pins s σ H x y v u Q I rx ry q hs
 rcases q with q|q
 ·exact h value slice pins s σ H x y v u Q I rx ry q hs
 ·exact h' value slice pins s σ H x y v u Q I rx ry q hs
theorem HX{r:R2}(hr:MF X r)(ha:PE X a ta)(hb:PE X b tb)(hs:SH b):PE X (.Subscript a b pos) (RH r ta tb):=by
 intro pins s σ H Q I h
 exact Subscript_ (Y3 ha hb I h λv u s2 x y H2 I2 rx ry q=>hr a b pins s2 σ H2 x y v u Q I2 rx ry q (hs _ _))
def W7(K:Aa):R2:=λx y H Q=>∃p xs i v,x= .ref p/\y= .int i/\d9 K H p xs/\iV xs i=some v/\Q v H
def a48(K:Aa):R2:=λx y H Q=>∃p xs i v,x= .ref p/\y= .int i/\dQ K H p xs/\iV xs i=some v/\Q v H
def a47:R2:=λx y H Q=>∃z i c,x= .str z/\y= .int i/\z.length<=sizeLine/\iV z.cps.toList i=some c/\Q (.str ⟨#[c]⟩) H
theorem zR:MF X (W7 X.K):=by
 intro value slice pins s σ H x y v u Q I rx ry h hs
 obtain⟨p,xs,i,z,rfl,rfl,hq,he,q⟩:=h
 cases rx
 obtain⟨t,rfl⟩:=ry
 obtain⟨its,r,pl,hz⟩:=I.list hq
 obtain⟨j,h1,h2,h3,h4,h5⟩:=z9 he
 obtain⟨w,ew,rw'⟩:=r.get h2
 have hl:=r.length
 have hn:=nW
 have fin:EP X pins σ Q w s:=⟨z,H,I,rw',q⟩
 by_cases h0:0<=i
 ·have hj:i.toNat=j:=by
   rw[seqIndex_of h0 h5] at h1
   exact a1j h1
  exact item_listR pl.isList h0 (by omega) (by rw[hj];simpa using ew) fin hs
 ·have hj:(i+(its.toArray.size:Int)).toNat=j:=by
   rw[seqIndex_neg (by omega) h4] at h1
   rw[a0t,<- hl]
   exact a1j h1
  exact subscriptTail_builtinR (x:=w) pl.isList.typeIs slot_list_getitem.lookup
   (wpAny_getItem_list_neg (Q:=λr s'=>r=w/\EP X pins σ Q r s') pl.isList (by omega) (by rw[a0t]<;>omega) (by omega) (by rw[hj];simpa using ew) ⟨rfl,fin⟩) hs
theorem ZK:MF X (a48 X.K):=by
 intro value slice pins s σ H x y v u Q I rx ry h hs
 obtain⟨p,xs,i,z,rfl,rfl,hq,he,q⟩:=h
 cases rx
 obtain⟨t,rfl⟩:=ry
 obtain⟨its,r,pl,hz⟩:=I.tuple hq
 obtain⟨j,h1,h2,h3,h4,h5⟩:=z9 he
 obtain⟨w,ew,rw'⟩:=r.get h2
 have hl:=r.length
 have hn:=nW
 have fin:EP X pins σ Q w s:=⟨z,H,I,rw',q⟩
 exact subscriptTail_builtinR (x:=w) pl.typeIs slot_tuple_getitem.lookup
  (getItem_tuple (j:=j) (Q:=λr s'=>r=w/\EP X pins σ Q r s') pl (by omega) (by omega) (by rw[a0t,<- hl];exact h1) (by simpa using ew) ⟨rfl,fin⟩) hs
theorem ZJ:MF X a47:=by
 intro value slice pins s σ H x y v u Q I rx ry h hs
 obtain⟨z,i,c,rfl,rfl,hz,he,q⟩:=h
 obtain⟨t,rfl⟩:=rx
 obtain⟨t',rfl⟩:=ry
 obtain⟨j,h1,h2,h3,h4,h5⟩:=z9 he
 have hl:z.cps.toList.length=z.length:=by simp[Str.length]
 rw[hl] at h1 h4 h5
 have hn:=nW
 exact tail_any (typeIs_str s z t) slot_str_getitem.lookup (getItem_str (c:=c) (by
  have e1:decide (i < -(2^63:Int))=false:=a1c (by omega)
  have e2:decide (i≥2^63)=false:=a1c (by omega)
  rw[e1,e2,Bool.or_false]) (by rw[h1];simpa using h2) ⟨.str ⟨#[c]⟩,H,I.tok _,⟨_,rfl⟩,q⟩) hs
def a74(K:Aa):R2:=λx y H Q=>W7 K x y H Q\/a48 K x y H Q\/a47 x y H Q
theorem EU:MF X (a74 X.K):=zR.or (ZK.or ZJ)
theorem EY(its:List Value)(n j:Nat)(u:Value):Obj.mapSeq (·.setIfInBounds j u) {cls:=.type "list",data:=.seq its.toArray n}={cls:=.type "list",data:=.seq (its.set j u).toArray n}:=by
 simp[Obj.mapSeq]
theorem Inv.lst {pins:List (Addr×Obj)} {σ:St} {H:Hp} {s:Shared} {p:Addr} {xs:List V} (I:Inv X pins σ H s) (h:H p=some (.lst xs)) :
  ∃(its:List Value) (n:Nat),b9 xs its/\s.heap.get? p=some {cls:=.type "list",data:=.seq its.toArray n}/\xs.length<=sizeLine:=by
 obtain⟨z,its,n,r,e⟩:=I.hok p _ h
 exact⟨its,n,r,e,z⟩
theorem Inv.lstUpd {pins:List (Addr×Obj)} {σ:St} {H:Hp} {s:Shared} {p:Addr} {xs ys:List V} {its its':List Value} {n n':Nat} {f:Obj->Obj} (I:Inv X pins σ H s) (h:H p=some (.lst xs))
  (ho:s.heap.get? p=some {cls:=.type "list",data:=.seq its.toArray n}) (hf:f {cls:=.type "list",data:=.seq its.toArray n}={cls:=.type "list",data:=.seq its'.toArray n'}) (r:b9 ys its') (hz:ys.length<=sizeLine) (t:Nat) :
  Inv X pins σ (bF H p (.lst ys)) {s with heap:=s.heap.update p f,toks:=t}:=by
 have e:(s.heap.update p f).get? p=some {cls:=.type "list",data:=.seq its'.toArray n'}:=by
  rw[a2b f ho (by rw[hf]<;>rfl),hf]
 refine I.write (x:=p) (e:=p) (by rw[h];trivial) (.inl rfl) (λb u hb q=>(a1x _ _ (a3b hb)).trans q) ⟨_,e⟩ ?_
 exact⟨hz,its',n',r,e⟩
def yO:V->V->V->Hp->(Hp->Prop)->Prop:=λo i v H Q=>∃p xs k j,o= .ref p/\i= .int k/\H p=some (.lst xs)/\sR xs.length k=some j/\Q (bF H p (.lst (xs.set j v)))
theorem pM:XZ X yO:=by
 intro pins s σ H o i v ov iv u Q I ro ri rv h
 obtain⟨p,xs,k,j,rfl,rfl,hp,hj,q⟩:=h
 cases ro
 obtain⟨t,rfl⟩:=ri
 obtain⟨its,n,r,ho,hz⟩:=I.lst hp
 obtain⟨h1,h2,h3,h4⟩:=HG hj
 have hl:=r.length
 have hn:=nW
 have I':Inv X pins σ (bF H p (.lst (xs.set j v))) {s with heap:=s.heap.update p (Obj.mapSeq (·.setIfInBounds j u))}:=
  I.lstUpd hp ho (EY its n j u) (r.set rv j) (by rw[a6h];exact hz) s.toks
 by_cases h0:0<=k
 ·have hk:k.toNat=j:=by
   rw[seqIndex_of h0 h4] at h1
   exact a1j h1
  exact PySem.W.ki_setAt ho h0 (by omega) (by rw[a0t,<- hl];exact h4) (by rw[hk];exact⟨_,I',q⟩)
 ·have hk:(k+(its.toArray.size:Int)).toNat=j:=by
   rw[seqIndex_neg (by omega) h3] at h1
   rw[a0t,<- hl]
   exact a1j h1
  exact PySem.W.ki_setBack ho (by omega) (by rw[a0t,<- hl];exact h3) (by omega) (by rw[hk];exact⟨_,I',q⟩)
theorem AI (lo hi:Option Int) (n:Nat):(sliceBounds lo hi none n).1=((HT.sIx n 0 lo:Nat):Int)/\(sliceBounds lo hi none n).2.1=((HT.sIx n n hi:Nat):Int)/\(sliceBounds lo hi none n).2.2=1:=by
 refine⟨?_,?_,rfl⟩
 ·cases lo with
  |none=>simp[sliceBounds,HT.sIx]
  | some i=>
   simp only[sliceBounds,HT.sIx,Option.getD_none,show (1:Int)>0 by decide,a6q]
   by_cases h:i<0
   ·simp only[h,a6q]<;>omega
   ·simp only[h,if_false]<;>omega
 ·cases hi with
  |none=>simp[sliceBounds,HT.sIx]
  | some i=>
   simp only[sliceBounds,HT.sIx,Option.getD_none,show (1:Int)>0 by decide,a6q]
   by_cases h:i<0
   ·simp only[h,a6q]<;>omega
   ·simp only[h,if_false]<;>omega
theorem wQ(its:List Value)(lo hi:Option Int):slicePick its.toArray lo hi none=((its.drop (HT.sIx its.length 0 lo)).take (HT.sIx its.length its.length hi-HT.sIx its.length 0 lo)).toArray:=by
 obtain⟨h1,h2,h3⟩:=AI lo hi its.toArray.size
 unfold slicePick
 rw[h1,h2,h3]
 simp only[sliceRange_one,pick_run,a0t]<;>rfl
def a4A(K:Aa):V->Option Int->Option Int->Hp->VK->Prop:=λx lo hi H Q=>∃a xs,x= .ref a/\d9 K H a xs/\∀p,H p=none->Q (.ref p) (bF H p (.lst (BF xs lo hi)))
theorem WE:a56 X (a4A X.K):=by
 intro pins s σ H x v vl vu lo hi sl Q I rx hs pl pu h
 obtain⟨a,xs,rfl,hx,q⟩:=h
 cases rx
 obtain⟨its,r,ht,hz⟩:=I.list hx
 have hlen:=r.length
 refine⟨"list",_,slot_list_getitem.lookup,ht.isList.typeIs,?_⟩
 refine wpAny_getItem_list_slice ht.isList hs pl pu .none (by simp) ?_ (by rw[a0t]<;>omega)
 rw[wQ,<- hlen]
 refine⟨.ref s.heap.objs.size,_,I.laid (t':=s.toks) (o:=.lst (BF xs lo hi)) (λb ob q=>a0f _ q) (a0l _) ?_,rfl,q _ (I.hok.fresh (a0l _))⟩
 exact⟨a0y (rK xs lo hi) hz,_,0,(r.drop (HT.sIx xs.length 0 lo)).take (HT.sIx xs.length xs.length hi-HT.sIx xs.length 0 lo),a1b _ rfl⟩
theorem zE:eD X (.builtin "len") (λxs H Q=>∃p ys,xs=[.ref p]/\(d9 X.K H p ys\/dQ X.K H p ys)/\Q (.int ys.length) H):=by
 intro pins s σ H xs us Q I r h
 obtain⟨p,ys,rfl,hq,q⟩:=h
 obtain⟨u,rfl,rx⟩:=j5 r
 cases rx
 have hn:=nW
 rcases hq with hq|hq
 ·obtain⟨its,r',pl,hz⟩:=I.list hq
  have hlen:=r'.length
  exact Calls.call_len_list pl.isList (by simp only[a0t]<;>omega) ⟨.int ys.length,H,I.tok _,⟨s.toks+1,by rw[a0t,hlen]⟩,q⟩
 ·obtain⟨its,r',pl,hz⟩:=I.tuple hq
  have hlen:=r'.length
  exact len_tuple pl (by simp only[a0t]<;>omega) ⟨.int ys.length,H,I.tok _,⟨s.toks+1,by rw[a0t,hlen]⟩,q⟩
theorem zG:eD X (.type "list") (λxs H Q=>∃p ys,xs=[.ref p]/\(d9 X.K H p ys\/dQ X.K H p ys)/\∀l,H l=none->Q (.ref l) (bF H l (.lst ys))):=by
 intro pins s σ H xs us Q I r h
 obtain⟨p,ys,rfl,hq,q⟩:=h
 obtain⟨u,rfl,rx⟩:=j5 r
 cases rx
 have fin:∀(its:List Value),b9 ys its->ys.length<=sizeLine->∀(h':Heap) (c':Nat),(∀b o',s.heap.get? b=some o'->h'.get? b=some o')->
   h'.get? s.heap.objs.size=some {cls:=.type "list",dict:=none,data:=.seq its.toArray c',slots:=#[]}->EP X pins σ Q (.ref s.heap.objs.size) {s with heap:=h'}:=λits r' hz h' c' kp e=>
  ⟨.ref s.heap.objs.size,_,I.laid (t':=s.toks) kp (a0l _) (show c5 X.prog X.w _ h' _ (.lst ys) from ⟨hz,its,c',r',e⟩),rfl,q _ (I.hok.fresh (a0l _))⟩
 rcases hq with hq|hq
 ·obtain⟨its,r',pl,hz⟩:=I.list hq
  have hlen:=r'.length
  obtain⟨o,ho,hc,n,hd⟩:=pl.isList
  exact call_list_seq p (.inl rfl) ho hc hd (λh' c' kp e=>fin its r' hz h' c' kp e) (by simp only[a0t]<;>omega)
 ·obtain⟨its,r',pl,hz⟩:=I.tuple hq
  have hlen:=r'.length
  obtain⟨o,ho,hc,n,hd⟩:=pl
  exact call_list_seq p (.inr rfl) ho hc hd (λh' c' kp e=>fin its r' hz h' c' kp e) (by simp only[a0t]<;>omega)
def a5E (K:PySem.W.Frag) (T:String) (x:V) (H:Hp):Prop:=match x with
 |.str _=>T="str"
 |.int _=>T="int"
 | .ref p=>(T="list"/\∃xs,d9 K H p xs)\/(T="tuple"/\∃o,K.lookup p=some o/\o.cls= .type "tuple"/\o.dict=none)\/
   (T="dict"/\((∃kvs,H p=some (.dK kvs))\/∃kvs,H p=some (.dT kvs)))\/(T="set"/\∃S n,H p=some (.set S n))
 |_=>False
theorem RJ {pins:List (Addr×Obj)} {σ:St} {H:Hp} {s:Shared} {T:String} {x:V} {v:Value} (I:Inv X pins σ H s) (r:bD x v) (ty:a5E X.K T x H) :
  s.TypeIs v T/\∀a,v= .ref a->∃ob,s.heap.get? a=some ob/\ob.dict=none:=by
 cases x with
 | str z=>
  obtain⟨t,rfl⟩:=r
  cases (show T="str" from ty)
  exact⟨typeIs_str s z t,λ_ e=>nomatch e⟩
 | int i=>
  obtain⟨t,rfl⟩:=r
  cases (show T="int" from ty)
  exact⟨typeIs_int s i t,λ_ e=>nomatch e⟩
 | ref p=>
  cases r
  rcases ty with ⟨rfl,xs,hq⟩|⟨rfl,o,hk,hc,hd⟩|⟨rfl,hk⟩|⟨rfl,S,n,hk⟩
  ·obtain⟨its,_,pl,_⟩:=I.list hq
   refine⟨pl.isList.typeIs,λa e=>?_⟩
   cases e
   obtain⟨o,n,e,c,hd,_⟩:=pl
   exact⟨o,e,hd⟩
  ·refine⟨⟨o,I.kIn p o hk,hc⟩,λa e=>?_⟩
   cases e
   exact⟨o,I.kIn _ o hk,hd⟩
  ·have z:∃o,s.heap.get? p=some o/\o.ExactDict:=by
    rcases hk with ⟨kvs,hk⟩|⟨kvs,hk⟩
    ·obtain⟨_,_,_,_,o,_,_,e,ex,_⟩:=I.hok p _ hk
     exact⟨o,e,ex⟩
    ·obtain⟨_,_,_,_,o,_,_,e,ex,_⟩:=I.hok p _ hk
     exact⟨o,e,ex⟩
   obtain⟨o,e,ex⟩:=z
   refine⟨⟨o,e,ex.1⟩,λa e2=>?_⟩
   cases e2
   exact⟨o,e,ex.2.1⟩
  ·obtain⟨o,_,_,_,e,ex,_⟩:=I.hok p _ hk
   refine⟨⟨o,e,ex.1⟩,λa e2=>?_⟩
   cases e2
   exact⟨o,e,ex.2.1⟩
 |_=>exact False.elim ty
def a6L(K:Aa)(T:String)(r:V->List V->Hp->VK->Prop)(to:TE):TE:=λσ H Q=>to σ H λx H1=>a5E K T x H1/\r x [] H1 Q
def a7G(K:Aa)(T:String)(r:V->List V->Hp->VK->Prop)(to:TE)(t:TA):TE:=λσ H Q=>to σ H λx H1=>a5E K T x H1/\t σ H1 λxs H2=>r x xs H2 Q
variable{o e:Expr}{es:List Expr}{to:TE}{t:TA}{name:Str}{apos cpos:Pos}{T id:String}{r:V->List V->Hp->VK->Prop}
theorem a0E (pa:PlainAttrs T) (slot:Slot T name id) (hty:typeOf (.builtin id)=pure (.type "method_descriptor")) (hm:a5K X id r) (ho:PE X o to)
  (hbase:attributeBase o name X.env (eval o X.env)=eval o X.env:=by rfl) (hline:(apos.endLine==cpos.line)=true:=by rfl):PE X (.Call (.Attribute o name apos) [] [] cpos) (a6L X.K T r to):=by
 intro pins s σ H Q I h
 refine wpAny_Call_method0_late hbase hline (cO (ho pins s σ H _ I h) λv s1 ⟨x,H1,I1,r1,ty,q1⟩=>?_)
 obtain⟨h1,h2⟩:=RJ I1 r1 ty
 exact⟨T,id,pa,slot,hty,h1,h2,Calls.callWith_builtin rfl (PySem.evalArgs_none (hm pins s1 σ H1 x [] v [] Q I1 r1 .nil q1))⟩
theorem a3T (pa:PlainAttrs T) (slot:Slot T name id) (hty:typeOf (.builtin id)=pure (.type "method_descriptor")) (hm:a5K X id r) (ho:PE X o to) (ha:PA X (e::es) t)
  (hbase:attributeBase o name X.env (eval o X.env)=eval o X.env:=by rfl)
  (hfew:((backTo cpos (starEach (e::es) X.env)).all (λx=>!x.1)&&(backToKw cpos (keywordEach [] X.env)).all (λx=>x.1.isSome)
   &&decide ((e::es).length+([]:List Keyword).length+(if ([]:List Keyword).isEmpty then 0 else 1)<30))=true:=by rfl)
  (hline:(apos.endLine==cpos.line)=true:=by rfl) (hs:starEach (e::es) X.env=(false,eval e X.env)::starEach es X.env:=by rfl) (hplain:(backTo cpos (starEach es X.env)).any (·.1)=false:=by rfl) :
  PE X (.Call (.Attribute o name apos) (e::es) [] cpos) (a7G X.K T r to t):=by
 intro pins s σ H Q I h
 refine wpAny_Call_method_late hbase hfew hline rfl (cO (ho pins s σ H _ I h) λv s1 ⟨x,H1,I1,r1,ty,q1⟩=>?_)
 obtain⟨h1,h2⟩:=RJ I1 r1 ty
 refine⟨T,id,pa,slot,hty,h1,h2,?_⟩
 have hA:=ha cpos pins s1 σ H1 _ I1 q1
 rw[hs] at hA ⊢
 refine Calls.callWith_builtin (by show (false||(backTo cpos (starEach es X.env)).any (·.1))=false;rw[hplain]<;>rfl) (Calls.evalArgs_plain ?_)
 exact cO hA λus s2 ⟨vs,H2,I2,r2,q2⟩=>hm pins s2 σ H2 x vs v us Q I2 r1 r2 q2
end
def a6Z (X:Cx) (id:String) (r:V->List V->Hp->VK->Prop):Prop:=
 ∀ (pins:List (Addr×Obj)) (s:Shared) (σ:St) (H:Hp) (x:V) (xs:List V) (v:Value) (us:List Value) (Q:VK),Inv X pins σ H s->bD x v->b9 xs us->r x xs H Q->
  wpAny (model X.prog X.w) X.A (call (.builtin id) (v::us)) (EP X pins σ Q) X.xe s
theorem b9.one:∀ {x:V} {us:List Value},b9 [x] us->∃u,us=[u]/\bD x u
 |_,_,.cons r .nil=>⟨_,rfl,r⟩
theorem b9.zero:∀ {us:List Value},b9 [] us->us=[]
 |_,.nil=>rfl
theorem b9.rep {xs:List V} {us:List Value} (h:b9 xs us):∀k:Nat,b9 (List.replicate k xs).flatten (List.replicate k us).flatten
 |0=>.nil
 | k+1=>by
  rw[a3r,a3r,a4k,a4k]
  exact b9.append h (b9.rep h k)
theorem xI (its:List Value):∀(k:Nat) (acc:List Value),
  List.foldl (λx1 x2=>x1++x2) acc.toArray (List.replicate k its.toArray)=(acc++(List.replicate k its).flatten).toArray
 |0,acc=>by simp
 | k+1,acc=>by
  have e:acc.toArray++its.toArray=(acc++its).toArray:=by simp
  have e2:(acc++its)++(List.replicate k its).flatten=acc++(List.replicate (k+1) its).flatten:=by
   rw[a3r,a4k,a7h]
  rw[<- e2,<- xI its k (acc++its),<- e,a3r,List.foldl_cons]
section
variable{X:Cx}{pins:List (Ac×Obj)}{σ:St}{H:Hp}{s:Ab}{l b:Ac}{xs ys zs:List V}
theorem Inv.lset {its its':List Value} {n:Nat} {f:Array Value->Array Value} {t':Nat} (I:Inv X pins σ H s) (hH:H l=some (.lst xs))
  (e:s.heap.get? l=some {cls:=.type "list",data:=.seq its.toArray n}) (hf:f its.toArray=its'.toArray) (hv:b9 ys its') (hz:ys.length<=sizeLine) :
  Inv X pins σ (bF H l (.lst ys)) {s with heap:=s.heap.update l (Obj.mapSeq f),toks:=t'}:=by
 have q:=PySem.IsL.update e f
 rw[hf] at q
 refine I.write (x:=l) (e:=l) (by rw[hH];exact trivial) (.inl rfl) (λb' u hb hu=>(a1x s.heap (Obj.mapSeq f) (a3b hb)).trans hu) ⟨_,q⟩ ?_
 exact⟨hz,its',_,hv,q⟩
theorem Inv.lnew {its:List Value} {t':Nat} (I:Inv X pins σ H s) (hv:b9 ys its) (hz:ys.length<=sizeLine) :
  Inv X pins σ (bF H s.heap.objs.size (.lst ys)) {s with heap:=s.heap.push {cls:=.type "list",data:=.seq its.toArray},toks:=t'}:=
 I.laid (λ_ _ q=>a0f _ q) (a0l _) ⟨hz,its,0,hv,a1b _ rfl⟩
theorem Inv.fresh(I:Inv X pins σ H s):H s.heap.objs.size=none:=I.hok.fresh (a0l _)
theorem Inv.lstM(I:Inv X pins σ H s)(hH:H l=some (.lst xs)):xs.length<=sizeLine/\∃(its:List Value) (n:Nat),b9 xs its/\xs.length=its.length/\s.heap.get? l=some {cls:=.type "list",data:=.seq its.toArray n}:=by
 obtain⟨z,its,n,r,e⟩:=I.hok l _ hH
 exact⟨z,its,n,r,r.length,e⟩
theorem OS{n:Nat}(h:n<=sizeLine):Builtin.List.listTooLong n=false:=by
 unfold Builtin.List.listTooLong
 exact a1c (by omega)
end
section
variable{X:Cx}
def AB:V->List V->Hp->VK->Prop:=λx vs H Q=>∃l xs y,x= .ref l/\vs=[y]/\H l=some (.lst xs)/\xs.length<sizeLine/\Q .non (bF H l (.lst (xs++[y])))
theorem qK:a6Z X "list.append" AB:=by
 intro pins s σ H x vs v us Q I rx rv h
 obtain⟨l,xs,y,rfl,rfl,hH,hz,q⟩:=h
 cases rx
 obtain⟨u,rfl,ru⟩:=rv.one
 obtain⟨z,its,n,r,hl,e⟩:=I.lstM hH
 refine call_meets F.slot_list_append ⟨_,e,rfl⟩ F.entry_list_append (F.args_list_append_2 _ _) (PySem.list_append l its.toArray n u (by rw[a0t];omega)) ⟨e,?_⟩
 refine⟨.non,_,I.lset (its':=its++[u]) hH e (by simp) (r.append (.cons ru .nil)) ?_,rfl,q⟩
 rw[a1r,a6g]
 omega
def FQ:V->List V->Hp->VK->Prop:=λx vs H Q=>∃l xs,x= .ref l/\vs=[]/\H l=some (.lst xs)/\Q .non (bF H l (.lst []))
theorem OM:a6Z X "list.clear" FQ:=by
 intro pins s σ H x vs v us Q I rx rv h
 obtain⟨l,xs,rfl,rfl,hH,q⟩:=h
 cases rx
 have hus:=rv.zero
 subst hus
 obtain⟨z,its,n,r,hl,e⟩:=I.lstM hH
 refine call_meets F.slot_list_clear ⟨_,e,rfl⟩ F.entry_list_clear (F.args_list_clear_1 _) (AutoSeq1.list_clear_list_0 l its.toArray n (by rw[a0t];omega)) ⟨e,?_⟩
 exact⟨.non,_,I.lset (its':=[]) (ys:=[]) hH e rfl .nil (a3c _),rfl,q⟩
def a6C:R2:=λx y H Q=>∃l b xs zs,x= .ref l/\y= .ref b/\H l=some (.lst xs)/\H b=some (.lst zs)/\xs.length+zs.length<=sizeLine/\∀p,H p=none->Q (.ref p) (bF H p (.lst (xs++zs)))
theorem a01:n6 X (binaryOp .Add) a6C:=by
 intro pins s σ H x y v u Q I rx ry h
 obtain⟨l,b,xs,zs,rfl,rfl,hH,hB,hz,q⟩:=h
 cases rx
 cases ry
 obtain⟨z,its,n,r,hl,e⟩:=I.lstM hH
 obtain⟨z2,its2,n2,r2,hl2,e2⟩:=I.lstM hB
 refine PySem.P.add_list e e2 ?_ (by rw[a0t,a0t];omega)
 have ea:its.toArray++its2.toArray=(its++its2).toArray:=by simp
 rw[ea]
 exact⟨.ref _,_,I.lnew (t':=s.toks) (r.append r2) (by rw[a1r];omega),rfl,q _ I.fresh⟩
def a6G:R2:=λx y H Q=>∃l k xs,x= .ref l/\y= .int k/\H l=some (.lst xs)/\-(2^63)<=k/\k<2^63/\xs.length*k.toNat<=sizeLine/\
 ∀p,H p=none->Q (.ref p) (bF H p (.lst (List.replicate k.toNat xs).flatten))
theorem UX{α:Type}(xs:List α)(k:Nat):(List.replicate k xs).flatten.length=k*xs.length:=by
 induction k with
 |zero=>simp
 |succ k ih=>rw[a3r,a4k,a1r,ih,Nat.succ_mul,Nat.add_comm]
theorem a09:n6 X (binaryOp .Mult) a6G:=by
 intro pins s σ H x y v u Q I rx ry h
 obtain⟨l,k,xs,rfl,rfl,hH,h1,h2,hz,q⟩:=h
 cases rx
 obtain⟨t,rfl⟩:=ry
 obtain⟨z,its,n,r,hl,e⟩:=I.lstM hH
 have hlen:its.toArray.size*k.toNat<=sizeLine:=by rw[a0t,<- hl];exact hz
 have hcap:¬its.toArray.size*k.toNat>(2^63-1) / 8:=by
  have:(sizeLine:Nat)<=(2^63-1) / 8:=by decide
  omega
 have hfit:¬(!Builtin.List.listFitsIndex k)=true:=by
  rw[fitsIndex_both h1 h2]
  exact a0i
 have hlong:¬Builtin.List.listTooLong (its.toArray.size*k.toNat)=true:=by
  rw[OS hlen]
  exact a0i
 have hnew:List.foldl (λx1 x2=>x1++x2) #[] (List.replicate (if its.toArray.isEmpty=true then 0 else k.toNat) its.toArray)=(List.replicate k.toNat its).flatten.toArray:=by
  have f0:∀m:Nat,List.foldl (λx1 x2=>x1++x2) #[] (List.replicate m its.toArray)=(List.replicate m its).flatten.toArray:=λm=>by
   have:=xI its m []
   rw[a3h] at this
   exact this
  rw[f0]
  cases its with
  |nil=>simp
  |cons a r'=>rw[if_neg (by simp)]
 refine wpAny_binaryOp_repeat_ref (T:="list") (U:="int") (by decide) ⟨_,e,rfl⟩ (λs'=>typeIs_int s' k t) noFill_list_mul F.fills_int_mul F.slot_int_rmul repeat_list F.slot_int_index.lookup
  (call_meets F.slot_int_rmul (typeIs_int s k t) F.entry_int_rmul (F.args_int_rmul_2 _ _) (int___rmul___int_list k t l its.toArray n)
   ⟨e,rfl,⟨_,e,rfl⟩,call_meets F.slot_list_mul ⟨_,e,rfl⟩ F.entry_list_mul (F.args_list_mul_2 _ _) (AutoListH.list___mul___list_int_3 l its.toArray n k t hfit hcap hlong) ⟨e,?_⟩⟩)
 rw[hnew]
 exact⟨.ref _,_,I.lnew (t':=s.toks) (r.rep k.toNat) (by rw[UX,Nat.mul_comm];exact hz),rfl,q _ I.fresh⟩
end
end L2
namespace Att
open PySem PySem.W PySem.Calls PyProof.Rows
theorem ints_of_wellAll {P:Params} {h:Heap}:∀(ns:List Int) (vs:List Value),WellAll P h vs (ns.map WData.int)->IntsAre vs ns:=by
 intro ns
 induction ns with
 | nil=>
  intro vs w
  rw[a5w] at w
  cases w
  exact .nil
 | cons n ns ih=>
  intro vs w
  rw[a0h] at w
  cases w with
  | cons a b=>
   cases a
   exact .cons _ _ (ih _ b)
theorem script_of {l:OpenLaw} {n:Nat} (hn:l.most=some n) {P:Params} {h:Heap} {args:List WData} {vals:List Value}
  (hpre:l.row.toRowW.claim.pre args=true) (hwl:WellAll P h vals args) :
  ∃a vs ns,vals=[Value.ref a]/\args=[WData.list (ns.map WData.int)]/\h.get? a=some {cls:=.type "list",data:=.seq vs.toArray}/\IntsAre vs ns/\ns.length<=n:=by
 have hsh:WShape.hasAll [] args [.list .int]=true:=(pre_splitW hpre).1
 have hc:l.pre.holds [] {args:=args}=true:=(pre_splitW hpre).2
 obtain⟨d,r,rfl,h1,h2⟩:=hasAllW_cons hsh
 obtain rfl:=hasAllW_nil h2
 obtain⟨xs,rfl,h3⟩:=hasW_list h1
 obtain⟨ns,rfl⟩:=items_int h3
 have hlen:ns.length<=n:=by
  unfold OpenLaw.pre at hc
  have h4:(WTm.not (.lt (.lit (.int (n:Int))) (.len (.arg 0)))).holds [] {args:=[.list (ns.map .int)]}=true:=by
   have h4:=(holds_andW hc).1
   rw[hn] at h4
   exact h4
  have h5:=condW_of h4 (w_not (w_lt w_lit (w_len_list (w_arg rfl))))
  rw[a0d] at h5
  refine a4n λq=>?_
  have q':(n:Int)<((ns.length:Nat):Int):=by omega
  first
   |(rw[a1v q'] at h5;exact absurd h5 (by decide))
   |(simp at h5;omega)
 cases hwl with
 | cons w1 w2=>
  cases w2
  cases w1 with
  |list ho hall=>exact⟨_,_,ns,rfl,rfl,ho,ints_of_wellAll ns _ hall,hlen⟩
theorem post_true (l:OpenLaw) (args:List WData):l.row.toRowW.claim.post args (.bool true) args=true:=
 postW_of (r:=l.row.toRowW) (X:=(true==true))
  (show WShape.has [] (.bool true) .bool=true by first|rfl|decide|simp[WShape.has,WShape.arms,WShape.armsAll])
  (show (WTm.eq .res (.lit (.bool true))).value [] {args:=args,res:=some (.bool true),after:=args}=some (.bool (true==true)) from w_eq_bool (w_res rfl) w_lit) rfl
theorem attach_call {l:OpenLaw} {n:Nat} {q:Program} {loose:List Str} {XP:(Str->Option Value)->Heap->Prop} {YP:World->Heap->Prop} {d:DefRec}
  (hn:l.most=some n) (hdf:d.params.defaults=[])
  (call:∀(w:World) (s₀ s₁:Shared) (mg mb:Str->Option Value) (fa:Addr) (o:Obj) (pm cd doc:Value) (a:Addr) (vs:List Value) (ns:List Int),
   Ground q loose [] XP w s₀ mg mb s₁.heap->YP w s₁.heap->
   s₁.heap.get? fa=some o->o.data= .func (docDef d.name d.params d.body d.scope pm cd doc)->s₁.heap.CodeRec cd d.name->mg d.name=some (.ref fa)->
   s₁.heap.get? a=some {cls:=.type "list",data:=.seq vs.toArray}->IntsAre vs ns->ns.length<=n->s₁.gens= #[]->
   codeAny (model l.prog w) callerA (.call (.ref fa) ⟨[.ref a],[]⟩) (λr s'=>r= .ok (.ret (.bool true))/\OldK s₁.heap s'.heap/\s'.os=s₁.os/\AllBare s'.gens) s₁) :
  WalkO q loose XP YP l.row.toRowW d [] (λf vs=>PySem.call f vs):=by
 intro w s₀ s₁ mg mb G Y fa o pm cd doc dV kV ho hd hcd hD hmg hg args vals as hpre hlay hrd hwl hlo
 obtain rfl:dV= .none:=Dflts.none hD hdf
 obtain rfl:kV= .none:=Dflts.noKw hD
 obtain⟨a,vs,ns,rfl,rfl,hobj,hints,hlen⟩:=script_of hn hpre hwl
 refine enter_call (a5z (call w s₀ s₁ mg mb fa o pm cd doc a vs ns G Y ho (fd_plain hd) hcd hmg hobj hints hlen hg) λr s' hq=>?_)
 obtain⟨rfl,h2,h3,h4⟩:=hq
 exact⟨.inl ⟨.bool true,.bool true,[],rfl,λ_=>rfl,.bool true,post_true l _,λ_=>⟨List.Pairwise.nil,λ_ hm=>(nomatch hm)⟩⟩,h2,h3,h4⟩
end Att
namespace L2
open PySem PySem.Spec PyProof.Rows
theorem mZ:∀ {vs:List Value} {ns:List Int},IntsAre vs ns->b9 (ns.map V.int) vs
 |_,_,.nil=>.nil
 |_,_,.cons n t h=>.cons ⟨t,rfl⟩ (mZ h)
def SG(H:Hp):Prop:=∀b,H b=none\/(∃o xs,H b=some (.frz o (.lst xs)))\/H b=some .tbl
theorem OA {P:Program} {w:World} {K:PySem.W.Frag} {mg mb:Str->Option Value} {CX:MD} {k:Nat} {fa a:Addr} {fd:FuncData} {x:Str} {sp:Sp} {s₁:Shared} {vs:List Value} {ns:List Int}
  (KX:K.In s₁.heap) (hns:s₁.heap.Ns mainGlobals mg) (hb:s₁.heap.Ns builtinsNs mb) (hbb:∀x:Str,x≠ "__name__"->mb x=bootBuiltins x) (hlim:s₁.heap.NoLimit) (hmods:∃mm,s₁.heap.Ns sysModules mm) (hbm:∃bm ob,BMod s₁.heap mainGlobals mg bm ob) (T:List (Ac×Ac)) (hT:PySem.W.TabsAt T s₁.heap) (hTK:PySem.W.noTabs K=true\/T=[]) (hg:s₁.gens= #[])
  (ha:s₁.heap.get? a=some {cls:=.type "list",data:=.seq vs.toArray}) (hi:IntsAre vs ns) (hl:ns.length<=sizeLine) (hr:Room k callerA)
  (F:∀base:Heap,K.In base->base.Ns mainGlobals mg->(∀q∈T,PySem.W.CodeHd base q.1 q.2/\q.2∈base.life.registered)->FnOk P w K mg base CX k fa fd [x] sp) (hbind:∀(s:Ab) (u:Value),BindsTo s fd ⟨[u],[]⟩ [(x,u)])
  (hsp:∀H:Hp,SG H->d9 K H a (ns.map V.int)->sp [.ref a] H (λv _=>v= .bl true) λ_ _ _=>False)
  (hCX:∀H e s',CX [] H s₁ (λ_ _ _=>False) e s'->False) :
  codeAny (model P w) callerA (.call (.ref fa) ⟨[.ref a],[]⟩) (λr s'=>r= .ok (.ret (.bool true))/\OldK s₁.heap s'.heap/\s'.os=s₁.os/\AllBare s'.gens) s₁:=by
 have rv:=mZ hi
 have lenV:=hi.length
 have tabAt:∀b∈T.map (·.2),s₁.heap.get? b=some (PySem.W.tabObj #[])/\isCodeTable s₁.heap b:=λb hb=>by
  obtain⟨q,hq,rfl⟩:=a0p.mp hb
  exact⟨(hT q hq).2,((hT q hq).1.tab (hT q hq).2).isCodeTable⟩
 have aT:a∉T.map (·.2):=λhb=>by
  have:=(tabAt a hb).1
  rw[ha] at this;cases this
 have core:∀HS:Hp,(∀b,HS b=none\/∃o xs,HS b=some (.frz o (.lst xs)))->d9 K HS a (ns.map V.int)->mP P w HS s₁.heap->(∀b,HS b≠none->b=a)->(HS a≠none->K.lookup a=none)->
   codeAny (model P w) callerA (.call (.ref fa) ⟨[.ref a],[]⟩) (λr s'=>r= .ok (.ret (.bool true))/\OldK s₁.heap s'.heap/\s'.os=s₁.os/\AllBare s'.gens) s₁:=by
  intro HS hO hS hok0 hA hK
  obtain⟨H,hH⟩ : ∃H:Hp,H=λb=>if b∈T.map (·.2) then some .tbl else HS b:=⟨_,rfl⟩
  have H1:∀b,b∈T.map (·.2)->H b=some .tbl:=λb hb=>by rw[hH];exact if_pos hb
  have H2:∀b,b∉T.map (·.2)->H b=HS b:=λb hb=>by rw[hH];exact if_neg hb
  have hS':d9 K H a (ns.map V.int):=by
   unfold d9 Rd at hS ⊢
   rw[H2 a aT];exact hS
  have hO':SG H:=λb=>by
   by_cases hb:b∈T.map (·.2)
   ·exact .inr (.inr (H1 b hb))
   ·rw[H2 b hb]
    rcases hO b with z|z
    ·exact .inl z
    ·exact .inr (.inl z)
  have hok:mP P w H s₁.heap:=λb u e=>by
   by_cases hb:b∈T.map (·.2)
   ·rw[H1 b hb] at e;cases e
    exact⟨#[],(tabAt b hb).1,trivial⟩
   ·rw[H2 b hb] at e
    refine (hok0 b u e).stay (λ_ _ _ q=>q) (λc q=>?_) λc xs q=>?_
    ·rcases hO c with z|⟨_,_,z⟩<;>(rw[q] at z;cases z)
    ·rcases hO c with z|⟨_,_,z⟩<;>(rw[q] at z;cases z)
  have hid:∀ {b:Addr} {o:Obj},s₁.heap.get? b=some o->o.cls≠ .none->o.cls≠ .type "list"->H b=none:=fun {b o} e c1 c2=>by
   by_cases hb:b∈T.map (·.2)
   ·have:=(tabAt b hb).1
    rw[e] at this;cases this
    exact absurd rfl c1
   ·rw [H2 b hb]
    cases q:HS b with
    |none=>rfl
    | some u=>
     have e':b=a:=hA b (by rw[q];simp)
     subst e'
     rw[ha] at e;cases e
     exact absurd rfl c2
  have noA:∀ {b:Addr} {o:Obj} {es:Array DictEntry} {ep:Nat},s₁.heap.get? b=some o->o.data= .dict es ep->H b=none:=fun {b o es ep} e d=>by
   by_cases hb:b∈T.map (·.2)
   ·have:=(tabAt b hb).1
    rw[e] at this;cases this
    cases d
   ·rw [H2 b hb]
    cases q:HS b with
    |none=>rfl
    | some u=>
     have e':b=a:=hA b (by rw[q];simp)
     subst e'
     rw[ha] at e;cases e
     have d':Data.seq vs.toArray _=Data.dict es ep:=d
     cases d'
  obtain⟨base,hbs⟩ : ∃base:Heap,base={KB s₁.heap H with life:={registered:=T.map (·.2)} }:=⟨_,rfl⟩
  have gets:∀b,base.get? b=(KB s₁.heap H).get? b:=λb=>by rw[hbs];rfl
  have base_of:∀ {b:Ac} {o:Obj},s₁.heap.get? b=some o->H b=none->base.get? b=some o:=fun {b o} e n=>by rw[gets];exact O4 e n
  have nsK:∀ {b:Ac} {m:Str->Option Value},s₁.heap.Ns b m->base.Ns b m:=fun {b m} ⟨o,es,ep,e,d,r⟩=>⟨o,es,ep,base_of e (noA e d),d,r⟩
  have hKb:K.In base:=λb o e=>base_of (KX b o e) (by
   by_cases hb:b∈T.map (·.2)
   ·rcases hTK with z|z
    ·have h2:=a0x.mp z (b,o) (PySem.W.mem_of_lookupK e)
     have h3:=(tabAt b hb).1
     rw[KX b o e] at h3;cases h3
     exact absurd (show false=true from h2) a0i
    ·rw[z] at hb;cases hb
   ·rw [H2 b hb]
    cases q:HS b with
    |none=>rfl
    | some u=>
     have e':b=a:=hA b (by rw[q];simp)
     subst e'
     rw[hK (by rw[q];simp)] at e;cases e)
  have hBM:∃bm ob,BMod base mainGlobals mg bm ob:=by
   obtain⟨bm,ob,x⟩:=hbm
   exact⟨bm,ob,nsK x.ns,x.name,x.ne,base_of x.obj (hid x.obj (by rw[x.cls];intro z;cases z) (by rw[x.cls];intro z;injection z with z;exact absurd z (by decide))),x.cls,x.dict,x.data⟩
  have hM:Mod K mg base:=⟨hKb,nsK hns,⟨mb,nsK hb,hbb⟩,let ⟨mc,h1,h2⟩:=hlim;⟨mc,nsK h1,h2⟩,let ⟨_,h1⟩:=hmods;let ⟨o,_,_,e,_⟩:=nsK h1;⟨o,e⟩,hBM⟩
  have hTB:∀q∈T,PySem.W.CodeHd base q.1 q.2/\q.2∈base.life.registered:=λq hq=>by
   refine⟨?_,by rw[hbs];exact List.mem_map_of_mem hq⟩
   obtain⟨o,vs',file,tf,flags,tg,inF,text,tt,e,r⟩:=(hT q hq).1
   exact⟨o,vs',file,tf,flags,tg,inF,text,tt,base_of e (hid e (by rw[r.1];intro z;cases z) (by rw[r.1];intro z;injection z with z;exact absurd z (by decide))),r⟩
  have e0:Env0 P w K mg base callerA [] s₁ H:=⟨rfl,hM,λb o e=>V3 (by rw[<- gets];exact e),by rw[hbs];exact Nat.le_of_eq (KC _ _),trivial,λb hb=>absurd (show b∈([]:List Ac) from hb) (by simp),hok,.of_eq hg,λb hb=>H1 b (by rw[hbs] at hb;exact hb)⟩
  refine a5z ((F _ hKb (nsK hns) hTB).run callerA [] s₁ H ⟨[.ref a],[]⟩ [.ref a] [.ref a] _ _ hr e0 (hbind s₁ (.ref a)) (.cons rfl .nil) (hsp H hO' hS')) λr s' h=>?_
  cases r with
  |error e=>exact (hCX H e s' h).elim
  | ok fl=>
   cases fl with
   |next=>exact False.elim h
   |brk=>exact False.elim h
   |cont=>exact False.elim h
   | ret u=>
    obtain⟨v,H',os,bare,un,hok',r',q⟩:=h
    have q':v= .bl true:=q
    subst q'
    obtain rfl:u=Value.bool true:=r'
    have key:∀b o,s₁.heap.get? b=some o->s'.heap.get? b=some o\/(isCodeTable s₁.heap b/\o=PySem.W.tabObj #[]/\∃ps,s'.heap.get? b=some (PySem.W.tabObj ps)):=λb o e=>by
     by_cases hb:b∈T.map (·.2)
     ·obtain⟨ps,hP,_⟩:=hok' b _ (un.tbls b (H1 b hb))
      have e2:=(tabAt b hb).1
      rw[e] at e2
      exact .inr ⟨(tabAt b hb).2,a1j e2,ps,hP⟩
     ·refine .inl ?_
      cases q:H b with
      |none=>exact un.keep b o e q (by intro z;exact absurd (show b∈([]:List Ac) from z) (by simp)) (by simp)
      | some u=>
       rcases hO b with z|⟨ob,xs,z⟩
       ·rw[H2 b hb,z] at q;cases q
       ·have z':H b=some (.frz ob (.lst xs)):=(H2 b hb).trans z
        have z2:=un.frzs b ob _ z'
        obtain⟨e1,_⟩:=hok b _ z'
        obtain⟨e2,_⟩:=hok' b _ z2
        rw[e] at e1;cases e1
        exact e2
    refine⟨rfl,⟨λb o e=>?_,λb o e=>?_⟩,os,bare.1⟩
    ·rcases key b o e with z|⟨z1,rfl,ps,z2⟩
     ·exact .inl z
     ·exact .inr (.inl ⟨z1,rfl,#[],ps,rfl,by rw[Array.empty_append];exact z2⟩)
    ·rcases key b o e with z|⟨_,_,ps,z2⟩
     ·exact⟨o,z⟩
     ·exact⟨_,z2⟩
 cases hk:K.lookup a with
 | some o=>
  have e:=KX a o hk
  rw[ha] at e
  cases e
  refine core (λ_=>none) (λ_=>.inl rfl) (.inr ⟨_,vs.toArray,_,hk,rfl,rfl,rfl,by rw[a0t,lenV];exact hl,by simpa using rv⟩) (λb u z=>by have z':(none:Option HO)=some u:=z;cases z') (λb z=>absurd rfl z) λz=>absurd rfl z
 | none=>
  refine core (λb=>if b=a then some (.frz {cls:=.type "list",data:=.seq vs.toArray} (.lst (ns.map V.int))) else none) (λb=>?_) (.inl (.inr ⟨{cls:=.type "list",data:=.seq vs.toArray},if_pos rfl⟩)) (λb u z=>?_) (λb z=>?_) λ_=>hk
  ·by_cases hb:b=a
   ·exact .inr ⟨_,_,if_pos hb⟩
   ·exact .inl (if_neg hb)
  ·by_cases hb:b=a
   ·have z':=(if_pos hb).symm.trans z
    cases z'
    subst hb
    exact⟨ha,by rw[a0d];exact hl,vs,_,rv,ha⟩
   ·have z':=(if_neg hb).symm.trans z
    cases z'
  ·by_cases hb:b=a
   ·exact hb
   ·exact absurd (if_neg hb) z
theorem SR{q:Program}{loose:List Str}{mean:ExcName->Option Value}{mg mb:Str->Option Value}{h:Heap}(T:Top q loose mean mg mb h):∃bm ob,BMod h mainGlobals mg bm ob:=
 let ⟨bm,ob,a1,a2,a3,a4,a5,a6⟩:=T.bmain;⟨bm,ob,T.g,a1,a2,a3,a4,a5,a6⟩
theorem X3 {l:PySem.W.OpenLaw} {n k:Nat} {q:Program} {loose:List Str} {XP:(Str->Option Value)->Heap->Prop} {YP:World->Heap->Prop} {d:DefRec} {K:Params->PySem.W.Frag} {CX:World->MD} {sp:World->Sp} {x:Str}
  (hn:l.most=some n) (hn2:n<=sizeLine) (hdf:d.params.defaults=[]) (himp:importsNone q=true) (hr:Room k callerA)
  (hY:∀(w:World) (h:Heap),YP w h->(K w.params).In h)
  (F:∀(w:World) (mg:Str->Option Value) (fa:Addr) (h:Heap),(K w.params).In h->h.Ns mainGlobals mg->mg d.name=some (.ref fa)->
   ∃ fd:FuncData,(∀(s:Shared) (u:Value),BindsTo s fd ⟨[u],[]⟩ [(x,u)])/\
    ∀base:Heap,(K w.params).In base->base.Ns mainGlobals mg->FnOk l.prog w (K w.params) mg base (CX w) k fa fd [x] (sp w))
  (hsp:∀(w:World) (H:Hp) (a:Ac) (ns:List Int),ns.length<=n->SG H->d9 (K w.params) H a (ns.map V.int)->sp w [.ref a] H (λv _=>v= .bl true) λ_ _ _=>False)
  (hCX:∀(w:World) (H:Hp) (s:Ab) (e:Value) (s':Ab),CX w [] H s (λ_ _ _=>False) e s'->False) :
  PySem.W.WalkO q loose XP YP l.row.toRowW d [] (λf vs=>PySem.call f vs):=by
 refine Att.attach_call hn hdf λw s₀ s₁ mg mb fa o pm cd doc a vs ns G Y ho hd hcd hmg hobj hints hlen hg=>?_
 have KX:=hY w _ Y
 obtain⟨fd,hb,hF⟩:=F w mg fa _ KX G.T.g hmg
 exact OA KX G.T.g G.T.b G.T.builtins G.T.nolimit (let ⟨mm,h1,_⟩:=(G.T.seer himp).mods;⟨mm,h1⟩) (SR G.T) [] (λ_ z=>nomatch z) (.inr rfl) hg hobj hints (a0y hlen hn2) hr (λbase kb nb _=>hF base kb nb) hb (λH hO hS=>hsp w H a ns hlen hO hS) λH e s'=>hCX w H s₁ e s'
def cQ(s:Stmt):Arguments:=match s with
 |.FunctionDef _ a _ _ _ _ _ _ _ _=>a
 |_=>{posonlyargs:=[],args:=[],vararg:=none,kwonlyargs:=[],kw_defaults:=[],kwarg:=none,defaults:=[]}
def bM(s:Stmt):List Stmt:=match s with
 |.FunctionDef _ _ b _ _ _ _ _ _ _=>b
 |_=>[]
def aD(s:Stmt):Scope:=match s with
 |.FunctionDef _ _ _ _ _ _ sc _ _ _=>sc
 |_=>{kind:=.function,names:=[],isGenerator:=false,isCoroutine:=false}
abbrev jN:MD:=λ_ _ _ _ _ _=>False
abbrev E0:XK:=λ_ _ _=>False
theorem a3Q{X:Cx}:DY jN X E0:=λ_ _ _ _ _ _ _ h=>h.elim
structure Fun (K:PySem.W.Frag) (x qual:Str) (st:Stmt) (f:Addr) (fd:FuncData):Prop where
 ex:∃(oc:Value) (od:Option Addr) (kV doc pm:Value) (an:Option Addr) (cdv ct:Value) (osl:Array (Option Value)),
  fd=PySem.W.fnOf x qual (cQ st) (bM st) (aD st) .none kV doc pm an cdv ct/\K.lookup f=some ⟨oc,od,.func fd,osl⟩/\PySem.W.codeIn K cdv qual=true
 kp:PySem.W.keepIn K (.ref f)=true
section
variable{P:Program}{w:World}{K:Aa}{mg:Str->Option Value}{base:Heap}
theorem Fun.ok {x qual:Str} {st:Stmt} {f:Addr} {fd:FuncData} {N ps:List Str} {k:Nat} {sp:Sp} (F:Fun K x qual st f fd) (S:FnScope N ps (aD st)) (len:∀vs H Q E,sp vs H Q E->vs.length=ps.length)
  (hbody:∀(cdv:Value) (A:Around) (outer:List Env) (s:Shared) (H:Hp) (vs:List V) (Q:VK) (E:XK),Room k (A.deeper (envOfC qual (aD st) s.heap.objs.size f cdv))->sp vs H Q E->
   ∃t,wV (d4 jN P w K mg base N qual (aD st) f cdv A outer s H E).nox (bM st) t/\t {nx:=λ_ H'=>Q .non H',rt:=Q} (start N vs) H):FnOk P w K mg base jN (k+1) f fd ps sp:=by
 obtain⟨oc,od,kV,doc,pm,an,cdv,ct,osl,rfl,lk,hcd⟩:=F.ex
 refine a34 lk hcd S len λA outer s H vs Q E hr hsp=>?_
 obtain⟨t,h,q⟩:=hbody cdv A outer s H vs Q E hr hsp
 exact⟨t,h.nox,q⟩
theorem Fun.binds {x qual:Str} {st:Stmt} {f:Addr} {fd:FuncData} {ps:List Str} (F:Fun K x qual st f fd)
  (h:∀(kV doc pm:Value) (an:Option Ac) (cdv ct:Value) (us:List Value),us.length=ps.length->bindArgs (PySem.W.fnOf x qual (cQ st) (bM st) (aD st) .none kV doc pm an cdv ct) ⟨us,[]⟩=pure (ps.zip us)):wU K fd ps []:=by
 obtain⟨oc,od,kV,doc,pm,an,cdv,ct,osl,rfl,lk,hcd⟩:=F.ex
 exact .all (h kV doc pm an cdv ct)
theorem ZE {x qual:Str} {st:Stmt} {f:Addr} {oc:Value} {od an:Option Addr} {osl:Array (Option Value)} {kV doc pm cdv ct:Value} (l:K.lookup f=some ⟨oc,od,.func (PySem.W.fnOf x qual (cQ st) (bM st) (aD st) .none kV doc pm an cdv ct),osl⟩)
  (c:PySem.W.codeIn K cdv qual=true) (k:PySem.W.keepIn K (.ref f)=true):Fun K x qual st f (PySem.W.fnOf x qual (cQ st) (bM st) (aD st) .none kV doc pm an cdv ct):=⟨⟨oc,od,kV,doc,pm,an,cdv,ct,osl,rfl,l,c⟩,k⟩
end
theorem UH {c A B:Prop} [Decidable c] (h1:c->A) (h2:¬c->B):if c then A else B:=by
 by_cases h:c
 ·rw[if_pos h]
  exact h1 h
 ·rw[if_neg h]
  exact h2 h
section
variable{X:Cx}
def MB(i j:Int):Prop:=0<j/\j<2^256
theorem OU:n6 X (binaryOp .FloorDiv) (rI MB λi j=>.int (i / j)):=a59 λi j _ _ _ _ _ hc q=>by
 have h1:(0:Int)<j:=hc.1
 have h2:j<2^256:=hc.2
 have h3:j.natAbs.log2<9000:=by
  have h4:j.natAbs≠0:=by omega
  have h5:j.natAbs<2^256:=by omega
  exact a2t ((Nat.log2_lt h4).mpr h5) (by decide)
 exact floordiv_int (by omega) (by rw[Int.fdiv_eq_ediv_of_nonneg i (by omega)];exact q) (.inl (PyProof.noPylong_of_log2 h3))
theorem BB:eD X (.builtin "isinstance") (λxs H Q=>∃x n t b,xs=[x,.ty n]/\TyOf X.K H x t/\PySem.W.kitOne X.K t (.type n)=some b/\Q (.bl b) H):=by
 intro pins s σ H xs us Q I r h
 obtain⟨x,n,t,b,rfl,ty,e,q⟩:=h
 obtain⟨u,w',rfl,rx,rw'⟩:=J3 r
 cases (show w'=Value.type n from rw')
 exact KH I rx ty e λtk=>⟨.bl b,H,I.tok _,rfl,q⟩
end
def KO(t n:String):Option Bool:=if (Value.type t==Value.type n)=true then some true else if PySem.W.kitMeta n=true then (fastBuiltinMro t).map (λx=>x.contains (Value.type n)) else none
theorem ZP(K:Aa)(t n:String):PySem.W.kitOne K (.type t) (.type n)=KO t n:=rfl
structure Df(K:PySem.W.Frag)(mg:Str->Option Value)(x:Str)(st:Stmt):Prop where
 ex:∃f fd,Fun K x x st f fd/\mg x=some (.ref f)
theorem a2R {K:PySem.W.Frag} {h:Heap} {mg:Str->Option Value} {x:Str} {st:Stmt} {f:Addr} {oc:Value} {od an:Option Addr} {osl:Array (Option Value)} {kV doc pm cdv ct:Value} (X:K.In h) (G:h.Ns mainGlobals mg)
  (a:PySem.W.nsIn K mainGlobals x=some (some (.ref f)))
  (l:K.lookup f=some ⟨oc,od,.func (PySem.W.fnOf x x (cQ st) (bM st) (aD st) .none kV doc pm an cdv ct),osl⟩)
  (c:PySem.W.codeIn K cdv x=true) (k:PySem.W.keepIn K (.ref f)=true):Df K mg x st:=⟨⟨f,_,ZE l c k,PySem.W.mg_of X G a⟩⟩
structure Cal(P:Program)(w:World)(K:PySem.W.Frag)(mg:Str->Option Value)(base:Heap)(k:Nat)(x:Str)(ps:List Str)(sp:Sp):Prop where
 ex:∃f fd,mg x=some (.ref f)/\PySem.W.keepIn K (.ref f)=true/\wU K fd ps []/\(∃oc od sl,K.lookup f=some ⟨oc,od,.func fd,sl⟩)/\FnOk P w K mg base jN k f fd ps sp
theorem Df.ok {P:Program} {w:World} {K:PySem.W.Frag} {mg:Str->Option Value} {base:Heap} {x:Str} {st:Stmt} {N ps:List Str} {k:Nat} {sp:Sp} (D:Df K mg x st) (S:FnScope N ps (aD st))
  (hb:∀(kV doc pm:Value) (an:Option Ac) (cdv ct:Value) (us:List Value),us.length=ps.length->bindArgs (PySem.W.fnOf x x (cQ st) (bM st) (aD st) .none kV doc pm an cdv ct) ⟨us,[]⟩=pure (ps.zip us))
  (len:∀vs H Q E,sp vs H Q E->vs.length=ps.length)
  (hbody:∀(f:Addr) (cdv:Value) (A:Around) (outer:List Env) (s:Shared) (H:Hp) (vs:List V) (Q:VK) (E:XK),Room k (A.deeper (envOfC x (aD st) s.heap.objs.size f cdv))->sp vs H Q E->
   ∃t,wV (d4 jN P w K mg base N x (aD st) f cdv A outer s H E).nox (bM st) t/\t {nx:=λ_ H'=>Q .non H',rt:=Q} (start N vs) H):Cal P w K mg base (k+1) x ps sp:=by
 obtain⟨f,fd,F,m⟩:=D.ex
 exact⟨f,fd,m,F.kp,F.binds hb,(by obtain⟨oc,od,kV,doc,pm,an,cdv,ct,osl,rfl,lk,hcd⟩:=F.ex;exact⟨oc,od,osl,lk⟩),F.ok S len λcdv A outer s H vs Q E hr h=>hbody f cdv A outer s H vs Q E hr h⟩
section
variable{X:Cx}{k:Nat}{ps:List Str}{sp:Sp}{x:Str}{p pos:Pos}{e:Expr}{es:List Expr}{t:TA}
theorem PF (C:Cal X.prog X.w X.K X.mg X.base k x ps sp) (hr:Room k X.A) (ha:PA X (e::es) t) (hg:Gl X x:=by rfl)
  (hdb:(x==("__debug__" : Str))=false:=by decide) (he:starEach (e::es) X.env=(false,eval e X.env)::starEach es X.env:=by rfl) (hpl:(backTo pos (starEach es X.env)).any (·.1)=false:=by rfl) :
  PE X (.Call (.Name x p) (e::es) [] pos) (XU sp [] E0 t):=by
 obtain⟨f,fd,a,b,c,l,d⟩:=C.ex
 exact V8 d hr hg a b c .nil a3Q ha hdb he hpl
end
theorem eY:bootBuiltins "len"=some (.builtin "len"):=by decide+kernel
theorem E9:bootBuiltins "max"=some (.builtin "max"):=by decide+kernel
theorem MW:bootBuiltins "min"=some (.builtin "min"):=by decide+kernel
theorem EB:bootBuiltins "sum"=some (.builtin "sum"):=by decide+kernel
theorem nG:bootBuiltins "isinstance"=some (.builtin "isinstance"):=by decide+kernel
theorem E8:bootBuiltins "int"=some (.type "int"):=by decide+kernel
theorem SV:bootBuiltins "bool"=some (.type "bool"):=by decide+kernel
theorem oI:bootBuiltins "list"=some (.type "list"):=by decide+kernel
theorem MX:bootBuiltins "range"=some (.type "range"):=by decide+kernel
theorem MY:bootBuiltins "tuple"=some (.type "tuple"):=by decide+kernel
theorem SW:bootBuiltins "dict"=some (.type "dict"):=by decide+kernel
theorem jP:bootBuiltins "sorted"=some (.builtin "sorted"):=by decide+kernel
structure StOk(a b c:Int):Prop where
 a0:0<=a
 b0:0<=b
 b1:b<2147483647
abbrev SC(a b c:Int):HO:=.lst [.int a,.int b,.int c]
def a5L(H:Hp)(p:Ac):Prop:=∃a b c,H p=some (SC a b c)/\StOk a b c
def R7:Sp:=λvs H Q _=>∃(p:Addr) (m a b c:Int),vs=[.ref p,.int m]/\H p=some (SC a b c)/\StOk a b c/\0<m/\m<2^250/\
 ∀r a' b' c':Int,0<=r->r<m->StOk a' b' c'->Q (.int r) (bF H p (SC a' b' c'))
theorem cE{α:Type}{xs:List α}{i:Int}{v:α}(h0:0<=i)(h:xs[i.toNat]? =some v):iV xs i=some v:=by
 have e:i=(i.toNat:Int):=by omega
 rw[e];exact SM h
def oE(J:It)(g:TG)(tb:TS):TS:=λD σ H=>∃W:Nat->Nat->St->Hp->Prop,(∃m,W 0 m σ H)/\∀i m σ H,W i m σ H->
 (J.stop i H/\D.nx σ H)\/(J.go i H/\∃N:St->Hp->Prop,(∀σ' H',N σ' H'->∃m',m'<m/\W (i+1) m' σ' H')/\∀x H',J.yld i H x H'->g x σ H' λσ2 H2=>tb {D with nx:=N,ct:=N,bk:=D.nx} σ2 H2)
section
variable{X:Cx}
def QD:R2:=λx y H Q=>∃p xs i v,x= .ref p/\y= .int i/\H p=some (.lst xs)/\iV xs i=some v/\Q v H
theorem ZI:MF X QD:=by
 intro value slice pins s σ H x y v u Q I rx ry h hs
 obtain⟨p,xs,i,w,e1,e2,e3,e4,q⟩:=h
 exact zR value slice pins s σ H x y v u Q I rx ry ⟨p,xs,i,w,e1,e2,d9.of e3,e4,q⟩ hs
end
theorem tQ{α:Type}{a:α}{l:List α}:iV (a::l) 0=some a:=cE (by decide) rfl
theorem iB{α:Type}{a b:α}{l:List α}:iV (a::b::l) 1=some b:=cE (by decide) rfl
theorem nU{α:Type}{a b c:α}{l:List α}:iV (a::b::c::l) 2=some c:=cE (by decide) rfl
theorem qA{α:Type}{a b c d:α}{l:List α}:iV (a::b::c::d::l) 3=some d:=cE (by decide) rfl
theorem a2P{i j:Int}(h0:0<=j)(h1:j<=1000000)(h2:i.natAbs<2^64):w8 i j:=⟨h0,h1,h2⟩
theorem RM{H:Hp}{p:Addr}{o:HO}(h:H p=some o):bF H p o=H:=by
 funext b;unfold bF;split
 ·rename_i e;rw[e,h]
 ·rfl
def IR(K:PySem.W.Frag):Sp:=λvs H Q _=>∃(p:Addr) (k:Int) (ns:List Int),vs=[.ref p,.int k]/\d9 K H p (ns.map V.int)/\0<=k/\k<1000000/\
 ∀(q:Ac) (a b c:Int),H q=none->StOk a b c->Q (.ref q) (bF H q (SC a b c))
structure NmOk(nm:Str)(k:Nat):Prop where
 ex:∃pre:List Nat,nm.cps.toList=pre++[97+k]/\pre.length<=7/\∀c∈pre,97<=c/\c<=122
def a58:Str:=Str.ofString "abcdefghijklmnopqrstuvwxyz"
theorem SJ:a58.cps.toList=(List.range 26).map (97+·):=by decide+kernel
theorem GH:a58.length=26:=by decide+kernel
theorem GK{r:Int}(h0:0<=r)(h1:r<26):iV a58.cps.toList r=some (97+r.toNat):=by
 refine cE h0 ?_
 have h:r.toNat<26:=by omega
 rw[SJ,a0g,a4r h];rfl
structure Sr where
 nm:Str
 b:Int
 e:Int
 w:Int
structure SrOk(s:Sr)(k:Nat):Prop where
 nm:NmOk s.nm k
 lt:s.b<s.e
 b0:-1000000000000<=s.b
 e1:s.e<=1000000000000
 w0:0<=s.w
 w1:s.w<=1000000000000
theorem Y8 {P:Program} {w:World} {K:PySem.W.Frag} {mg:Str->Option Value} {base:Heap} {k:Nat} {x:Str} {ps:List Str} {sp:Sp} (C:Cal P w K mg base k x ps sp) {f:Addr} (hf:mg x=some (.ref f))
  {oc:Value} {od:Option Ac} {fd:FuncData} {sl:Array (Option Value)} (l:K.lookup f=some ⟨oc,od,.func fd,sl⟩):FnOk P w K mg base jN k f fd ps sp:=by
 obtain⟨g,fd',a,_,_,⟨oc',od',sl',l'⟩,d⟩:=C.ex
 rw[hf] at a;cases a
 rw[l] at l';cases l'
 exact d
def D1:List V->Hp->VK->Prop:=λxs H Q=>∃i j,xs=[.int i,.int j]/\Q (.int (if j>i then j else i)) H
def QH:List V->Hp->VK->Prop:=λxs H Q=>∃i j,xs=[.int i,.int j]/\Q (.int (if j<i then j else i)) H
def D0:List V->Hp->VK->Prop:=λxs H Q=>(∃i,xs=[.int i]/\Q (.int i) H)\/∃k,xs=[.bl k]/\Q (.int (if k then 1 else 0)) H
def QF(K:Aa):List V->Hp->VK->Prop:=λxs H Q=>∃p ys,xs=[.ref p]/\(d9 K H p ys\/dQ K H p ys)/\Q (.int ys.length) H
def a16(K:Aa):List V->Hp->VK->Prop:=λxs H Q=>∃x n t b,xs=[x,.ty n]/\TyOf K H x t/\PySem.W.kitOne K t (.type n)=some b/\Q (.bl b) H
def a15:R2:=λx y H Q=>y= .non/\Q (.bl (decide (x= .non))) H
def QJ:R2:=λx y H Q=>y= .non/\Q (.bl (!decide (x= .non))) H
def Q8:R2:=λx y H Q=>∃i j,x= .str i/\y= .str j/\i.length+j.length<=sizeLine/\Q (.str (i++j)) H
def AC(K:Aa):List V->Hp->VK->Prop:=λxs H Q=>∃p ys,xs=[.ref p]/\(d9 K H p ys\/dQ K H p ys)/\∀l,H l=none->Q (.ref l) (bF H l (.lst ys))
section
variable{X:Cx}
theorem a2L(hc:X.calm=true):eD X (.builtin "max") D1:=JR hc
theorem a2M(hc:X.calm=true):eD X (.builtin "min") QH:=JS hc
theorem a2J:eD X (.type "int") D0:=JQ
theorem Y7:eD X (.builtin "len") (QF X.K):=zE
theorem a2K:eD X (.builtin "isinstance") (a16 X.K):=BB
theorem N4:eD X (.type "list") (AC X.K):=zG
theorem a3H:n6 X (compareOp .Is) a15:=a04
theorem ZX:n6 X (compareOp .IsNot) QJ:=V5
theorem ZW:n6 X (binaryOp .Add) Q8:=FA
end
section
variable{σ:St}{H:Hp}{Q:VK}{D:Ends}{K:Aa}
theorem a1P{t u:TS}(h:t {D with nx:=u D} σ H):WR t u D σ H:=h
theorem WO(h:D.nx σ H):IZ D σ H:=h
theorem a1M{c:TT}{t u:TS}(h:c σ H λb H1=>if b=true then t D σ H1 else u D σ H1):WL c t u D σ H:=h
theorem a1O{te:TE}(h:te σ H D.rt):WQ te D σ H:=h
theorem a1K{te:TE}{g:TG}(h:te σ H λx H1=>g x σ H1 D.nx):DF te g D σ H:=h
theorem ZF{to ti:TE}{t:DZ}{v:V}{R:St->Hp->Prop}(h:to σ H λo H1=>ti σ H1 λi H2=>t o i v H2 λH3=>R σ H3):O1 to ti t v σ H R:=h
theorem a6M{v:V}(h:Q v H):tC v σ H Q:=h
theorem a4O{r:R2}{ta tb:TE}(h:ta σ H λx H1=>tb σ H1 λy H2=>r x y H2 Q):RH r ta tb σ H Q:=h
theorem a4R{r:V->Hp->VK->Prop}{ta:TE}(h:ta σ H λx H1=>r x H1 Q):a5C r ta σ H Q:=h
theorem a46{g:Int->Int->V}{i j:Int}(h:Q (g i j) H):wM g (.int i) (.int j) H Q:=⟨i,j,rfl,rfl,h⟩
theorem a6E{C:Int->Int->Prop}{g:Int->Int->V}{i j:Int}(hc:C i j)(h:Q (g i j) H):rI C g (.int i) (.int j) H Q:=⟨i,j,rfl,rfl,hc,h⟩
theorem a6I{g:Int->V}{i:Int}(h:Q (g i) H):rU g (.int i) H Q:=⟨i,rfl,h⟩
theorem WS{t:TE}{R:Bool->Hp->Prop}(h:t σ H λx H'=>∃k,x= .bl k/\R k H'):J0 t σ H R:=h
theorem Z6{b:Bool}{R:Bool->Prop}(h:R b):∃k,V.bl b= .bl k/\R k:=⟨b,rfl,h⟩
theorem WK{ta:TE}{tr:TA}{R:List V->Hp->Prop}(h:ta σ H λx H1=>tr σ H1 λxs H2=>R (x::xs) H2):DG ta tr σ H R:=h
theorem a1N{R:List V->Hp->Prop}(h:R [] H):RG σ H R:=h
theorem WN{t:TA}(h:t σ H λxs H1=>xs.length<=sizeLine/\∀p,H1 p=none->Q (.ref p) (bF H1 p (.lst xs))):WM t σ H Q:=h
theorem a4K{r:List V->Hp->VK->Prop}{t:TA}(h:t σ H λvs H1=>r vs H1 Q):XT r t σ H Q:=h
theorem W8{p:Ac}{xs:List V}{i:Int}{v:V}(e:H p=some (.lst xs))(a:iV xs i=some v)(h:Q v H):QD (.ref p) (.int i) H Q:=⟨p,xs,i,v,rfl,rfl,e,a,h⟩
theorem a17{p:Ac}{xs:List V}{i:Int}{v:V}(e:d9 K H p xs)(a:iV xs i=some v)(h:Q v H):W7 K (.ref p) (.int i) H Q:=⟨p,xs,i,v,rfl,rfl,e,a,h⟩
theorem a1E{p:Ac}{a b c:V}{v:V}{R:Hp->Prop}(e:H p=some (.lst [a,b,c]))(h:R (bF H p (.lst [v,b,c]))):yO (.ref p) (.int 0) v H R:=⟨p,_,0,0,rfl,rfl,e,rfl,h⟩
theorem a1F{p:Ac}{a b c:V}{v:V}{R:Hp->Prop}(e:H p=some (.lst [a,b,c]))(h:R (bF H p (.lst [a,v,c]))):yO (.ref p) (.int 1) v H R:=⟨p,_,1,1,rfl,rfl,e,rfl,h⟩
theorem a1G{p:Ac}{a b c:V}{v:V}{R:Hp->Prop}(e:H p=some (.lst [a,b,c]))(h:R (bF H p (.lst [a,b,v]))):yO (.ref p) (.int 2) v H R:=⟨p,_,2,2,rfl,rfl,e,rfl,h⟩
theorem W9{i j:Int}(h:Q (.int (if j>i then j else i)) H):D1 [.int i,.int j] H Q:=⟨i,j,rfl,h⟩
theorem QB{k:Bool}(h:Q (.int (if k then 1 else 0)) H):D0 [.bl k] H Q:=.inr ⟨k,rfl,h⟩
theorem IL{p:Ac}{ys:List V}(e:d9 K H p ys)(h:Q (.int ys.length) H):QF K [.ref p] H Q:=⟨p,ys,rfl,.inl e,h⟩
theorem a6B{ta:TA}{g:TG}{tb:TS}(h:ta σ H λvs H1=>∃j:Int,vs=[.int j]/\-(2^62)<=j/\j<2^62/\oE (SE 0 j.toNat) g tb D σ H1):RF (HE ta) g tb D σ H:=h
theorem Z7{n:Int}{R:Int->Prop}(h:-(2^62)<=n/\n<2^62/\R n):∃j:Int,[V.int n]=[.int j]/\-(2^62)<=j/\j<2^62/\R j:=⟨n,rfl,h⟩
theorem v0{v:V}{r:St}(h:Q v H):eV 0 (some v::r) H Q:=⟨v,rfl,h⟩
theorem v1{x0:Option V}{v:V}{r:St}(h:Q v H):eV 1 (x0::some v::r) H Q:=⟨v,rfl,h⟩
theorem v2{x0 x1:Option V}{v:V}{r:St}(h:Q v H):eV 2 (x0::x1::some v::r) H Q:=⟨v,rfl,h⟩
theorem v3{x0 x1 x2:Option V}{v:V}{r:St}(h:Q v H):eV 3 (x0::x1::x2::some v::r) H Q:=⟨v,rfl,h⟩
theorem v4{x0 x1 x2 x3:Option V}{v:V}{r:St}(h:Q v H):eV 4 (x0::x1::x2::x3::some v::r) H Q:=⟨v,rfl,h⟩
theorem g2{v:V}{x0 x1 x2:Option V}{r:St}{R:St->Hp->Prop}(h:R (x0::x1::some v::r) H):l7 2 v (x0::x1::x2::r) H R:=h
theorem g3{v:V}{x0 x1 x2 x3:Option V}{r:St}{R:St->Hp->Prop}(h:R (x0::x1::x2::some v::r) H):l7 3 v (x0::x1::x2::x3::r) H R:=h
theorem g4{v:V}{x0 x1 x2 x3 x4:Option V}{r:St}{R:St->Hp->Prop}(h:R (x0::x1::x2::x3::some v::r) H):l7 4 v (x0::x1::x2::x3::x4::r) H R:=h
end
theorem Y9{i j:Int}(h0:-(2^64)<i)(h1:i<2^64):w6 i j:=.inl ⟨h0,h1⟩
theorem YA{i j:Int}(h0:-(2^64)<j)(h1:j<2^64):w6 i j:=.inr ⟨h0,h1⟩
theorem IS{N:List Str}{vs:List V}{t:TS}{D:Ends}{H:Hp}{σ:St}(e:start N vs=σ)(h:t D σ H):t D (start N vs) H:=e▸h
theorem a3B{xs:List V}{R:Prop}(h0:xs.length<=1000)(h:R):xs.length<=sizeLine/\R:=⟨a0y h0 (by decide),h⟩
section
variable{H:Hp}{Q:VK}
theorem a6A(h:Q (.int 1000000) H):rI w8 (λi j=>V.int (i^j.toNat)) (.int 10) (.int 6) H Q:=⟨10,6,rfl,rfl,a2P (by decide) (by decide) (by decide),h⟩
theorem a3Y(h:Q (.int 1000000000000000000) H):rI w8 (λi j=>V.int (i^j.toNat)) (.int 10) (.int 18) H Q:=⟨10,18,rfl,rfl,a2P (by decide) (by decide) (by decide),h⟩
end
theorem T2{i j:Int}(h0:0<j)(h1:j<2^250):MB i j:=⟨h0,Int.lt_trans h1 (by decide)⟩
theorem a3F{j:Int}(h:j<=1000000000000000000000000000000000000000000000000000000000000):j<2^250:=Int.lt_of_le_of_lt h (by decide)
theorem fN:("len" : Str)≠ "__name__":=by decide+kernel
theorem fM:(("len" : Str)==("__debug__" : Str))=false:=by decide+kernel
theorem E6:("max" : Str)≠ "__name__":=by decide+kernel
theorem E3:(("max" : Str)==("__debug__" : Str))=false:=by decide+kernel
theorem MT:("min" : Str)≠ "__name__":=by decide+kernel
theorem MP:(("min" : Str)==("__debug__" : Str))=false:=by decide+kernel
theorem E7:("sum" : Str)≠ "__name__":=by decide+kernel
theorem E4:(("sum" : Str)==("__debug__" : Str))=false:=by decide+kernel
theorem nE:("isinstance" : Str)≠ "__name__":=by decide+kernel
theorem nD:(("isinstance" : Str)==("__debug__" : Str))=false:=by decide+kernel
theorem E5:("int" : Str)≠ "__name__":=by decide+kernel
theorem E2:(("int" : Str)==("__debug__" : Str))=false:=by decide+kernel
theorem SS:("bool" : Str)≠ "__name__":=by decide+kernel
theorem SO:(("bool" : Str)==("__debug__" : Str))=false:=by decide+kernel
theorem tD:("list" : Str)≠ "__name__":=by decide+kernel
theorem sZ:(("list" : Str)==("__debug__" : Str))=false:=by decide+kernel
theorem MU:("tuple" : Str)≠ "__name__":=by decide+kernel
theorem MQ:(("tuple" : Str)==("__debug__" : Str))=false:=by decide+kernel
theorem SU:("dict" : Str)≠ "__name__":=by decide+kernel
theorem SQ:(("dict" : Str)==("__debug__" : Str))=false:=by decide+kernel
theorem xB:("sorted" : Str)≠ "__name__":=by decide+kernel
theorem wX:(("sorted" : Str)==("__debug__" : Str))=false:=by decide+kernel
class Step (P:Prop) (P':outParam Prop):Prop where
 go:P'->P
theorem step{P P':Prop}[s:Step P P'](h:P'):P:=s.go h
section
variable{σ:St}{H:Hp}{Q:VK}{D:Ends}{K:Aa}
instance i_tSeq_s {t u:TS}:Step (WR t u D σ H) (t {D with nx:=u D} σ H):=⟨λh=>a1P h⟩
instance i_tNext_s  : Step (IZ D σ H) (D.nx σ H):=⟨λh=>WO h⟩
instance i_tIfS_s {c:TT} {t u:TS}:Step (WL c t u D σ H) (c σ H λb H1=>if b=true then t D σ H1 else u D σ H1):=⟨λh=>a1M h⟩
instance i_tRet_s {te:TE}:Step (WQ te D σ H) (te σ H D.rt):=⟨λh=>a1O h⟩
instance i_tAsg_s {te:TE} {g:TG}:Step (DF te g D σ H) (te σ H λx H1=>g x σ H1 D.nx):=⟨λh=>a1K h⟩
instance i_gSub_s {to ti:TE} {t:DZ} {v:V} {R:St->Hp->Prop}:Step (O1 to ti t v σ H R) (to σ H λo H1=>ti σ H1 λi H2=>t o i v H2 λH3=>R σ H3):=⟨λh=>ZF h⟩
instance i_tC_s {v:V}:Step (tC v σ H Q) (Q v H):=⟨λh=>a6M h⟩
instance i_tOp_s {r:R2} {ta tb:TE}:Step (RH r ta tb σ H Q) (ta σ H λx H1=>tb σ H1 λy H2=>r x y H2 Q):=⟨λh=>a4O h⟩
instance i_tUn_s {r:V->Hp->VK->Prop} {ta:TE}:Step (a5C r ta σ H Q) (ta σ H λx H1=>r x H1 Q):=⟨λh=>a4R h⟩
instance i_rI0_s {g:Int->Int->V} {i j:Int}:Step (wM g (.int i) (.int j) H Q) (Q (g i j) H):=⟨λh=>a46 h⟩
instance i_rU_s {g:Int->V} {i:Int}:Step (rU g (.int i) H Q) (Q (g i) H):=⟨λh=>a6I h⟩
instance i_tTest_s {t:TE} {R:Bool->Hp->Prop}:Step (J0 t σ H R) (t σ H λx H'=>∃k,x= .bl k/\R k H'):=⟨λh=>WS h⟩
instance i_exbl_s {b:Bool} {R:Bool->Prop}:Step (∃k,V.bl b= .bl k/\R k) (R b):=⟨λh=>Z6 h⟩
instance i_tCons_s {ta:TE} {tr:TA} {R:List V->Hp->Prop}:Step (DG ta tr σ H R) (ta σ H λx H1=>tr σ H1 λxs H2=>R (x::xs) H2):=⟨λh=>WK h⟩
instance i_tNil_s {R:List V->Hp->Prop}:Step (RG σ H R) (R [] H):=⟨λh=>a1N h⟩
instance i_tLstR_s {t:TA}:Step (WM t σ H Q) (t σ H λxs H1=>xs.length<=sizeLine/\∀p,H1 p=none->Q (.ref p) (bF H1 p (.lst xs))):=⟨λh=>WN h⟩
instance i_tCB_s {r:List V->Hp->VK->Prop} {t:TA}:Step (XT r t σ H Q) (t σ H λvs H1=>r vs H1 Q):=⟨λh=>a4K h⟩
instance i_rMax2_s {i j:Int}:Step (D1 [.int i,.int j] H Q) (Q (.int (if j>i then j else i)) H):=⟨λh=>W9 h⟩
instance i_rInt1B_s {k:Bool}:Step (D0 [.bl k] H Q) (Q (.int (if k then 1 else 0)) H):=⟨λh=>QB h⟩
instance i_r1_s {ta:TA} {g:TG} {tb:TS}:Step (RF (HE ta) g tb D σ H) (ta σ H λvs H1=>∃j:Int,vs=[.int j]/\-(2^62)<=j/\j<2^62/\oE (SE 0 j.toNat) g tb D σ H1):=⟨λh=>a6B h⟩
instance i_exr1_s {n:Int} {R:Int->Prop}:Step (∃j:Int,[V.int n]=[.int j]/\-(2^62)<=j/\j<2^62/\R j) (-(2^62)<=n/\n<2^62/\R n):=⟨λh=>Z7 h⟩
instance i_v0 {v:V} {r:St}:Step (eV 0 (some v::r) H Q) (Q v H):=⟨λh=>v0 h⟩
instance i_v1 {x0:Option V} {v:V} {r:St}:Step (eV 1 (x0::some v::r) H Q) (Q v H):=⟨λh=>v1 h⟩
instance i_v2 {x0 x1:Option V} {v:V} {r:St}:Step (eV 2 (x0::x1::some v::r) H Q) (Q v H):=⟨λh=>v2 h⟩
instance i_v3 {x0 x1 x2:Option V} {v:V} {r:St}:Step (eV 3 (x0::x1::x2::some v::r) H Q) (Q v H):=⟨λh=>v3 h⟩
instance i_v4 {x0 x1 x2 x3:Option V} {v:V} {r:St}:Step (eV 4 (x0::x1::x2::x3::some v::r) H Q) (Q v H):=⟨λh=>v4 h⟩
instance i_g2 {v:V} {x0 x1 x2:Option V} {r:St} {R:St->Hp->Prop}:Step (l7 2 v (x0::x1::x2::r) H R) (R (x0::x1::some v::r) H):=⟨λh=>g2 h⟩
instance i_g3 {v:V} {x0 x1 x2 x3:Option V} {r:St} {R:St->Hp->Prop}:Step (l7 3 v (x0::x1::x2::x3::r) H R) (R (x0::x1::x2::some v::r) H):=⟨λh=>g3 h⟩
instance i_g4 {v:V} {x0 x1 x2 x3 x4:Option V} {r:St} {R:St->Hp->Prop}:Step (l7 4 v (x0::x1::x2::x3::x4::r) H R) (R (x0::x1::x2::x3::some v::r) H):=⟨λh=>g4 h⟩
instance i_pow6  : Step (rI w8 (λi j=>V.int (i^j.toNat)) (.int 10) (.int 6) H Q) (Q (.int 1000000) H):=⟨λh=>a6A h⟩
instance i_pow18  : Step (rI w8 (λi j=>V.int (i^j.toNat)) (.int 10) (.int 18) H Q) (Q (.int 1000000000000000000) H):=⟨λh=>a3Y h⟩
end
structure QE(X:Cx)(e:Expr)(t:TE):Prop where
 h:PE X e t
structure QT(X:Cx)(e:Expr)(t:TT):Prop where
 h:PT X e t
structure QA(X:Cx)(es:List Expr)(t:TA):Prop where
 h:PA X es t
structure QS(X:Cx)(st:Stmt)(t:TS):Prop where
 h:PS X st t
structure QSs(X:Cx)(st:List Stmt)(t:TS):Prop where
 h:wV X st t
structure QG(X:Cx)(e:Expr)(t:TG):Prop where
 h:PG X e t
structure QI(X:Cx)(tg iter:Expr)(wi:TI):Prop where
 h:PI X tg iter wi
structure QOp(X:Cx)(f:Value->Value->Sem Value)(r:R2):Prop where
 h:n6 X f r
structure QUn(X:Cx)(f:Value->Sem Value)(r:V->Hp->VK->Prop):Prop where
 h:a57 X f r
structure QC(X:Cx)(f:Value)(r:List V->Hp->VK->Prop):Prop where
 h:eD X f r
structure QX(X:Cx)(r:R2):Prop where
 h:MF X r
structure QM(X:Cx)(id:String)(r:V->List V->Hp->VK->Prop):Prop where
 h:a5K X id r
structure QL(X:Cx)(r:V->Option Int->Option Int->Hp->VK->Prop):Prop where
 h:a56 X r
structure QSet(X:Cx)(t:DZ):Prop where
 h:XZ X t
section
variable{X:Cx}{a b c e:Expr}{es:List Expr}{ta tb tc te:TE}{t:TA}{pos p:Pos}{tA tB':TT}
theorem bP:QOp X (binaryOp .Add) (wM λi j=>.int (i+j)):=⟨a00⟩
theorem e6:QOp X (binaryOp .Sub) (wM λi j=>.int (i-j)):=⟨a0A⟩
theorem hW:QOp X (binaryOp .Mult) (rI w6 λi j=>.int (i*j)):=⟨a06⟩
theorem pG:QOp X (binaryOp .Mod) (rI (λ_ j=>0<j) λi j=>.int (i % j)):=⟨a05⟩
theorem yN:QOp X (binaryOp .FloorDiv) (rI MB λi j=>.int (i / j)):=⟨OU⟩
theorem fA:QOp X (binaryOp .Pow) (rI w8 λi j=>.int (i^j.toNat)):=⟨a08⟩
theorem CY:QOp X (binaryOp .Add) Q8:=⟨ZW⟩
theorem vK:QOp X (compareOp .Eq) a6D:=⟨a3K⟩
theorem a12:QOp X (compareOp .NotEq) a6F:=⟨a3O⟩
theorem kQ:QOp X (compareOp .Lt) (wM λi j=>.bl (decide (i<j))):=⟨a3N⟩
theorem FN:QOp X (compareOp .LtE) (wM λi j=>.bl (decide (i<=j))):=⟨a3M⟩
theorem eO:QOp X (compareOp .Gt) (wM λi j=>.bl (decide (j<i))):=⟨a3L⟩
theorem IJ:QOp X (compareOp .Is) a15:=⟨a3H⟩
theorem pH:QOp X (compareOp .IsNot) QJ:=⟨ZX⟩
theorem IK:QUn X (unaryOp .USub) (rU λi=>.int (-i)):=⟨a1U⟩
theorem FK(hc:X.calm=true):QC X (.builtin "max") D1:=⟨a2L hc⟩
theorem Q4(hc:X.calm=true):QC X (.builtin "min") QH:=⟨a2M hc⟩
theorem FJ:QC X (.type "int") D0:=⟨a2J⟩
theorem VP:QC X (.builtin "len") (QF X.K):=⟨Y7⟩
theorem Q3:QC X (.builtin "isinstance") (a16 X.K):=⟨a2K⟩
theorem mW:QC X (.type "list") (AC X.K):=⟨N4⟩
theorem VZ:QX X (W7 X.K):=⟨zR⟩
theorem mH:QX X QD:=⟨ZI⟩
theorem a11:QL X (a4B X.K):=⟨a1I⟩
theorem VR:QL X (a4A X.K):=⟨WE⟩
theorem gC:QM X "list.append" AB:=⟨qK⟩
theorem qV:QSet X yO:=⟨pM⟩
theorem bE{i j pos}:QE X (.Constant (.int i) j pos) (tC (.int i)):=⟨a0F⟩
theorem a43{b j pos}:QE X (.Constant (.bool b) j pos) (tC (.bl b)):=⟨a3S⟩
theorem a0Z{j pos}:QE X (.Constant .none j pos) (tC .non):=⟨a0G⟩
theorem a10{x j pos}:QE X (.Constant (.str x) j pos) (tC (.str x)):=⟨a0L⟩
theorem IG{x:Str}{v:V}{u:Value}{pos:Pos}(hg:X.env.scope.names.lookup x=some .globalImplicit)(hm:X.mg x=none)(hv:bootBuiltins x=some u)(r:bD v u)(hn:x≠ "__name__")(hd:(x==("__debug__" : Str))=false):QE X (.Name x pos) (tC v):=⟨V7 hg hm hv r hn hd⟩
theorem eF{op:Operator}{r:R2}(ho:QOp X (binaryOp op) r)(ha:QE X a ta)(hb:QE X b tb):QE X (.BinOp a op b pos) (RH r ta tb):=⟨CL ho.h ha.h hb.h⟩
theorem a44{op:UnaryOp}{r:V->Hp->VK->Prop}(ho:QUn X (unaryOp op) r)(ha:QE X a ta):QE X (.UnaryOp op a pos) (a5C r ta):=⟨XJ ho.h ha.h⟩
theorem VQ{op:CmpOp}{r:R2}(ho:QOp X (compareOp op) r)(ha:QE X a ta)(hb:QE X b tb)(hm:behindInMarks op b=false):QE X (.Compare a [op] [b] pos) (RH r ta tb):=⟨HW ho.h ha.h hb.h hm⟩
theorem AA{op:CmpOp}{r:R2}(ho:QOp X (compareOp op) r)(ha:QE X a ta)(hb:QE X b tb)(hm:behindInMarks op b=false):QT X (.Compare a [op] [b] pos) (J0 (RH r ta tb)):=⟨ID ho.h ha.h hb.h hm⟩
theorem a0Y(h:QA X es t):QE X (.List es pos) (WM t):=⟨FH h.h⟩
theorem pF{r:R2}(hr:QX X r)(ha:QE X a ta)(hb:QE X b tb)(hs:∀o i,subscripted b false o i=operate [o,i] (getItem o i)):QE X (.Subscript a b pos) (RH r ta tb):=⟨HX hr.h ha.h hb.h hs⟩
theorem vI:QA X [] RG:=⟨iN⟩
theorem j3(ha:QE X e te)(hr:QA X es t)(hs:starEach (e::es) X.env=(false,eval e X.env)::starEach es X.env:=by rfl):QA X (e::es) (DG te t):=⟨eJ ha.h hr.h hs⟩
theorem CW {id:String} {x:Str} {r:List V->Hp->VK->Prop} (hc:QC X (.builtin id) r) (hg:X.env.scope.names.lookup x=some .globalImplicit) (hm:X.mg x=none) (hv:bootBuiltins x=some (.builtin id)) (ha:QA X (e::es) t) (hn:x≠ "__name__") (hdb:(x==("__debug__" : Str))=false)
  (he:starEach (e::es) X.env=(false,eval e X.env)::starEach es X.env:=by rfl) (hpl:(backTo pos (starEach es X.env)).any (·.1)=false:=by rfl):QE X (.Call (.Name x p) (e::es) [] pos) (XT r t):=⟨jX hc.h hg hm hv ha.h hn hdb he hpl⟩
theorem LC {T:String} {x:Str} {r:List V->Hp->VK->Prop} (hc:QC X (.type T) r) (hg:X.env.scope.names.lookup x=some .globalImplicit) (hm:X.mg x=none) (hv:bootBuiltins x=some (.type T)) (ha:QA X (e::es) t) (hn:x≠ "__name__") (hdb:(x==("__debug__" : Str))=false)
  (he:starEach (e::es) X.env=(false,eval e X.env)::starEach es X.env:=by rfl) (hpl:(backTo pos (starEach es X.env)).any (·.1)=false:=by rfl):QE X (.Call (.Name x p) (e::es) [] pos) (XT r t):=⟨gB hc.h hg hm hv ha.h hn hdb he hpl⟩
theorem IH{i:Nat}{x:Str}(hN:X.N.Nodup)(hi:X.N[i]? =some x)(hx:JA X.env.scope x)(hf:X.fn x=true\/X.env.scope.names.lookup x=some .local):QG X (.Name x pos) (l7 i):=⟨tI hN hi hx hf⟩
theorem FM {o i:Expr} {to ti:TE} {ts:DZ} (ho:QE X o to) (hi:QE X i ti) (hs:QSet X ts)
  (ha:∀v,assign (.Subscript o i pos) X.env v=(do
   let ov <- holding [v] (eval o X.env)
   let iv <- holding [v,ov] (eval i X.env)
   standAt pos
   holding [v,ov,iv] (setItem ov iv v)
   release [v,ov,iv] []):=by intro _;rfl):QG X (.Subscript o i pos) (O1 to ti ts):=⟨A4 ho.h hi.h hs.h ha⟩
theorem LD{tg:Expr}(hg:X.env.scope.names.lookup (Str.ofString "range")=some NameKind.globalImplicit)(hm:X.mg "range"=none)(ha:QA X [a] t)(hs:starEach [a] X.env=[(false,eval a X.env)]:=by rfl):QI X tg (.Call (.Name "range" p) [a] [] pos) (HE t):=⟨yE hg hm ha.h hs⟩
theorem A9:QSs X [] IZ:=⟨IB⟩
theorem d8{st:Stmt}{rest:List Stmt}{ts u:TS}(h1:QS X st ts)(h2:QSs X rest u):QSs X (st::rest) (WR ts u):=⟨CO h1.h h2.h⟩
theorem mX{st:Stmt}{ts:TS}(h1:QS X st ts):QSs X [st] ts:=⟨IC h1.h⟩
theorem mG {i:Nat} {x:Str} {pos':Pos} (hN:X.N.Nodup) (hi:X.N[i]? =some x) (hx:JA X.env.scope x) (he:QE X e te) (hs:swapsWith e (some (.Name x pos')) pos.line X.env=pure false) (hf:X.fn x=true\/X.env.scope.names.lookup x=some .local) :
  QS X (.Assign [.Name x pos'] e pos) (DF te (l7 i)):=⟨PU hN hi hx he.h hs hf⟩
theorem FO {tg:Expr} {g:TG} (he:QE X e te) (hg:QG X tg g) (hs:swapsWithSole [tg] e pos.line X.env=pure false:=by rfl) (hw:swappedStores [tg] e X.env=pure none:=by rfl)
  (h1:(assignEach [tg] X.env).map (·.2)=[assign tg X.env]:=by rfl):QS X (.Assign [tg] e pos) (DF te g):=⟨A6 he.h hg.h hs hw h1⟩
theorem Q7{th el:List Stmt}{ts u:TS}(hc:QT X c tA)(ha:QSs X th ts)(hb:QSs X el u):QS X (.If c th el pos) (WL tA ts u):=⟨XM hc.h ha.h hb.h⟩
theorem FP(he:QE X e te):QS X (.Return (some e) pos) (WQ te):=⟨FI he.h⟩
theorem a13 {tg iter:Expr} {body:List Stmt} {wi:TI} {g:TG} {ts:TS} (hp:PassesOwn (model X.prog X.w) X.A X.env X.xe) (hc:X.calm=true) (hi:QI X tg iter wi) (hg:QG X tg g) (hb:QSs X body ts)
  (hs:∀x,foldedSetIterable iter X.env x=pure x:=by intro _;rfl):QS X (.For tg iter body [] pos) (RF wi g ts):=⟨PR hp hc hi.h hg.h hb.h hs⟩
theorem Q0{i:Nat}{x:Str}(hN:X.N[i]? =some x)(hv:a5N X.env.scope x)(hd:(x==("__debug__" : Str))=false)(hcd:(x==("__classdict__" : Str))=false):QE X (.Name x pos) (eV i):=⟨a0N hN hv hd hcd⟩
end
theorem PZ{X:Cx}{b:List Stmt}{t:TS}{D:Ends}{σ:St}{H:Hp}(h:QSs X b t)(q:t D σ H):∃t,wV X b t/\t D σ H:=⟨t,h.h,q⟩
structure LcOk(N:List Str)(osc scope:Scope)(N':List Str)(n:Nat)(cap:List Nat):Prop where
 kind:scope.kind= .function
 nocell:∀y∈scope.names,y.2≠ .cell
 names:∀y∈scope.names,y.2= .local->scope.names.lookup y.1=some .local
 frees:∀y∈scope.names,y.2= .free->osc.names.lookup y.1=some .cell
 caps:N'.drop n=cap.map λi=>N.getD i Str.empty
 capl:∀i∈cap,i<N.length
 capf:∀x∈N'.drop n,scope.names.lookup x=some NameKind.free
 len:N'.length=n+cap.length
def JT(scope:Scope)(env:Env):List (Str×Ac):=(scope.names.filter λy=>y.2== .free).reverse.map λy=>(y.1,(env.cells.lookup y.1).getD 0)
theorem oJ {env:Env}:∀(ys:List (Str×NameKind)) (acc:List (Str×Addr)),(∀y∈ys,y.2= .free->∃c,env.cells.lookup y.1=some c)->
  (forIn ys acc λ(y:Str×NameKind) (r:List (Str×Addr))=>(if (y.2==NameKind.free)=true then do let a <- cellOf env y.1;pure (ForInStep.yield ((y.1,a)::r)) else pure (ForInStep.yield r):Sem (ForInStep (List (Str×Addr)))))=
   (pure ((ys.filter λy=>y.2== .free).reverse.map (λy=>(y.1,(env.cells.lookup y.1).getD 0))++acc):Sem (List (Str×Ac)))
 |[],acc,_=>by simp
 | y::r,acc,h=>by
  have ih:=λa=>oJ r a λz hz=>h z (a0k _ hz)
  rw[a5q]
  by_cases e:y.2= .free
  ·obtain⟨c,hc⟩:=h y a0m e
   have e':(y.2==NameKind.free)=true:=by simpa using e
   rw[if_pos e']
   have h1:cellOf env y.1=(pure c:Sem Ac):=by unfold cellOf;rw[hc]
   rw[h1]
   simp only[pure_bind]
   rw[ih,a1t,if_pos e']
   simp[hc]
  ·have e':¬(y.2==NameKind.free)=true:=by simpa using e
   rw[if_neg e']
   simp only[pure_bind]
   rw[ih,a1t,if_neg e']
theorem kF{scope:Scope}{env:Env}(h:∀y∈scope.names,y.2= .free->∃c,env.cells.lookup y.1=some c):closureFor scope env=pure (JT scope env):=by
 have e:=oJ (env:=env) scope.names [] h
 rw[a5r] at e
 unfold closureFor
 refine Eq.trans (congrArg (λm=>m >>=λr=>(pure r:Sem (List (Str×Ac)))) ?_) (pure_bind (JT scope env) _)
 exact e
theorem iK {α:Type}:∀ {l:List (Str×α)} {x:Str} {c:α},l.lookup x=some c->(x,c)∈l
 | (a,b)::r,x,c,h=>by
  rw[a3a] at h
  by_cases e:x=a
  ·subst e
   simp at h
   subst h
   exact a0m
  ·have e':(x==a)=false:=by simpa using e
   rw[e'] at h
   exact a0k _ (iK h)
theorem nJ {α:Type}:∀ {l:List (Str×α)} {x:Str} {c:α},(x,c)∈l->∃d,l.lookup x=some d
 | (a,b)::r,x,c,h=>by
  rw[a3a]
  by_cases e:x=a
  ·exact⟨b,by simp[e]⟩
  ·have e':(x==a)=false:=by simpa using e
   rw[e']
   rcases a0q.mp h with z|z
   ·cases z;exact absurd rfl e
   ·exact nJ z
theorem lW{scope:Scope}{env:Env}(h:∀y∈scope.names,y.2= .free->∃c,env.cells.lookup y.1=some c){x:Str}{c:Addr}(e:(JT scope env).lookup x=some c):env.cells.lookup x=some c:=by
 obtain⟨y,hy,hz⟩:=a0p.mp (iK e)
 have hy':=a2f.mp (a6a.mp hy)
 obtain⟨d,hd⟩:=h y hy'.1 (by simpa using hy'.2)
 rw[hd] at hz
 cases hz
 exact hd
theorem BD{scope:Scope}{env:Env}{x:Str}(h:(x,NameKind.free)∈scope.names):∃c,(JT scope env).lookup x=some c:=
 nJ (a0p.mpr ⟨(x,.free),a6a.mpr (a2f.mpr ⟨h,by rfl⟩),rfl⟩)
def b6(X:Cx)(N':List Str)(scope:Scope)(C:Addr)(s:Shared)(H:Hp)(fp:List Addr):Cx where
 prog:=X.prog
 w:=X.w
 K:=X.K
 mg:=X.mg
 base:=X.base
 A:=X.A
 N:=N'
 s₀:=s
 H₀:=H
 env:=compEnvC scope (JT scope X.env) C X.env
 outer:=X.stack
 stack:=X.stack
 ex:=fp
 fn:=λ_=>false
 calm:=X.calm
 pn:=[]
 xe:=λ_ _=>False
def EX(n:Nat)(cap:List Nat)(σ:St):St:=List.replicate n none++cap.map λi=>σ.getD i none
def a6O(tt:TT)(te:TE)(acc:Ac):TS:=λD σ H=>tt σ H λb H1=>if b=true then te σ H1 λv H2=>∃ys,H2 acc=some (.lst ys)/\ys.length<sizeLine/\D.nx σ (bF H2 acc (.lst (ys++[v]))) else D.nx σ H1
def a6N(wi:TI)(g:TG)(tt:TT)(te:TE)(n:Nat)(cap:List Nat):TE:=λσ H Q=>wi σ H λJ H1=>∀acc,H1 acc=none->
 oE J g (a6O tt te acc) {nx:=λ_ H'=>Q (.ref acc) H',rt:=λ_ _=>False} (EX n cap σ) (bF H1 acc (.lst []))
def M7 (X:Cx) (ifs:List Expr) (t:TT):Prop:=
 ∀ (pins:List (Addr×Obj)) (s:Shared) (σ:St) (H:Hp) (Q:Bool->Hp->Prop),Inv X pins σ H s->t σ H Q->
  wpAny (model X.prog X.w) X.A (forIn ifs true λc r=>if r=true then do let ok <- isTrue c X.env (eval c X.env);pure (ForInStep.yield ok) else pure (ForInStep.yield r)) (TP X pins σ Q) X.xe s
def a4Q:TT:=λ_ H Q=>Q true H
theorem VL{X:Cx}:M7 X [] a4Q:=λ_ _ _ H _ I h=>wpAny_tests_nil ⟨H,I,h⟩
theorem VM{X:Cx}{c:Expr}{t:TT}(h:PT X c t):M7 X [c] t:=λpins s σ H Q I q=>wpAny_tests_one (h pins s σ H Q I q)
theorem tF{P:Program}{w:World}{H:Hp}{h h':Heap}{C:Addr}(ok:mP P w H h)(hC:H C=none)(hs:Heap.SameBut C h h'):mP P w H h':=λb ob e=>by
 refine (ok b ob e).stay (λc u hc q=>(hs.2 c ?_).trans q) (λ_ q=>q) λ_ _ q=>q
 rintro rfl
 rcases hc with rfl|hc
 ·rw[hC] at e;cases e
 ·rw[hC] at hc;cases hc
section
variable{X:Cx}{elt target iter:Expr}{ifs:List Expr}{scope:Scope}{pos:Pos}{N':List Str}{n:Nat}{cap:List Nat}{wi:TI}{g:TG}{tt:TT}{te:TE}
theorem oQ {pins:List (Addr×Obj)} {σ:St} {H:Hp} {s:Shared} {h1:Heap} {m0:Str->Option Value} {fp:List Addr} {tk:Nat} (S:LcOk X.N X.env.scope scope N' n cap) (I:Inv X pins σ H s) (hf:∀b∈fp,jD X pins H b) (hfs:∀b∈fp,b<s.heap.objs.size)
  (ns:h1.Ns s.heap.objs.size m0) (k:∀b o,s.heap.get? b=some o->h1.get? b=some o) :
  Inv (b6 X N' scope s.heap.objs.size s H fp) [] (EX n cap σ) H {s with heap:=h1,toks:=tk}:=by
 have hfree:∀y∈scope.names,y.2= .free->∃c,X.env.cells.lookup y.1=some c:=λy hy e=>I.ok.has y.1 (.inl (S.frees y hy e))
 have sub:∀ {x:Str} {c:Ac},(JT scope X.env).lookup x=some c->X.env.cells.lookup x=some c:=λe=>lW hfree e
 have okY:(b6 X N' scope s.heap.objs.size s H fp).Ok:=by
  refine ⟨I.ok.mod,S.kind,I.ok.glob,I.ok.blt,a0l _,λx y c a b=>I.ok.inj x y c (sub a) (sub b),λx hx=>?_,λx c z=>absurd z a0i,I.ok.hd,I.ok.frames,.inl rfl,λb hb=>⟨?_,λx c e=>(hf b hb).2.2.2.2.1 x c (sub e)⟩,
   I.bs,a0y I.ok.bsz I.sz,λb o e hb=>?_,λb hb hs=>?_,I.stack,I.stkFree,I.tb⟩
  ·have mem:(x,NameKind.free)∈scope.names:=by
    have hx':(relabel scope X.env).names.lookup x=some .cell\/(relabel scope X.env).names.lookup x=some .free:=hx
    have go:∀k,(relabel scope X.env).names.lookup x=some k->(k= .cell\/k= .free)->(x,NameKind.free)∈scope.names:=λk e hk=>by
     obtain⟨y,hy,hz⟩:=a0p.mp (iK e)
     obtain⟨yn,yk⟩:=y
     dsimp only at hz
     split at hz
     ·rename_i hc
      cases hz
      have:yk= .free:=by simp at hc;exact hc.1.1
      rw[<- this];exact hy
     ·cases hz
      rcases hk with rfl|rfl
      ·exact absurd rfl (S.nocell _ hy)
      ·exact hy
    rcases hx' with e|e
    ·exact go _ e (.inl rfl)
    ·exact go _ e (.inr rfl)
   exact BD mem
  ·exact a0w (hfs b hb)
  ·rcases (hf b hb).2.2.2.1 with z|z
   ·exact I.ok.noex b o e z
   ·exact absurd (a1d (a0n e) I.ok.bsz) (Nat.not_lt.mpr z)
  ·rcases a0q.mp (I.stkSub b hs) with z|z
   ·exact (hf b hb).2.1 z
   ·exact (hf b hb).2.2.1 z
 refine⟨okY,rfl,⟨I.bare.1,λ_ _ e=>e⟩,Un.kept k,⟨m0,ns,λi x v e1 e2 e3=>?_⟩,λx c e=>?_,I.fresh,λx c e=>I.freeC x c (sub e),λp hp=>absurd hp (by simp[b6]),I.hok.kept k,?_⟩
 ·have e2':(List.replicate n none++cap.map λi=>σ.getD i none)[i]? =some (some v):=e2
  by_cases hi:i<n
  ·rw[a1f (by simpa using hi),a2e] at e2'
   split at e2'<;>cases e2'
  ·rw [a1i (by simpa using a4n hi),a1z,a0g] at e2'
   cases hc:cap[i-n]? with
   |none=>rw[hc] at e2';cases e2'
   | some j=>
    rw[hc] at e2'
    have ev:σ.getD j none=some v:=a1j e2'
    have ex':(N'.drop n)[i-n]? =some x:=by rw[List.getElem?_drop,show n+(i-n)=i by omega];exact e1
    have exN:X.N[j]? =some x:=by
     rw[S.caps,a0g,hc] at ex'
     have hj:=S.capl j (a0u hc)
     have z:X.N.getD j Str.empty=x:=a1j ex'
     rw[a0c,a0a hj] at z
     rw[a0a hj]
     exact congrArg some z
    have eσ:σ[j]? =some (some v):=by
     rw[a0c] at ev
     cases q:σ[j]? with
     |none=>rw[q] at ev;cases ev
     |some o=>rw[q] at ev;exact congrArg some ev
    have lf:=S.capf x (a0u ex')
    have mem:=iK lf
    have kx:X.env.kindOf x=some .cell:=S.frees _ mem rfl
    obtain⟨m,_,hl⟩:=I.loc
    obtain⟨u,ru,lu⟩:=hl j x v exN eσ (.inr (.inl kx))
    refine⟨u,ru,.inr ⟨?_,?_⟩⟩
    ·rcases e3 with z|z|z
     ·
      exfalso
      obtain⟨y,hy,hz⟩:=a0p.mp (iK (show (relabel scope X.env).names.lookup x=some .local from z))
      obtain⟨yn,yk⟩:=y
      dsimp only at hz
      split at hz
      ·cases hz
      ·cases hz
       have l1:=S.names _ hy rfl
       rw[lf] at l1
       cases l1
     ·exact .inl z
     ·exact .inr z
    ·rcases lu with ⟨kl,_⟩|⟨_,c,hc',hcell⟩
     ·rw[kx] at kl;cases kl
     ·obtain⟨d,hd⟩:=BD (env:=X.env) mem
      have:=sub hd
      rw[hc'] at this
      cases this
      obtain⟨oc,h1',h2'⟩:=hcell
      exact⟨c,hd,oc,k c oc h1',h2'⟩
 ·obtain⟨v,oc,h1',h2'⟩:=I.cell x c (sub e)
  exact⟨v,oc,k c oc h1',h2'⟩
 ·show (List.replicate n none++cap.map λi=>σ.getD i none).length=N'.length
  rw[S.len];simp
theorem HJ {prog:Program} {w:World} {A:Around} {R:Result->Shared->Prop} {s:Shared} {it acc:Value} {env:Env} (I:Nat->Shared->Prop)
  (turn:∀n s,I n s->wpAny (model prog w) A (pyNext it) (λr s1=>match r with
   |none=>R (.ok .next) s1
   | some v=>wpAny (model prog w) A (letOwnedTupleGo target it v) (λ_ s2=>wpAny (model prog w) A (assign target env v) (λ_ s3=>
     wpAny (model prog w) A (forIn ifs true λc r=>if r=true then do let ok <- isTrue c env (eval c env);pure (ForInStep.yield ok) else pure (ForInStep.yield r)) (λok s4=>
      if ok=true then wpAny (model prog w) A (eval elt env) (λx s5=>wpAny (model prog w) A (call (.builtin "list.append") [acc,x]) (λ_ s6=>∃m,m<n/\I m s6) (λ_ _=>False) s5) (λ_ _=>False) s4
      else ∃m,m<n/\I m s4) (λ_ _=>False) s3) (λ_ _=>False) s2) (λ_ _=>False) s1) (λ_ _=>False) s)
  (n:Nat) (h:I n s):codeAny (model prog w) A (.compLoop (.ListComp elt [⟨target,iter,ifs,0⟩] scope pos) 0 it acc env) R s:=by
 refine codeAny_loop rfl I (λn s hI=>?_) n h
 refine wpAny_noted (env:=env) (m:=compTurn (.ListComp elt [⟨target,iter,ifs,0⟩] scope pos) 0 it acc env) ?_
 rw[compTurn_list]
 have up:∀ {α:Type} {t:Sem α} {Q:α->Shared->Prop} {E:Value->Shared->Prop} {s:Shared},wpAny (model prog w) A t Q (λ_ _=>False) s->wpAny (model prog w) A t Q E s:=
  λh=>a1l h (λ_ _ q=>q) λ_ _ z=>z.elim
 refine a0b (a3w (a0b (a1l (turn n s hI) (λr s1 h1=>?_) λ_ _ z=>z.elim)))
 cases r with
 |none=>exact a0e h1
 | some v=>
  refine a0b (a1l h1 (λ_ s2 h2=>?_) λ_ _ z=>z.elim)
  refine a0b (a1l h2 (λ_ s3 h3=>?_) λ_ _ z=>z.elim)
  refine a0b (a1l h3 (λok s4 h4=>?_) λ_ _ z=>z.elim)
  cases ok with
  |false=>exact a0e ⟨rfl,h4⟩
  | true=>
   refine a0b (a0b (a1l h4 (λx s5 h5=>?_) λ_ _ z=>z.elim))
   exact a0b (a1l h5 (λ_ s6 h6=>a0e (a0e ⟨rfl,h6⟩)) λ_ _ z=>z.elim)
theorem a3U (hc:X.calm=true) (S:LcOk X.N X.env.scope scope N' n cap) (hi:PI X target iter wi) (hg:∀C s H fp,PG (b6 X N' scope C s H fp) target g)
  (ht:∀C s H fp,M7 (b6 X N' scope C s H fp) ifs tt) (he:∀C s H fp,PE (b6 X N' scope C s H fp) elt te) (hs:∀x,foldedSetIterable iter X.env x=pure x:=by intro _;rfl) :
  PE X (.ListComp elt [⟨target,iter,ifs,0⟩] scope pos) (a6N wi g tt te n cap):=by
 intro pins s σ H Q I h
 have hfree:∀y∈scope.names,y.2= .free->∃c,X.env.cells.lookup y.1=some c:=λy hy e=>I.ok.has y.1 (.inl (S.frees y hy e))
 rw[eval_ListComp]
 refine a4z (use:=none) rfl hs (kF hfree) S.kind S.names ?_
 refine cO (hi pins s σ H _ I h) λv s1 h1=>cO h1 λitv s2 h2=>?_
 obtain⟨it,fp,tn,J,H2,rfl,I2,T,st2,f2,body⟩:=h2
 refine a1u ?_
 have I3:=I2.lnew (ys:=[]) (its:=[]) (t':=s2.toks) .nil (a3c _)
 have hacc:H2 s2.heap.objs.size=none:=I2.fresh
 obtain⟨W,⟨m0,w0⟩,turn⟩:=body _ hacc
 have hlt:∀b∈fp,b<s2.heap.objs.size:=λb hb=>by
  obtain⟨o,e,_⟩:=T.obj 0 _ st2 b hb
  exact a0n e
 have hf3:∀b∈fp,jD X pins (bF H2 s2.heap.objs.size (.lst [])) b:=λb hb=>
  ⟨by rw[aH (a0w (hlt b hb))];exact (f2 b hb).1,(f2 b hb).2⟩
 refine a5t S.nocell (by intro y hy;cases hy) (λh4 ns4 sb4=>?_) S.kind
 generalize hs3:({s2 with heap:=s2.heap.push {cls:=.type "list",dict:=none,data:=.seq ([]:List Value).toArray} }:Ab)=s3 at*
 have hsz:s2.heap.objs.size<s3.heap.objs.size:=by rw[<- hs3,a3n];exact a3m _
 have k4:∀b o,s3.heap.get? b=some o->h4.get? b=some o:=λb o e=>(sb4.2 b (a0w (a0n e))).trans (a0f _ e)
 generalize hH3:bF H2 s2.heap.objs.size (.lst [])=H3 at*
 have I3':Inv X pins σ H3 s3:=I3
 have IY:=oQ (tk:=s3.toks+([]:List (Str×Value)).length) S I3' hf3 (λb hb=>a2t (hlt b hb) hsz) ns4 k4
 have fpY:∀H':Hp,(∀b∈fp,H' b=none)->∀b∈fp,jD (b6 X N' scope s3.heap.objs.size s3 H3 fp) [] H' b:=λH' hn b hb=>by
  obtain⟨_,f1,f2',f3,f4,f5⟩:=hf3 b hb
  refine⟨hn b hb,a0w (a2t (hlt b hb) hsz),λz=>?_,.inl hb,λx c e=>f4 x c (lW hfree e),λp hp=>absurd hp (by simp[b6])⟩
  rcases a0q.mp (I3'.stkSub b z) with z|z
  ·exact f1 z
  ·exact f2' z
 have tn4:tn 0 h4:=T.keep 0 _ _ st2 λb hb o e=>k4 b o (by rw[<- hs3];exact a0f _ e)
 have loop:codeAny (model X.prog X.w) X.A (.compLoop (.ListComp elt [⟨target,iter,ifs,0⟩] scope pos) 0 (.ref it) (.ref s2.heap.objs.size) (b6 X N' scope s3.heap.objs.size s3 H3 fp).env)
   (compPost (model X.prog X.w) X.A X.xe none (EP X pins σ Q) (.ref s2.heap.objs.size) s3.heap.objs.size) {s3 with heap:=h4,toks:=s3.toks+([]:List (Str×Value)).length}:=by
  refine HJ (λk s'=>∃i σ' H',Inv (b6 X N' scope s3.heap.objs.size s3 H3 fp) [] σ' H' s'/\tn i s'.heap/\(∀b∈fp,H' b=none)/\W i k σ' H') ?_ m0 ⟨0,_,_,IY,tn4,λb hb=>(hf3 b hb).1,w0⟩
  rintro k s5 ⟨i,σ5,H5,I5,st5,fr5,w5⟩
  rcases turn i k σ5 H5 w5 with ⟨stop,qn⟩|⟨go,Nn,hN,step⟩
  ·refine a1l (T.done (b6 X N' scope s3.heap.objs.size s3 H3 fp) rfl rfl rfl hc i [] s5 σ5 H5 (λ_ _=>False) I5 (fpY H5 fr5) st5 stop) (λr s6 hr=>?_) (λ_ _ z=>z)
   obtain⟨rfl,I6⟩:=hr
   obtain⟨m,hn,_⟩:=I6.loc
   refine⟨m,hn,λh' hs'=>⟨.ref s2.heap.objs.size,H5,?_,rfl,qn⟩⟩
   have ub:=I6.base
   have ne:∀b o,s3.heap.get? b=some o->b≠s3.heap.objs.size:=λb o e=>a0w (a0n e)
   refine I3'.call' (s':={s6 with heap:=h'}) (ch:=fp) I6.os ⟨λb o e z1 z2 z3=>(hs'.2 b (ne b o e)).trans (ub.keep b o e z1 z2 z3),λb o e z1 z2 z3=>?_,ub.free,λb o e z=>?_,ub.tups,ub.frzs,ub.tbls⟩ (tF I6.hok I6.free hs') I6.bare λb hb=>⟨(hf3 b hb).2.2.2.1,(hf3 b hb).2.1,(hf3 b hb).2.2.2.2.1,(hf3 b hb).2.2.2.2.2⟩
   ·obtain⟨sl,e'⟩:=ub.slot b o e z1 z2 z3
    exact⟨sl,(hs'.2 b (ne b o e)).trans e'⟩
   ·obtain⟨o',e'⟩:=ub.there b o e z
    exact⟨o',(hs'.2 b (ne b o e)).trans e'⟩
  ·refine a1l (T.item (b6 X N' scope s3.heap.objs.size s3 H3 fp) rfl rfl rfl hc i [] s5 σ5 H5 (λ_ _=>False) I5 (fpY H5 fr5) st5 go) (λr s6 h6=>?_) (λ_ _ z=>z)
   obtain⟨u,rfl,h6⟩:=h6
   refine a1l h6 (λ_ s7 h7=>?_) (λ_ _ z=>z)
   obtain⟨x,H7,I7,r7,y7,st7,fr7⟩:=h7
   have I7':=I7.pinned (fpY H7 fr7) (T.obj _ _ st7)
   have again:∀ {σ':St} {H':Hp} {s':Shared},Inv (b6 X N' scope s3.heap.objs.size s3 H3 fp) ([]++o4 fp s7.heap) σ' H' s'->Nn σ' H'->
     ∃m,m<k/\∃i σ' H',Inv (b6 X N' scope s3.heap.objs.size s3 H3 fp) [] σ' H' s'/\tn i s'.heap/\(∀b∈fp,H' b=none)/\W i m σ' H':=fun {σ' H' s'} J7 n7=>by
    obtain⟨m',hm,w7⟩:=hN σ' H' n7
    have pin:∀b∈fp,∀o,s7.heap.get? b=some o->s'.heap.get? b=some o/\H' b=none:=λb hb o e=>by
     have z:=J7.pin (b,o) (a0z _ (a0z _ (eN hb e)))
     exact⟨z.1,z.2.1⟩
    refine⟨m',hm,i+1,σ',H',J7.unpinned,T.keep _ _ _ st7 λb hb o e=>(pin b hb o e).1,λb hb=>?_,w7⟩
    obtain⟨o,e,_⟩:=T.obj _ _ st7 b hb
    exact (pin b hb o e).2
   refine cO (hg _ _ _ _ _ s7 σ5 H7 x u _ I7' r7 (step x H7 y7)) λ_ s8 h8=>?_
   obtain⟨σ8,H8,I8,q8⟩:=h8
   refine cO (ht _ _ _ _ _ s8 σ8 H8 _ I8 q8) λok s9 h9=>?_
   obtain⟨H9,I9,q9⟩:=h9
   cases ok with
   | false=>
    rw[if_neg a0i] at q9 ⊢
    exact again I9 q9
   | true=>
    rw[if_pos rfl] at q9 ⊢
    refine cO (he _ _ _ _ _ s9 σ8 H9 _ I9 q9) λxv s10 h10=>?_
    obtain⟨v',H10,I10,r10,ys,ha,hl,q10⟩:=h10
    refine cO (qK (X:=b6 X N' scope s3.heap.objs.size s3 H3 fp) _ s10 σ8 H10 (.ref s2.heap.objs.size) [v'] (.ref s2.heap.objs.size) [xv] (λ_ H'=>Nn σ8 H') I10 rfl (.cons r10 .nil) ⟨_,ys,v',rfl,rfl,ha,hl,q10⟩) λ_ s11 h11=>?_
    obtain⟨_,H11,I11,_,q11⟩:=h11
    exact again I11 q11
 exact codeAny_compStart_list loop (T.self _ 0 _ _ _ tn4 loop)
end
section
variable{X:Cx}{pins:List (Ac×Obj)}{σ:St}{H:Hp}{s:Ab}
def a1A:List V->Hp->VK->Prop:=λxs H Q=>∃p ns,xs=[.ref p]/\H p=some (.lst (List.map V.int ns))/\Q (.int ns.sum) H
theorem a2N(hc:X.calm=true):eD X (.builtin "sum") a1A:=by
 intro pins s σ H xs us Q I r h
 obtain⟨p,ns,rfl,hp,q⟩:=h
 obtain⟨u,rfl,ru⟩:=j5 r
 cases ru
 obtain⟨_,its,n,v,l,g⟩:=I.lstM hp
 have hi:IntsAre its ns:=uE v
 have hl:s.heap.IsList p its.toArray:=⟨_,g,rfl,n,rfl⟩
 obtain⟨ys,ey⟩:=hi.allInts.items
 rw[ey] at hl
 refine sum_intListG (I.ok.hd hc) hl λh' tk t' hk=>?_
 have e3:numsOf its.toArray.toList=ns:=hi.numsOf
 rw[ey,nums_intItems] at e3
 refine⟨.int ns.sum,H,I.kept hk,⟨t',?_⟩,q⟩
 rw[preSum_eq,a4a (by simp),e3]
theorem sC:∀ {xs:List V} {us:List Value},xs.length=us.length->(∀(i:Nat) (x:V) (u:Value),xs[i]? =some x->us[i]? =some u->bD x u)->b9 xs us
 |[],[],_,_=>.nil
 |x::xs,u::us,h,k=>.cons (k 0 x u rfl rfl) (sC (by simpa using h) λi y v e1 e2=>k (i+1) y v (by simpa using e1) (by simpa using e2))
 |[],_::_,h,_=>by simp at h
 |_::_,[],h,_=>by simp at h
def a6H:List V->Hp->VK->Prop:=λxs H Q=>∃j:Int,xs=[.int j]/\∀p,H p=none->Q (.ref p) (bF H p (.rng 0 j))
theorem SY:eD X (.type "range") a6H:=by
 intro pins s σ H xs us Q I r h
 obtain⟨j,rfl,q⟩:=h
 obtain⟨u,rfl,t,rfl⟩:=j5 r
 refine call_range_1 ?_
 exact⟨.ref s.heap.objs.size,_,I.laid (o:=.rng 0 j) (λb o e=>a0f _ e) (a0l _) ⟨_,_,_,a1b _ rfl⟩,rfl,q _ I.fresh⟩
def rM(m:Nat):List V:=(List.range m).map λ(i:Nat)=>V.int (i:Int)
def a18:List V->Hp->VK->Prop:=λxs H Q=>∃p j,xs=[.ref p]/\H p=some (.rng 0 j)/\(0<=j/\j<=1000)/\∀l,H l=none->Q (.ref l) (bF H l (.lst (rM j.toNat)))
theorem SX (hc:X.calm=true):eD X (.type "list") a18:=by
 intro pins s σ H xs us Q I r h
 obtain⟨p,j,rfl,hp,hj,q⟩:=h
 obtain⟨u,rfl,ru⟩:=j5 r
 cases ru
 obtain⟨t1,t2,t3,g⟩:=(show c5 X.prog X.w H s.heap p (.rng 0 j) from I.hok p _ hp)
 refine call_list_range (I.ok.hd hc) (n:=j.toNat) g (small_one (by decide) (by decide) (by omega) (by omega)) (by rw[rangeSize_one];split<;>omega) (a0y (show j.toNat<=1000 by omega) (by decide)) λh' tk acc' c' hk hS' hacc=>?_
 refine⟨.ref s.heap.objs.size,_,I.laid (o:=.lst (rM j.toNat)) hk (a0l _) ?_,rfl,q _ I.fresh⟩
 have hlen:(rM j.toNat).length=acc'.toList.length:=by
  unfold rM
  rw[a0d,a4j,a0o,hacc.1]
 refine⟨?_,acc'.toList,c',?_,by simpa using hS'⟩
 ·rw[hlen,a0o,hacc.1]
  exact a0y (show j.toNat<=1000 by omega) (by decide)
 ·refine sC hlen λi x v e1 e2=>?_
  obtain⟨t,rfl⟩:=hacc.2 i v (by simpa using e2)
  have:x= .int (i:Int):=by
   unfold rM at e1
   rw[a0g] at e1
   cases z:(List.range j.toNat)[i]? with
   |none=>rw[z] at e1;cases e1
   | some y=>
    rw[z] at e1
    have hy:y=i:=by
     have:=(a0j.mp z).2
     simp at this;exact this.symm
    rw[hy] at e1
    exact (a1j e1).symm
  rw[this]
  exact⟨t,by rw[a6t,Int.zero_add]⟩
end
theorem gV {env:Env} (hk:env.scope.kind= .function):∀ {names:List (Str×NameKind)} {x:Str},names.lookup x=some .free->env.scope.names.lookup x=some .cell->
  (names.map λ(n,k)=>if (k==NameKind.free&&env.scope.kind== .function&&env.kindOf n==some .cell) then (n,NameKind.cell) else (n,k)).lookup x=some .cell
 | (n,k)::r,x,h,ho=>by
  rw[a3a] at h
  rw[a0h]
  by_cases e:x=n
  ·subst e
   rw[beq_self_eq_true] at h
   cases (a1j h:k= .free)
   have hc:(NameKind.free==NameKind.free&&env.scope.kind== .function&&env.kindOf x==some .cell)=true:=by
    rw[hk,show env.kindOf x=some .cell from ho];rfl
   dsimp only
   rw[if_pos hc,a3a]
   simp
  ·have e':(x==n)=false:=by simpa using e
   rw[e'] at h
   have ih:=gV hk (names:=r) (x:=x) h ho
   dsimp only
   split
   ·rw[a3a,e'];exact ih
   ·rw[a3a,e'];exact ih
theorem iW {env:Env}:∀ {names:List (Str×NameKind)} {x:Str},names.lookup x=some .globalImplicit->
  (names.map λ(n,k)=>if (k==NameKind.free&&env.scope.kind== .function&&env.kindOf n==some .cell) then (n,NameKind.cell) else (n,k)).lookup x=some .globalImplicit
 | (n,k)::r,x,h=>by
  rw[a3a] at h
  rw[a0h]
  by_cases e:x=n
  ·subst e
   rw[beq_self_eq_true] at h
   cases (a1j h:k= .globalImplicit)
   dsimp only
   rw[if_neg (by simp),a3a]
   simp
  ·have e':(x==n)=false:=by simpa using e
   rw[e'] at h
   have ih:=iW (env:=env) (names:=r) (x:=x) h
   dsimp only
   split
   ·rw[a3a,e'];exact ih
   ·rw[a3a,e'];exact ih
section
variable{X:Cx}{N':List Str}{scope:Scope}{C:Ac}{s:Ab}{H:Hp}{fp:List Ac}{i:Nat}{x:Str}{pos:Pos}
theorem a42(hN:N'.Nodup)(hi:N'[i]? =some x)(h:scope.names.lookup x=some .local):QG (b6 X N' scope C s H fp) (.Name x pos) (l7 i):=IH hN hi (Or.inl (a7c h)) (Or.inr (a7c h))
theorem Q5(hi:N'[i]? =some x)(h:scope.names.lookup x=some .local)(hd:(x==("__debug__" : Str))=false)(hcd:(x==("__classdict__" : Str))=false):QE (b6 X N' scope C s H fp) (.Name x pos) (eV i):=Q0 hi (Or.inl (a7c h)) hd hcd
theorem Q1(hi:N'[i]? =some x)(h:scope.names.lookup x=some .free)(hk:X.env.scope.kind= .function)(ho:X.env.scope.names.lookup x=some .cell)(hd:(x==("__debug__" : Str))=false)(hcd:(x==("__classdict__" : Str))=false):QE (b6 X N' scope C s H fp) (.Name x pos) (eV i):=
 Q0 hi (Or.inr (Or.inl (gV hk h ho))) hd hcd
theorem a41(h:scope.names.lookup x=some .globalImplicit):(b6 X N' scope C s H fp).env.scope.names.lookup x=some .globalImplicit:=iW h
end
section
variable{X:Cx}{elt target iter:Expr}{ifs:List Expr}{scope:Scope}{pos:Pos}{N':List Str}{n:Nat}{cap:List Nat}{wi:TI}{g:TG}{tt:TT}{te:TE}
theorem FL(hc:X.calm=true):QC X (.builtin "sum") a1A:=⟨a2N hc⟩
end
inductive PV where
 |non|bl (b:Bool)|int (i:Int)|str (x:Str)|ty (n:String)|st
 |scr (ns:List Int)
 |set (S:Int->Bool) (n:Nat)
 |lst (xs:List PV)|tup (xs:List PV)|dic (ks:List bA) (xs:List PV)
mutual
def PV.flat:PV->Bool
 |.lst _=>false
 |.dic _ _=>false
 |.st=>false
 |.scr _=>false
 |.tup xs=>PV.flats xs
 |_=>true
def PV.flats:List PV->Bool
 |[]=>true
 |x::xs=>x.flat&&PV.flats xs
end
theorem PV.flats_all:∀ {xs:List PV},PV.flats xs=true->∀x∈xs,x.flat=true
 | x::xs,h,y,hy=>by
  rw[PV.flats,a1g] at h
  rcases a0q.mp hy with rfl|hy
  ·exact h.1
  ·exact PV.flats_all h.2 y hy
 |[],_,y,hy=>by cases hy
theorem PV.flats_of:∀ {xs:List PV},(∀x∈xs,x.flat=true)->PV.flats xs=true
 |[],_=>by rw[PV.flats]
 |x::xs,h=>by rw[PV.flats,a1g];exact⟨h x a0m,PV.flats_of λy hy=>h y (a0k _ hy)⟩
def HO.imm:HO->Bool
 |.tup _=>true
 |.set _ _=>true
 |_=>false
inductive Rep(G:Addr->Prop)(H:Hp):V->PV->Prop where
 |non:Rep G H .non .non
 |bl (b:Bool):Rep G H (.bl b) (.bl b)
 |int (i:Int):Rep G H (.int i) (.int i)
 |str (x:Str):Rep G H (.str x) (.str x)
 |ty (n:String):Rep G H (.ty n) (.ty n)
 |set {a:Ac} {S:Int->Bool} {n:Nat}:H a=some (.set S n)->Rep G H (.ref a) (.set S n)
 |lst {a:Ac} {vs:List V} {xs:List PV}:G a->H a=some (.lst vs)->vs.length=xs.length->(∀(i:Nat) (v:V) (x:PV),vs[i]? =some v->xs[i]? =some x->Rep G H v x)->Rep G H (.ref a) (.lst xs)
 |tup {a:Ac} {vs:List V} {xs:List PV}:H a=some (.tup vs)->vs.length=xs.length->(∀(i:Nat) (v:V) (x:PV),vs[i]? =some v->xs[i]? =some x->Rep G H v x)->Rep G H (.ref a) (.tup xs)
 |dic {a:Ac} {ks:List bA} {vs:List V} {xs:List PV}:G a->H a=some (.dK (ks.zip vs))->ks.length=vs.length->vs.length=xs.length->(∀(i:Nat) (v:V) (x:PV),vs[i]? =some v->xs[i]? =some x->Rep G H v x)->Rep G H (.ref a) (.dic ks xs)
structure Reps(G:Addr->Prop)(H:Hp)(vs:List V)(xs:List PV):Prop where
 len:vs.length=xs.length
 at_:∀(i:Nat) (v:V) (x:PV),vs[i]? =some v->xs[i]? =some x->Rep G H v x
inductive Body(G:Addr->Prop)(H:Hp):HO->PV->Prop where
 |lst {vs:List V} {xs:List PV}:Reps G H vs xs->Body G H (.lst vs) (.lst xs)
 |dic {ks:List bA} {vs:List V} {xs:List PV}:ks.length=vs.length->Reps G H vs xs->Body G H (.dK (ks.zip vs)) (.dic ks xs)
section
variable{G G':Ac->Prop}{H H':Hp}{v:V}{x:PV}{vs us:List V}{xs ys:List PV}
theorem Rep.mono(r:Rep G H v x)(hG:∀a,G a->G' a)(hk:∀a o,(G a\/o.imm=true)->H a=some o->H' a=some o):Rep G' H' v x:=by
 induction r with
 |non=>exact .non
 |bl b=>exact .bl b
 |int i=>exact .int i
 |str x=>exact .str x
 |ty n=>exact .ty n
 |set e=>exact .set (hk _ _ (.inr rfl) e)
 |lst g e l _ ih=>exact .lst (hG _ g) (hk _ _ (.inl g) e) l ih
 |tup e l _ ih=>exact .tup (hk _ _ (.inr rfl) e) l ih
 |dic g e l1 l _ ih=>exact .dic (hG _ g) (hk _ _ (.inl g) e) l1 l ih
theorem Rep.weak(r:Rep G H v x)(hG:∀a,G a->G' a):Rep G' H v x:=r.mono hG λ_ _ _ e=>e
theorem Reps.mono(r:Reps G H vs xs)(hG:∀a,G a->G' a)(hk:∀a o,(G a\/o.imm=true)->H a=some o->H' a=some o):Reps G' H' vs xs:=
 ⟨r.len,λi v x e1 e2=>(r.at_ i v x e1 e2).mono hG hk⟩
theorem Reps.weak(r:Reps G H vs xs)(hG:∀a,G a->G' a):Reps G' H vs xs:=r.mono hG λ_ _ _ e=>e
theorem Body.mono{o:HO}(r:Body G H o x)(hG:∀a,G a->G' a)(hk:∀a o,(G a\/o.imm=true)->H a=some o->H' a=some o):Body G' H' o x:=by
 cases r with
 |lst h=>exact .lst (h.mono hG hk)
 |dic l h=>exact .dic l (h.mono hG hk)
theorem Body.rep{o:HO}{a:Addr}(b:Body G H o x)(g:G a)(e:H a=some o):Rep G H (.ref a) x:=by
 cases b with
 |lst h=>exact .lst g e h.len h.at_
 |dic l h=>exact .dic g e l h.len h.at_
theorem Rep.flat (r:Rep G H v x) (h:x.flat=true):Rep (λ_=>False) H v x:=by
 induction r with
 |non=>exact .non
 |bl b=>exact .bl b
 |int i=>exact .int i
 |str x=>exact .str x
 |ty n=>exact .ty n
 |set e=>exact .set e
 |lst g e l _ ih=>rw[PV.flat] at h;cases h
 |dic g e l1 l _ ih=>rw[PV.flat] at h;cases h
 | tup e l _ ih=>
  rw[PV.flat] at h
  exact .tup e l λi v x e1 e2=>ih i v x e1 e2 (PV.flats_all h x (a0u e2))
theorem Reps.nil:Reps G H [] []:=⟨rfl,λi v x e=>by simp at e⟩
theorem Reps.cons(h:Rep G H v x)(r:Reps G H vs xs):Reps G H (v::vs) (x::xs):=⟨by simp[r.len],λi w y e1 e2=>by
 cases i with
 |zero=>simp at e1 e2;subst e1 e2;exact h
 |succ i=>simp at e1 e2;exact r.at_ i w y e1 e2⟩
theorem Reps.append (r:Reps G H vs xs) (q:Reps G H us ys):Reps G H (vs++us) (xs++ys):=⟨by simp[r.len,q.len],λi w y e1 e2=>by
 by_cases h:i<vs.length
 ·rw[a1f h] at e1
  rw[a1f (by rw[<- r.len];exact h)] at e2
  exact r.at_ i w y e1 e2
 ·rw[a1i (by omega)] at e1
  rw[a1i (by rw[<- r.len];omega),<- r.len] at e2
  exact q.at_ _ w y e1 e2⟩
theorem Reps.get(r:Reps G H vs xs){i:Nat}(e:xs[i]? =some x):∃v,vs[i]? =some v/\Rep G H v x:=by
 have h:i<vs.length:=by rw[r.len];exact (a0j.mp e).1
 exact⟨vs[i],a0a h,r.at_ i _ _ (a0a h) e⟩
theorem Reps.getV(r:Reps G H vs xs){i:Nat}(e:vs[i]? =some v):∃x,xs[i]? =some x/\Rep G H v x:=by
 have h:i<xs.length:=by rw[<- r.len];exact (a0j.mp e).1
 exact⟨xs[i],a0a h,r.at_ i _ _ e (a0a h)⟩
theorem Reps.set (r:Reps G H vs xs) (h:Rep G H v x) (j:Nat):Reps G H (vs.set j v) (xs.set j x):=⟨by simp[r.len],λi w y e1 e2=>by
 rw[a2m] at e1 e2
 by_cases hj:j=i
 ·subst hj
  simp only[a6q] at e1 e2
  split at e1
  ·split at e2
   ·cases e1;cases e2;exact h
   ·cases e2
  ·cases e1
 ·rw[if_neg hj] at e1 e2
  exact r.at_ i w y e1 e2⟩
theorem Reps.drop(r:Reps G H vs xs)(n:Nat):Reps G H (vs.drop n) (xs.drop n):=⟨by simp[r.len],λi w y e1 e2=>by
 rw[List.getElem?_drop] at e1 e2;exact r.at_ _ w y e1 e2⟩
theorem Reps.take(r:Reps G H vs xs)(n:Nat):Reps G H (vs.take n) (xs.take n):=⟨by simp[r.len],λi w y e1 e2=>by
 rw[List.getElem?_take] at e1 e2
 split at e1
 ·rename_i h;rw[if_pos h] at e2;exact r.at_ _ w y e1 e2
 ·cases e1⟩
theorem Reps.rep(r:Reps G H vs xs):∀k:Nat,Reps G H (List.replicate k vs).flatten (List.replicate k xs).flatten
 |0=>Reps.nil
 |k+1=>by rw[a3r,a3r,a4k,a4k];exact r.append (Reps.rep r k)
theorem Rep.ofList(r:Rep G H v (.lst xs)):∃a vs,v= .ref a/\G a/\H a=some (.lst vs)/\Reps G H vs xs:=by
 cases r with
 |lst g e l h=>exact⟨_,_,rfl,g,e,l,h⟩
theorem Rep.ofTup(r:Rep G H v (.tup xs)):∃a vs,v= .ref a/\H a=some (.tup vs)/\Reps G H vs xs:=by
 cases r with
 |tup e l h=>exact⟨_,_,rfl,e,l,h⟩
theorem Rep.ofDic{ks:List bA}(r:Rep G H v (.dic ks xs)):∃a vs,v= .ref a/\G a/\H a=some (.dK (ks.zip vs))/\ks.length=vs.length/\Reps G H vs xs:=by
 cases r with
 |dic g e l1 l h=>exact⟨_,_,rfl,g,e,l1,l,h⟩
theorem Rep.ofInt{i:Int}(r:Rep G H v (.int i)):v= .int i:=by cases r;rfl
theorem Rep.ofBl{b:Bool}(r:Rep G H v (.bl b)):v= .bl b:=by cases r;rfl
theorem Rep.ofStr{z:Str}(r:Rep G H v (.str z)):v= .str z:=by cases r;rfl
theorem Rep.ofNon(r:Rep G H v .non):v= .non:=by cases r;rfl
theorem Rep.ofTy{n:String}(r:Rep G H v (.ty n)):v= .ty n:=by cases r;rfl
theorem flats_reps(r:Reps G H vs xs)(h:PV.flats xs=true):Reps (λ_=>False) H vs xs:=⟨r.len,λi v x e1 e2=>(r.at_ i v x e1 e2).flat (PV.flats_all h x (a0u e2))⟩
end
structure Wd where
 K:Aa
 F:Ac->Prop
 S:Ac->Prop
 L:Ac->Prop
 Z:Ac->Prop
structure Wok(W:Wd)(H:Hp):Prop where
 fF:∀a,W.F a->∃o,H a=some o
 sS:∀a,W.S a->a5L H a
 dj:∀a,W.F a->¬W.S a
 zZ:∀a,W.Z a->∃o,H a=some o
 zF:∀a,W.Z a->¬W.F a
 zS:∀a,W.Z a->¬W.S a
structure Go(W:Wd)(H:Hp)(W':Wd)(H':Hp):Prop where
 lF:∀a,W.F a->W'.F a
 lS:∀a,W.S a->W'.S a
 nF:∀a,W'.F a->W.F a\/H a=none
 nS:∀a,W'.S a->W.S a\/H a=none
 kp:∀a o,H a=some o->¬W.S a->H' a=some o
 ok:Wok W' H'
 kk:W'.K=W.K
 kl:W'.L=W.L
 lZ:∀a,W.Z a->W'.Z a
 nZ:∀a,W'.Z a->W.Z a\/H a=none
section
variable{W W' W1 W2:Wd}{H H' H1 H2 B:Hp}{v:V}{x:PV}
theorem Wok.imm(w:Wok W H){a:Addr}{o:HO}(e:H a=some o)(i:o.imm=true):¬W.S a:=λs=>by
 obtain⟨_,_,_,z,_⟩:=w.sS a s
 rw[e] at z;cases z;cases i
theorem Go.refl(h:Wok W H):Go W H W H:=⟨λ_ h=>h,λ_ h=>h,λ_ h=>.inl h,λ_ h=>.inl h,λ_ _ h _=>h,h,rfl,rfl,λ_ h=>h,λ_ h=>.inl h⟩
theorem Go.free (g:Go W H W' H') {a:Addr} (h:H' a=none):H a=none:=by
 cases e:H a with
 |none=>rfl
 | some o=>
  by_cases s:W.S a
  ·obtain⟨_,_,_,z,_⟩:=g.ok.sS a (g.lS a s)
   rw[z] at h;cases h
  ·rw[g.kp a o e s] at h;cases h
theorem Go.trans (g:Go W H W1 H1) (k:Go W1 H1 W2 H2):Go W H W2 H2 where
 lF:=λa h=>k.lF a (g.lF a h)
 lS:=λa h=>k.lS a (g.lS a h)
 nF:=λa h=>by
  rcases k.nF a h with z|z
  ·exact g.nF a z
  ·exact .inr (g.free z)
 nS:=λa h=>by
  rcases k.nS a h with z|z
  ·exact g.nS a z
  ·exact .inr (g.free z)
 kp:=λa o e s=>by
  refine k.kp a o (g.kp a o e s) λz=>?_
  rcases g.nS a z with q|q
  ·exact s q
  ·rw[e] at q;cases q
 ok:=k.ok
 kk:=k.kk.trans g.kk
 kl:=k.kl.trans g.kl
 lZ:=λa h=>k.lZ a (g.lZ a h)
 nZ:=λa h=>by
  rcases k.nZ a h with z|z
  ·exact g.nZ a z
  ·exact .inr (g.free z)
theorem Go.nSS(g:Go W H W' H'){a:Addr}{o:HO}(e:H a=some o)(s:¬W.S a):¬W'.S a:=λz=>by
 rcases g.nS a z with q|q
 ·exact s q
 ·rw[e] at q;cases q
theorem Go.nFF(g:Go W H W' H'){a:Addr}{o:HO}(e:H a=some o)(s:¬W.F a):¬W'.F a:=λz=>by
 rcases g.nF a z with q|q
 ·exact s q
 ·rw[e] at q;cases q
theorem Go.nZZ(g:Go W H W' H'){a:Addr}{o:HO}(e:H a=some o)(s:¬W.Z a):¬W'.Z a:=λz=>by
 rcases g.nZ a z with q|q
 ·exact s q
 ·rw[e] at q;cases q
theorem Go.rep(g:Go W H W' H')(w:Wok W H){G G':Addr->Prop}(hs:∀a,G a->¬W.S a)(hG:∀a,G a->G' a)(r:Rep G H v x):Rep G' H' v x:=
 r.mono hG λa o h e=>g.kp a o e (h.elim (hs a) (w.imm e))
theorem Go.reps(g:Go W H W' H')(w:Wok W H){G G':Ac->Prop}(hs:∀a,G a->¬W.S a)(hG:∀a,G a->G' a){vs:List V}{xs:List PV}(r:Reps G H vs xs):Reps G' H' vs xs:=⟨r.len,λi _ _ e1 e2=>g.rep w hs hG (r.at_ i _ _ e1 e2)⟩
theorem Go.body(g:Go W H W' H')(w:Wok W H){G G':Addr->Prop}(hs:∀a,G a->¬W.S a)(hG:∀a,G a->G' a){o:HO}(r:Body G H o x):Body G' H' o x:=
 r.mono hG λa o h e=>g.kp a o e (h.elim (hs a) (w.imm e))
theorem Go.bw(g:Go W H W' H')(w:Wok W H)(r:Rep (λa=>¬W.S a) H v x):Rep (λa=>¬W'.S a) H' v x:=by
 induction r with
 |non=>exact .non
 |bl b=>exact .bl b
 |int i=>exact .int i
 |str x=>exact .str x
 |ty n=>exact .ty n
 |set e=>exact .set (g.kp _ _ e (w.imm e rfl))
 |lst gg e l _ ih=>exact .lst (g.nSS e gg) (g.kp _ _ e gg) l ih
 |tup e l _ ih=>exact .tup (g.kp _ _ e (w.imm e rfl)) l ih
 |dic gg e l1 l _ ih=>exact .dic (g.nSS e gg) (g.kp _ _ e gg) l1 l ih
end
inductive El where
 |fl|sn|sh
 deriving DecidableEq
def El.G:El->(Addr->Prop)->Hp->Addr->Prop
 |.fl,_,_=>λ_=>False
 |.sn,F,B=>λa=>F a/\B a=none
 |.sh,F,_=>F
def El.le:El->El->Bool
 |.fl,_=>true
 |.sn,.fl=>false
 |.sn,_=>true
 |.sh,.sh=>true
 |.sh,_=>false
theorem El.leG{e e':El}(h:e.le e'=true){F:Addr->Prop}{B:Hp}{a:Addr}(g:e.G F B a):e'.G F B a:=by
 cases e<;>cases e'<;>first|exact g|exact g.elim|exact g.1|cases h
theorem El.GF{e:El}{F:Addr->Prop}{B:Hp}{a:Addr}(g:e.G F B a):F a:=by
 cases e with
 |fl=>exact g.elim
 |sn=>exact g.1
 |sh=>exact g
theorem El.up{e:El}{F F':Addr->Prop}{B B':Hp}{a:Addr}(hF:∀a,F a->F' a)(hB:∀a,B a=none->B' a=none)(g:e.G F B a):e.G F' B' a:=by
 cases e with
 |fl=>exact g
 |sn=>exact⟨hF a g.1,hB a g.2⟩
 |sh=>exact hF a g
inductive Md where
 |no|bw|v (e:El)|o (e:El)|z (e:El)|p (e:El)|c (e:El)|st|scr|n
 deriving DecidableEq
def Md.lent:Md->Bool
 |.bw=>true
 |.p _=>true
 |.c _=>true
 |_=>false
def RepP(G S:Ac->Prop)(H:Hp)(v:V)(x:PV):Prop:=Rep G H v x\/∃a o,v= .ref a/\¬S a/\H a=some o/\Body G H o x
def Md.own:Md->Bool
 |.o _=>true
 |_=>false
def ScrAt(K:PySem.W.Frag)(H:Hp)(a:Addr)(ns:List Int):Prop:=(∃o,H a=some (.frz o (.lst (ns.map V.int))))\/
 ∃(o:Obj) (its:Array Value) (n:Nat),K.lookup a=some o/\o.cls= .type "list"/\o.dict=none/\o.data= .seq its n/\its.size<=sizeLine/\b9 (ns.map V.int) its.toList
theorem ScrAt.sq{K:PySem.W.Frag}{H:Hp}{a:Addr}{ns:List Int}(h:ScrAt K H a ns):d9 K H a (ns.map V.int):=by
 rcases h with h|h
 ·exact .inl (.inr h)
 ·exact .inr h
structure OwnL(e:El)(B H:Hp)(W':Wd)(H':Hp)(a:Addr)(o:HO)(x:PV):Prop where
 new:H a=none
 nF:¬W'.F a
 nS:¬W'.S a
 at_:H' a=some o
 its:Body (e.G W'.F B) H' o x
 nZ:¬W'.Z a
structure FrzL(e:El)(B:Hp)(W':Wd)(H':Hp)(a:Addr)(o:HO)(x:PV):Prop where
 new:B a=none
 F:W'.F a
 at_:H' a=some o
 its:Body (e.G W'.F B) H' o x
def ResE(B H:Hp)(W':Wd)(H':Hp)(m:Md)(v:V)(x:PV):Prop:=
 match m with
 |.no=>True
 |.bw=>Rep (λa=>¬W'.S a) H' v x
 |.v e=>Rep (e.G W'.F B) H' v x
 |.st=>∃p,v= .ref p/\x= .st/\W'.S p
 |.scr=>∃a ns,v= .ref a/\x= .scr ns/\ScrAt W'.K H' a ns
 |.o e=>∃a o,v= .ref a/\OwnL e B H W' H' a o x
 |.z e=>∃a o,v= .ref a/\FrzL e B W' H' a o x
 |.p e=>RepP (e.G W'.F B) W'.S H' v x
 |.c e=>∃a o,v= .ref a/\W'.L a/\¬W'.S a/\H' a=some o/\Body (e.G W'.F B) H' o x
 |.n=>Rep (λa=>W'.Z a/\B a=none) H' v x
section
variable{W W' W1 W2:Wd}{B H H' H1 H2:Hp}{m n:Md}{e e':El}{v:V}{x:PV}
theorem El.nS(w:Wok W H){a:Ac}(g:e.G W.F B a):¬W.S a:=w.dj a (El.GF g)
theorem OwnL.go{a:Addr}{o:HO}(r:OwnL e B H W1 H1 a o x)(w:Wok W1 H1)(g:Go W1 H1 W2 H2):OwnL e B H W2 H2 a o x where
 new:=r.new
 nF:=g.nFF r.at_ r.nF
 nS:=g.nSS r.at_ r.nS
 at_:=g.kp a _ r.at_ r.nS
 its:=g.body w (λ_ h=>El.nS w h) (λ_ h=>El.up g.lF (λ_ z=>z) h) r.its
 nZ:=g.nZZ r.at_ r.nZ
theorem FrzL.go{a:Addr}{o:HO}(r:FrzL e B W1 H1 a o x)(w:Wok W1 H1)(g:Go W1 H1 W2 H2):FrzL e B W2 H2 a o x where
 new:=r.new
 F:=g.lF a r.F
 at_:=g.kp a _ r.at_ (w.dj a r.F)
 its:=g.body w (λ_ h=>El.nS w h) (λ_ h=>El.up g.lF (λ_ z=>z) h) r.its
theorem ResE.go (r:ResE B H W1 H1 m v x) (w:Wok W1 H1) (g:Go W1 H1 W2 H2):ResE B H W2 H2 m v x:=by
 cases m with
 |no=>trivial
 |bw=>exact g.bw w r
 |v e=>exact g.rep w (λ_ h=>El.nS w h) (λ_ h=>El.up g.lF (λ_ z=>z) h) r
 |st=>obtain⟨p,e1,e2,s⟩:=r;exact⟨p,e1,e2,g.lS p s⟩
 | scr=>
  obtain⟨a,ns,e1,e2,s⟩:=r
  refine⟨a,ns,e1,e2,?_⟩
  rcases s with ⟨o,s⟩|s
  ·exact .inl ⟨o,g.kp a _ s λz=>by obtain⟨_,_,_,q,_⟩:=w.sS a z;rw[s] at q;cases q⟩
  ·exact .inr (by rw[g.kk];exact s)
 |o e=>obtain⟨a,ho,e1,q⟩:=r;exact⟨a,ho,e1,q.go w g⟩
 |z e=>obtain⟨a,ho,e1,q⟩:=r;exact⟨a,ho,e1,q.go w g⟩
 | p e=>
  rcases r with r|⟨a,ho,e1,s,h,b⟩
  ·exact .inl (g.rep w (λ_ h=>El.nS w h) (λ_ h=>El.up g.lF (λ_ z=>z) h) r)
  ·exact .inr ⟨a,ho,e1,g.nSS h s,g.kp a _ h s,g.body w (λ_ h=>El.nS w h) (λ_ h=>El.up g.lF (λ_ z=>z) h) b⟩
 | c e=>
  obtain⟨a,ho,e1,l,s,h,b⟩:=r
  exact⟨a,ho,e1,by rw[g.kl];exact l,g.nSS h s,g.kp a _ h s,g.body w (λ_ h=>El.nS w h) (λ_ h=>El.up g.lF (λ_ z=>z) h) b⟩
 |n=>exact g.rep w (λa h=>w.zS a h.1) (λa h=>⟨g.lZ a h.1,h.2⟩) r
theorem ResE.base(g:Go W H W1 H1)(r:ResE B H1 W2 H2 m v x):ResE B H W2 H2 m v x:=by
 cases m with
 |o e=>obtain⟨a,ho,e1,o⟩:=r;exact⟨a,ho,e1,g.free o.new,o.nF,o.nS,o.at_,o.its,o.nZ⟩
 |_=>exact r
def Md.len:Md->Bool
 |.no=>false
 |.st=>false
 |.scr=>false
 |_=>true
theorem Body.lend{G:Addr->Prop}{o:HO}{a:Addr}(b:Body G H o x)(w:Wok W H)(hG:∀a,G a->W.F a)(nS:¬W.S a)(e:H a=some o):Rep (λa=>¬W.S a) H (.ref a) x:=
 (b.mono (G':=λa=>¬W.S a) (λc hc=>w.dj c (hG c hc)) λ_ _ _ e=>e).rep nS e
theorem ResE.lend (r:ResE B H W1 H1 m v x) (w:Wok W1 H1) (hm:m.len=true):Rep (λa=>¬W1.S a) H1 v x:=by
 cases m with
 |no=>cases hm
 |bw=>exact r
 |v e=>exact Rep.weak r λ_ h=>El.nS w h
 |st=>cases hm
 |scr=>cases hm
 |o e=>obtain⟨a,ho,rfl,o⟩:=r;exact o.its.lend w (λ_ h=>El.GF h) o.nS o.at_
 |z e=>obtain⟨a,ho,rfl,o⟩:=r;exact o.its.lend w (λ_ h=>El.GF h) (w.dj a o.F) o.at_
 | p e=>
  rcases r with r|⟨a,ho,rfl,s,h,b⟩
  ·exact Rep.weak r λ_ h=>El.nS w h
  ·exact b.lend w (λ_ h=>El.GF h) s h
 | c e=>
  obtain⟨a,ho,rfl,l,s,h,b⟩:=r
  exact b.lend w (λ_ h=>El.GF h) s h
 |n=>exact Rep.weak r λa h=>w.zS a h.1
def Md.le:Md->Md->Bool
 |.v e,.v e'=>e.le e'
 |.o e,.o e'=>e.le e'
 |.z e,.z e'=>e.le e'
 |.z e,.v .sn=>e.le .sn
 |.z _,.v .sh=>true
 |.v e,.p e'=>e.le e'
 |.o e,.p e'=>e.le e'
 |.z e,.p e'=>e.le e'
 |.p e,.p e'=>e.le e'
 |.c e,.p e'=>e.le e'
 |m,.bw=>m.len
 |_,.no=>true
 |m,n=>decide (m=n)
theorem ResE.le (r:ResE B H W' H' m v x) (w:Wok W' H') (h:m.le n=true):ResE B H W' H' n v x:=by
 cases n with
 |no=>trivial
 |bw=>exact r.lend w (by cases m<;>first|exact h|rfl)
 | v e'=>
  cases m with
  |v e=>exact Rep.weak r λ_ g=>El.leG h g
  | z e=>
   obtain⟨a,ho,rfl,o⟩:=r
   cases e' with
   |fl=>cases h
   |sn=>exact (o.its.mono (G':=El.sn.G W'.F B) (λ_ g=>El.leG (show e.le .sn=true from h) g) λ_ _ _ e=>e).rep ⟨o.F,o.new⟩ o.at_
   |sh=>exact (o.its.mono (G':=El.sh.G W'.F B) (λ_ g=>El.GF g) λ_ _ _ e=>e).rep o.F o.at_
  |_=>cases h
 | o e'=>
  cases m with
  |o e=>obtain⟨a,ho,rfl,o⟩:=r;exact⟨a,ho,rfl,o.new,o.nF,o.nS,o.at_,o.its.mono (λ_ g=>El.leG h g) λ_ _ _ e=>e,o.nZ⟩
  |_=>cases h
 | z e'=>
  cases m with
  |z e=>obtain⟨a,ho,rfl,o⟩:=r;exact⟨a,ho,rfl,o.new,o.F,o.at_,o.its.mono (λ_ g=>El.leG h g) λ_ _ _ e=>e⟩
  |_=>cases h
 | p e'=>
  cases m with
  |v e=>exact .inl (Rep.weak r λ_ g=>El.leG h g)
  |o e=>obtain⟨a,ho,rfl,q⟩:=r;exact .inr ⟨a,ho,rfl,q.nS,q.at_,q.its.mono (λ_ g=>El.leG h g) λ_ _ _ e=>e⟩
  |z e=>obtain⟨a,ho,rfl,q⟩:=r;exact .inr ⟨a,ho,rfl,w.dj a q.F,q.at_,q.its.mono (λ_ g=>El.leG h g) λ_ _ _ e=>e⟩
  | p e=>
   rcases r with r|⟨a,ho,rfl,s,hh,b⟩
   ·exact .inl (Rep.weak r λ_ g=>El.leG h g)
   ·exact .inr ⟨a,ho,rfl,s,hh,b.mono (λ_ g=>El.leG h g) λ_ _ _ e=>e⟩
  | c e=>
   obtain⟨a,ho,rfl,l,s,hh,b⟩:=r
   exact .inr ⟨a,ho,rfl,s,hh,b.mono (λ_ g=>El.leG h g) λ_ _ _ e=>e⟩
  |_=>cases h
 |st=>cases m<;>first|exact r|cases h
 |scr=>cases m<;>first|exact r|cases h
 |n=>cases m<;>first|exact r|cases h
 |c=>cases m<;>first|exact r|cases h|(simp[Md.le] at h;subst h;exact r)
end
abbrev bC:=List (Option PV)
def fE(md:List Md):Bool:=md.all (λm=>!m.lent)||md.all (λm=>!m.own)
theorem gY {md:List Md} (h:fE md=true) {i j:Nat} (hi:(md.getD i .no).own=true):(md.getD j .no).lent=false:=by
 refine Bool.eq_false_iff.mpr ?_
 intro hj
 unfold fE at h
 rw[a2d,a0x,a0x] at h
 rw[a0c] at hi hj
 cases e1:md[i]? with
 |none=>rw[e1] at hi;cases hi
 | some a=>
  cases e2:md[j]? with
  |none=>rw[e2] at hj;cases hj
  | some b=>
   rw[e1] at hi;rw[e2] at hj
   rcases h with h|h
   ·have:=h b (a0u e2)
    simp at this hj;rw[hj] at this;cases this
   ·have:=h a (a0u e1)
    simp at this hi;rw[hi] at this;cases this
structure Rl(K:PySem.W.Frag)(md:List Md)(W0:Wd)(H0:Hp)(W:Wd)(σ:St)(env:bC)(H:Hp):Prop where
 ok0:Wok W0 H0
 go:Go W0 H0 W H
 len:σ.length=env.length
 slot:∀(i:Nat) (x:PV),env[i]? =some (some x)->∃v,σ[i]? =some (some v)/\ResE H0 H0 W H (md.getD i .no) v x
 sep:∀(i j:Nat) (x y:PV) (a:Ac),i≠j->(md.getD i .no).own=true->(md.getD j .no).own=true->env[i]? =some (some x)->env[j]? =some (some y)->σ[i]? =some (some (.ref a))->σ[j]? =some (some (.ref a))->False
 bws:fE md=true
 kk:W.K=K
section
variable{K:Aa}{md md':List Md}{W0 W W' W1:Wd}{H0 H H' H1:Hp}{σ:St}{env:bC}{m:Md}{e:El}{v:V}{x:PV}{i:Nat}
theorem Rl.ok(R:Rl K md W0 H0 W σ env H):Wok W H:=R.go.ok
theorem Rl.step (R:Rl K md W0 H0 W σ env H) (g:Go W H W' H'):Rl K md W0 H0 W' σ env H':=
 ⟨R.ok0,R.go.trans g,R.len,λi x e=>by
  obtain⟨v,h1,h2⟩:=R.slot i x e
  exact⟨v,h1,h2.go R.ok g⟩,R.sep,R.bws,g.kk.trans R.kk⟩
theorem dE {md:List Md} {m:Md} {i j:Nat}:(md.set i m).getD j .no=if i=j/\j<md.length then m else md.getD j .no:=by
 rw[a0c,a2m,a0c]
 by_cases h:i=j
 ·subst h
  by_cases h2:i<md.length
  ·simp[h2]
  ·simp[h2]
 ·simp[h]
theorem Md.ofOwn(h:m.own=true):∃e,m= .o e:=by
 cases m with
 |o e=>exact⟨e,rfl⟩
 |_=>cases h
theorem Rl.set (R:Rl K md W0 H0 W1 σ env H1) (g:Go W1 H1 W H) (r:ResE H0 H1 W H m v x) (hm:fE (md.set i m)=true) (hi:i<md.length):Rl K (md.set i m) W0 H0 W (σ.set i (some v)) (env.set i (some x)) H:=by
 have R':=R.step g
 refine⟨R.ok0,R'.go,by simp[R.len],λj y e=>?_,λj k y z a hjk oj ok ej ek sj sk=>?_,hm,R'.kk⟩
 ·rw [a2m] at e
  by_cases h:i=j
  ·subst h
   rw[if_pos rfl] at e
   split at e
   ·rename_i hl
    cases e
    refine⟨v,by rw[a2m,if_pos rfl,if_pos (by rw[R.len];exact hl)],?_⟩
    rw[dE,if_pos ⟨rfl,hi⟩]
    exact ResE.base R.go r
   ·cases e
  ·rw[if_neg h] at e
   obtain⟨w,h1,h2⟩:=R'.slot j y e
   refine⟨w,by rw[a2m,if_neg h];exact h1,?_⟩
   rw[dE,if_neg (λz=>h z.1)]
   exact h2
 ·rw [dE] at oj ok
  rw[a2m] at ej ek sj sk
  have key:∀(l:Nat) (b:Addr),m.own=true->v= .ref b->(md.getD l .no).own=true->(∃y,env[l]? =some (some y))->σ[l]? =some (some (.ref b))->False:=by
   intro l b om hv ol ⟨y,el⟩ sl
   obtain⟨e,rfl⟩:=Md.ofOwn om
   obtain⟨a',ho,q1,o⟩:=r
   rw[hv] at q1;cases q1
   have nb:=o.new
   obtain⟨w,q1,q2⟩:=R.slot l y el
   rw[sl] at q1;cases q1
   obtain⟨e2,hmd⟩:=Md.ofOwn ol
   rw[hmd] at q2;obtain⟨a',ho2,z1,o2⟩:=q2;cases z1;rw[o2.at_] at nb;cases nb
  by_cases hj:i=j
  ·subst hj
   rw[if_pos ⟨rfl,hi⟩] at oj
   rw[if_neg (λz=>hjk z.1)] at ok
   rw[if_neg hjk] at ek sk
   rw[if_pos rfl] at sj
   split at sj
   ·cases sj;exact key k a oj rfl ok ⟨z,ek⟩ sk
   ·cases sj
  ·rw [if_neg (λz=>hj z.1)] at oj
   rw[if_neg hj] at ej sj
   by_cases hk:i=k
   ·subst hk
    rw[if_pos ⟨rfl,hi⟩] at ok
    rw[if_pos rfl] at sk
    split at sk
    ·cases sk;exact key j a ok rfl oj ⟨y,ej⟩ sj
    ·cases sk
   ·rw[if_neg (λz=>hk z.1)] at ok
    rw[if_neg hk] at ek sk
    exact R.sep j k y z a hjk oj ok ej ek sj sk
theorem Rl.le (R:Rl K md W0 H0 W σ env H) (hl:∀i,(md.getD i .no).le (md'.getD i .no)=true) (ho:∀i,(md'.getD i .no).own=true->(md.getD i .no).own=true) (hk:fE md'=true):Rl K md' W0 H0 W σ env H:=
 ⟨R.ok0,R.go,R.len,λi x e=>by
  obtain⟨v,h1,h2⟩:=R.slot i x e
  exact⟨v,h1,h2.le R.ok (hl i)⟩,λi j x y a hij oi oj=>R.sep i j x y a hij (ho i oi) (ho j oj),hk,R.kk⟩
theorem nY {Hs:Hp} {a:Addr} {o:HO} (w:Wok W H) (q:OwnL e H0 Hs W H a o x) (hb:H0 a=none):Wok {W with F:=λb=>W.F b\/b=a} H/\FrzL e H0 {W with F:=λb=>W.F b\/b=a} H a o x:=by
 refine⟨⟨λb hb=>?_,w.sS,λb hb=>?_,w.zZ,λb hb z=>z.elim (w.zF b hb) λz=>q.nZ (z▸hb),w.zS⟩,hb,.inr rfl,q.at_,?_⟩
 ·rcases hb with hb|rfl
  ·exact w.fF b hb
  ·exact⟨_,q.at_⟩
 ·rcases hb with hb|rfl
  ·exact w.dj b hb
  ·exact q.nS
 ·exact q.its.mono (λ_ g=>El.up (λ_ h=>.inl h) (λ_ z=>z) g) λ_ _ _ e=>e
theorem Go.freeze(g0:Go W0 H0 W H)(g:Go W H W' H')(r:ResE H0 H W' H' (.o e) v x):∃W2,Go W H W2 H'/\ResE H0 H W2 H' (.z e) v x:=by
 obtain⟨a,o,rfl,q⟩:=r
 obtain⟨w,r'⟩:=nY g.ok q (g0.free q.new)
 refine⟨{W' with F:=λb=>W'.F b\/b=a},⟨λb hb=>.inl (g.lF b hb),g.lS,λb hb=>?_,g.nS,g.kp,w,g.kk,g.kl,g.lZ,g.nZ⟩,a,o,rfl,r'⟩
 rcases hb with hb|rfl
 ·exact g.nF b hb
 ·exact .inr q.new
theorem Rl.freeze (R:Rl K md W0 H0 W σ env H) (hm:md.getD i .no= .o e):∃W2,Rl K (md.set i (.z e)) W0 H0 W2 σ env H:=by
 have hil:i<md.length:=by
  refine a5i λh=>?_
  rw[a0c,a2a h] at hm
  cases hm
 have own1:∀j,((md.set i (.z e)).getD j .no).own=true->(md.getD j .no).own=true/\i≠j:=λj h=>by
  rw[dE] at h
  split at h
  ·cases h
  ·rename_i q
   refine⟨h,λz=>?_⟩
   subst z
   exact q ⟨rfl,hil⟩
 have hok:fE (md.set i (.z e))=true:=by
  have h:=R.bws
  unfold fE at h ⊢
  rw[a2d,a0x,a0x] at h ⊢
  rcases h with h|h
  ·refine .inl λm hm=>?_
   rcases a5x hm with z|z
   ·exact h m z
   ·subst z;rfl
  ·refine .inr λm hm=>?_
   rcases a5x hm with z|z
   ·exact h m z
   ·subst z;rfl
 cases ev:env[i]? with
 | none=>
  refine⟨W,⟨R.ok0,R.go,R.len,λj y ej=>?_,λj k y z a hjk oj ok ej ek sj sk=>R.sep j k y z a hjk (own1 j oj).1 (own1 k ok).1 ej ek sj sk,hok,R.kk⟩⟩
  have hij:¬i=j:=λz=>by subst z;rw[ev] at ej;cases ej
  rw[dE,if_neg (λz=>hij z.1)]
  exact R.slot j y ej
 | some ox=>
  cases ox with
  | none=>
   refine⟨W,⟨R.ok0,R.go,R.len,λj y ej=>?_,λj k y z a hjk oj ok ej ek sj sk=>R.sep j k y z a hjk (own1 j oj).1 (own1 k ok).1 ej ek sj sk,hok,R.kk⟩⟩
   have hij:¬i=j:=λz=>by subst z;rw[ev] at ej;cases ej
   rw[dE,if_neg (λz=>hij z.1)]
   exact R.slot j y ej
  | some x=>
   obtain⟨v,sv,r⟩:=R.slot i x ev
   rw[hm] at r
   obtain⟨a,o,e1,q⟩:=r
   subst e1
   obtain⟨w,r'⟩:=nY R.ok q q.new
   refine⟨{W with F:=λb=>W.F b\/b=a},⟨R.ok0,⟨λb hb=>.inl (R.go.lF b hb),R.go.lS,λb hb=>?_,R.go.nS,R.go.kp,w,R.go.kk,R.go.kl,R.go.lZ,R.go.nZ⟩,R.len,λj y ej=>?_,λj k y z a hjk oj ok ej ek sj sk=>R.sep j k y z a hjk (own1 j oj).1 (own1 k ok).1 ej ek sj sk,hok,R.kk⟩⟩
   ·rcases hb with hb|rfl
    ·exact R.go.nF b hb
    ·exact .inr q.new
   ·by_cases hij:i=j
    ·subst hij
     rw[ev] at ej;cases ej
     refine⟨_,sv,?_⟩
     rw[dE,if_pos ⟨rfl,hil⟩]
     exact⟨a,o,rfl,r'⟩
    ·obtain ⟨u,su,ru⟩:=R.slot j y ej
     refine⟨u,su,?_⟩
     rw[dE,if_neg (λz=>hij z.1)]
     cases hmd:md.getD j .no with
     |no=>trivial
     |bw=>have:=gY R.bws (i:=i) (j:=j) (by rw[hm];rfl);rw[hmd] at this;cases this
     |p e'=>have:=gY R.bws (i:=i) (j:=j) (by rw[hm];rfl);rw[hmd] at this;cases this
     |c e'=>have:=gY R.bws (i:=i) (j:=j) (by rw[hm];rfl);rw[hmd] at this;cases this
     |v e'=>rw[hmd] at ru;exact Rep.weak ru λ_ g=>El.up (λ_ h=>.inl h) (λ_ z=>z) g
     |st=>rw[hmd] at ru;exact ru
     |scr=>rw[hmd] at ru;exact ru
     |n=>rw[hmd] at ru;exact ru
     | o e'=>
      rw[hmd] at ru
      obtain⟨b,ob,z1,qb⟩:=ru
      refine⟨b,ob,z1,qb.new,λz=>?_,qb.nS,qb.at_,qb.its.mono (λ_ g=>El.up (λ_ h=>.inl h) (λ_ z=>z) g) (λ_ _ _ e=>e),qb.nZ⟩
      rcases z with z|z
      ·exact qb.nF z
      ·subst z z1
       exact R.sep i j _ _ _ hij (by rw[hm];rfl) (by rw[hmd];rfl) ev ej sv su
     | z e'=>
      rw[hmd] at ru
      obtain⟨b,ob,z1,qb⟩:=ru
      exact⟨b,ob,z1,qb.new,.inl qb.F,qb.at_,qb.its.mono (λ_ g=>El.up (λ_ h=>.inl h) (λ_ z=>z) g) λ_ _ _ e=>e⟩
theorem Rl.ownAt(R:Rl K md W0 H0 W σ env H)(hm:md.getD i .no= .o e)(ev:env[i]? =some (some x)):∃a o,σ[i]? =some (some (.ref a))/\OwnL e H0 H0 W H a o x:=by
 obtain⟨v,sv,r⟩:=R.slot i x ev
 rw[hm] at r
 obtain⟨a,o,e1,q⟩:=r
 subst e1
 exact⟨a,o,sv,q⟩
theorem Rl.put (R:Rl K md W0 H0 W σ env H) (hm:md.getD i .no= .o e) {x':PV} {o':HO} {a:Addr} (ev:env[i]? =some (some x)) (sa:σ[i]? =some (some (.ref a))) (r:Body (e.G W.F H0) H o' x') (hni:o'.imm=false) :
  Rl K md W0 H0 W σ (env.set i (some x')) (bF H a o'):=by
 obtain⟨a',o,sv,q⟩:=R.ownAt hm ev
 rw[sa] at sv;cases sv
 have nim:o.imm=false:=by
  have:=q.its
  cases this<;>rfl
 have ni:∀b u,H b=some u->u.imm=true->b≠a:=λb u e hi z=>by subst z;rw[q.at_] at e;cases e;rw[nim] at hi;cases hi
 have nf:∀b,W.F b->b≠a:=λb f z=>by subst z;exact q.nF f
 have nz:∀b,W.Z b->b≠a:=λb f z=>by subst z;exact q.nZ f
 have keep:∀ {G:Addr->Prop} {u:V} {y:PV},(∀a,G a->W.F a)->Rep G H u y->Rep G (bF H a o') u y:=λhG r=>r.mono (λ_ h=>h) λb u h e=>by
  rw[aH (h.elim (λg=>nf b (hG b g)) (ni b u e))];exact e
 have keepB:∀ {G:Addr->Prop} {u:HO} {y:PV},(∀a,G a->W.F a)->Body G H u y->Body G (bF H a o') u y:=λhG r=>r.mono (λ_ h=>h) λb u h e=>by
  rw[aH (h.elim (λg=>nf b (hG b g)) (ni b u e))];exact e
 have w:Wok W (bF H a o'):=⟨λb hb=>by rw[aH (nf b hb)];exact R.ok.fF b hb,λb hb=>by
  have nb:b≠a:=λz=>by subst z;exact q.nS hb
  obtain⟨x1,x2,x3,e1,e2⟩:=R.ok.sS b hb
  exact⟨x1,x2,x3,by rw[aH nb];exact e1,e2⟩,R.ok.dj,λb hb=>by rw[aH (nz b hb)];exact R.ok.zZ b hb,R.ok.zF,R.ok.zS⟩
 refine⟨R.ok0,⟨R.go.lF,R.go.lS,R.go.nF,R.go.nS,λb u eb sb=>?_,w,R.go.kk,R.go.kl,R.go.lZ,R.go.nZ⟩,by simp[R.len],λj y ej=>?_,λj k y z b hjk oj ok ej ek sj sk=>?_,R.bws,R.kk⟩
 ·have nb:b≠a:=λz=>by subst z;rw[q.new] at eb;cases eb
  rw[aH nb];exact R.go.kp b u eb sb
 ·rw [a2m] at ej
  by_cases hij:i=j
  ·subst hij
   rw[if_pos rfl] at ej
   split at ej
   ·cases ej
    refine⟨_,sa,?_⟩
    rw[hm]
    exact⟨a,o',rfl,q.new,q.nF,q.nS,b5,keepB (λ_ g=>El.GF g) r,q.nZ⟩
   ·cases ej
  ·rw [if_neg hij] at ej
   obtain⟨u,su,ru⟩:=R.slot j y ej
   refine⟨u,su,?_⟩
   cases hmd:md.getD j .no with
   |no=>trivial
   |bw=>have:=gY R.bws (i:=i) (j:=j) (by rw[hm];rfl);rw[hmd] at this;cases this
   |p e'=>have:=gY R.bws (i:=i) (j:=j) (by rw[hm];rfl);rw[hmd] at this;cases this
   |c e'=>have:=gY R.bws (i:=i) (j:=j) (by rw[hm];rfl);rw[hmd] at this;cases this
   |v e'=>rw[hmd] at ru;exact keep (λ_ g=>El.GF g) ru
   | n=>
    rw[hmd] at ru
    have ru':Rep (λa=>W.Z a/\H0 a=none) H u y:=ru
    exact ru'.mono (λ_ h=>h) λb u h e=>by rw[aH (h.elim (λh=>nz b h.1) (ni b u e))];exact e
   |st=>rw[hmd] at ru;exact ru
   | scr=>
    rw[hmd] at ru
    obtain⟨b,ns,e1,e2,z⟩:=ru
    refine⟨b,ns,e1,e2,?_⟩
    rcases z with ⟨oo,z⟩|z
    ·refine .inl ⟨oo,?_⟩
     rw[aH (λy=>?_)];exact z
     subst y
     have b1:=q.its
     have h2:=q.at_
     rw[z] at h2
     cases h2
     cases b1
    ·exact .inr z
   | o e'=>
    rw[hmd] at ru;obtain⟨b,ob,z1,qb⟩:=ru
    have nb:b≠a:=λz=>by subst z;subst z1;exact R.sep i j _ _ _ hij (by rw[hm];rfl) (by rw[hmd];rfl) ev ej sa su
    exact⟨b,ob,z1,qb.new,qb.nF,qb.nS,by rw[aH nb];exact qb.at_,keepB (λ_ g=>El.GF g) qb.its,qb.nZ⟩
   | z e'=>
    rw[hmd] at ru;obtain⟨b,ob,z1,qb⟩:=ru
    exact⟨b,ob,z1,qb.new,qb.F,by rw[aH (nf b qb.F)];exact qb.at_,keepB (λ_ g=>El.GF g) qb.its⟩
 ·have en:∀(l:Nat) (p:PV),(env.set i (some x'))[l]? =some (some p)->∃p',env[l]? =some (some p'):=by
   intro l p el
   rw[a2m] at el
   by_cases hil:i=l
   ·subst hil;exact⟨_,ev⟩
   ·rw[if_neg hil] at el;exact⟨p,el⟩
  obtain⟨y',ey⟩:=en j y ej
  obtain⟨z',ez⟩:=en k z ek
  exact R.sep j k y' z' b hjk oj ok ey ez sj sk
end
mutual
def PV.norm:PV->PV
 |.bl b=>.int (if b then 1 else 0)
 |.lst xs=>.lst (PV.norms xs)
 |.tup xs=>.tup (PV.norms xs)
 |.non=>.non
 |.int i=>.int i
 |.str x=>.str x
 |.ty n=>.ty n
 |.st=>.st
 |.scr n=>.scr n
 |.set S n=>.set S n
 |.dic k x=>.dic k x
def PV.norms:List PV->List PV
 |[]=>[]
 |x::xs=>x.norm::PV.norms xs
end
mutual
def PV.dep:PV->Nat
 |.lst xs=>PV.deps xs+1
 |.tup xs=>PV.deps xs+1
 |.ty _=>1000
 |.st=>1000
 |.scr _=>1000
 |.set _ _=>1000
 |.dic _ _=>1000
 |.non=>0
 |.bl _=>0
 |.int _=>0
 |.str _=>0
def PV.deps:List PV->Nat
 |[]=>0
 |x::xs=>max x.dep (PV.deps xs)
end
theorem PV.norms_map:∀ {xs:List PV},PV.norms xs=xs.map PV.norm
 |[]=>by rw[PV.norms];rfl
 |x::xs=>by rw[PV.norms,PV.norms_map];rfl
theorem PV.deps_le:∀ {xs:List PV} {x:PV},x∈xs->x.dep<=PV.deps xs
 | y::xs,x,h=>by
  rw[PV.deps]
  rcases a0q.mp h with rfl|h
  ·exact Nat.le_max_left _ _
  ·exact a0y (PV.deps_le h) (Nat.le_max_right _ _)
theorem PV.deps_of{n:Nat}:∀ {xs:List PV},(∀x∈xs,x.dep<=n)->PV.deps xs<=n
 |[],_=>by rw[PV.deps];exact a3c _
 |x::xs,h=>by rw[PV.deps];exact Nat.max_le.mpr ⟨h x a0m,PV.deps_of λy hy=>h y (a0k _ hy)⟩
theorem ext_rep{P:V->PV->PV->Prop}{vs:List V}{xs ys:List PV}(l:vs.length=xs.length)(l':vs.length=ys.length)(h:∀(i:Nat) (v:V) (x y:PV),vs[i]? =some v->xs[i]? =some x->ys[i]? =some y->x=y):xs=ys:=by
 refine a3z (by omega) λi h1 h2=>?_
 exact h i vs[i] _ _ (a0a (by omega)) (a0a h1) (a0a h2)
theorem Rep.inj {G G':Addr->Prop} {H:Hp} {v:V} {x:PV} (r:Rep G H v x):∀ {y:PV},Rep G' H v y->x=y:=by
 induction r with
 |non=>intro y q;cases q;rfl
 |bl b=>intro y q;cases q;rfl
 |int i=>intro y q;cases q;rfl
 |str x=>intro y q;cases q;rfl
 |ty n=>intro y q;cases q;rfl
 | set e=>
  intro y q
  cases q with
  |set e'=>rw[e] at e';cases e';rfl
  |lst g' e' l' h'=>rw[e] at e';cases e'
  |tup e' l' h'=>rw[e] at e';cases e'
  |dic g' e' l1 l' h'=>rw[e] at e';cases e'
 | lst g e l _ ih=>
  intro y q
  cases q with
  | lst g' e' l' h'=>
   rw[e] at e';cases e'
   rw[ext_rep (P:=λ_ _ _=>True) l l' λi v x y e1 e2 e3=>ih i v x e1 e2 (h' i v y e1 e3)]
  |tup e' l' h'=>rw[e] at e';cases e'
  |set e'=>rw[e] at e';cases e'
  |dic g' e' l1 l' h'=>rw[e] at e';cases e'
 | tup e l _ ih=>
  intro y q
  cases q with
  |lst g' e' l' h'=>rw[e] at e';cases e'
  |set e'=>rw[e] at e';cases e'
  |dic g' e' l1 l' h'=>rw[e] at e';cases e'
  | tup e' l' h'=>
   rw[e] at e';cases e'
   rw[ext_rep (P:=λ_ _ _=>True) l l' λi v x y e1 e2 e3=>ih i v x e1 e2 (h' i v y e1 e3)]
 | @dic a ks vs xs g e l1 l _ ih=>
  intro y q
  cases q with
  |lst g' e' l' h'=>rw[e] at e';cases e'
  |set e'=>rw[e] at e';cases e'
  |tup e' l' h'=>rw[e] at e';cases e'
  | @dic _ ks2 vs2 xs2 g' e' l1' l' h'=>
   rw[e] at e'
   have e2:ks.zip vs=ks2.zip vs2:=by injection e' with e';injection e'
   have hk:ks=ks2:=by
    have:=congrArg (List.map Prod.fst) e2
    rwa [a6b (by omega),a6b (by omega)] at this
   have hv:vs=vs2:=by
    have:=congrArg (List.map Prod.snd) e2
    rwa [List.map_snd_zip (by omega),List.map_snd_zip (by omega)] at this
   subst hk hv
   rw[ext_rep (P:=λ_ _ _=>True) l l' λi v x y e1 e2 e3=>ih i v x e1 e2 (h' i v y e1 e3)]
open Classical in
noncomputable def PV.eqB(x y:PV):Bool:=decide (x.norm=y.norm)
open Classical in
theorem eqB_of{x y:PV}{b:Bool}(h:b=true↔x.norm=y.norm):x.eqB y=b:=by
 unfold PV.eqB
 cases b with
 |true=>exact a1v (h.mp rfl)
 |false=>exact a1c λz=>by have:=h.mpr z;cases this
theorem eqB_self(x:PV):x.eqB x=true:=eqB_of (by simp)
open Classical in
theorem eqB_iff{x y:PV}:x.eqB y=true↔x.norm=y.norm:=by unfold PV.eqB;exact a3k
section
variable{X:Cx}{pins:List (Ac×Obj)}{σ:St}{H:Hp}{s:Ab}
theorem eqB_ii(i j:Int):(PV.int i).eqB (.int j)=(i==j):=eqB_of (by rw[a3t,PV.norm,PV.norm];exact⟨λh=>by rw[h],λh=>by injection h⟩)
theorem eqB_ss(i j:Str):(PV.str i).eqB (.str j)=(i==j):=eqB_of (by rw[a3t,PV.norm,PV.norm];exact⟨λh=>by rw[h],λh=>by injection h⟩)
theorem eqB_bb(i j:Bool):(PV.bl i).eqB (.bl j)=(i==j):=eqB_of (by rw[PV.norm,PV.norm];cases i<;>cases j<;>simp)
theorem eqB_bi(i:Bool)(j:Int):(PV.bl i).eqB (.int j)=((if i then 1 else 0)==j):=eqB_of (by rw[a3t,PV.norm,PV.norm];exact⟨λh=>by rw[h],λh=>by injection h⟩)
theorem eqB_ib(i:Int)(j:Bool):(PV.int i).eqB (.bl j)=(i==(if j then 1 else 0)):=eqB_of (by rw[a3t,PV.norm,PV.norm];exact⟨λh=>by rw[h],λh=>by injection h⟩)
theorem eqB_ne{x y:PV}(h:x.norm≠y.norm):x.eqB y=false:=eqB_of (Iff.intro (λz=>Bool.noConfusion z) (λz=>absurd z h))
theorem eqB_lists {xs ys:List PV} {n:Nat} (h1:xs.length=n) (h2:ys.length=n):(PV.lst xs).eqB (.lst ys)=(List.range n).all λj=>(xs.getD j .non).eqB (ys.getD j .non):=by
 refine eqB_of ?_
 rw[PV.norm,PV.norm,PV.norms_map,PV.norms_map,a0x]
 constructor
 ·intro h
  congr 1
  refine a3z (by simp[h1,h2]) λi a b=>?_
  have hi:i<n:=by simpa[h1] using a
  have:=eqB_iff.mp (h i (a1s.mpr hi))
  rw[a0c,a0c,a0a (by omega),a0a (by omega)] at this
  simpa using this
 ·intro h j hj
  injection h with h
  have hj:=a1s.mp hj
  refine eqB_iff.mpr ?_
  rw[a0c,a0c,a0a (by omega),a0a (by omega)]
  have e:=congrArg (λl=>l[j]?) h
  simp only[a0g] at e
  rw[a0a (by omega),a0a (by omega)] at e
  simpa using e
theorem eqB_tup_lst{xs ys:List PV}:(PV.tup xs).eqB (.tup ys)=(PV.lst xs).eqB (.lst ys):=by
 refine eqB_of ?_
 rw[eqB_iff,PV.norm,PV.norm,PV.norm,PV.norm]
 exact⟨λh=>by injection h with h;rw[h],λh=>by injection h with h;rw[h]⟩
theorem eqB_len{xs ys:List PV}(h:xs.length≠ys.length):(PV.lst xs).eqB (.lst ys)=false:=eqB_ne (by
 rw[PV.norm,PV.norm,PV.norms_map,PV.norms_map]
 intro z;injection z with z
 have:=congrArg List.length z
 simp at this;exact h this)
theorem Inv.listR{a:Addr}{vs:List V}(I:Inv X pins σ H s)(h:H a=some (.lst vs)):∃its:List Value,b9 vs its/\s.heap.IsList a its.toArray/\vs.length<=sizeLine:=by
 obtain⟨its,v,⟨o,n,g,c,d,e⟩,l⟩:=I.list (a:=a) (xs:=vs) (d9.of h)
 exact⟨its,v,⟨o,g,c,n,e⟩,l⟩
theorem toArr_get{its:List Value}{j:Nat}{u:Value}(e:its[j]? =some u)(h:j<its.toArray.size):its.toArray[j]=u:=by
 have:=(a0j.mp e).2
 simpa using this
theorem eqAt_rep (I:Inv X pins σ H s):∀(n:Nat),n<900->∀ {A:Around} {G G':Addr->Prop} {x y:V} {u v:Value} {px py:PV},Rep G H x px->Rep G' H y py->bD x u->bD y v->px.dep<=n->A.units+n<cLine->py.dep<1000->SeqAt.EqAt A s u v (px.eqB py):=by
 intro n
 induction n with
 | zero=>
  intro hn A G G' x y u v px py rx ry ru rv hd hu hy
  cases rx with
  | non=>cases ru;cases ry with
   |non=>cases rv;rw[eqB_self];exact .same _
   |bl b=>cases rv;rw[eqB_ne (by simp[PV.norm])];exact .none_bool _
   |int i=>obtain⟨t,rfl⟩:=rv;rw[eqB_ne (by simp[PV.norm])];exact .none_int _ _
   |str z=>obtain⟨t,rfl⟩:=rv;rw[eqB_ne (by simp[PV.norm])];exact .none_str _ _
   |ty z=>rw[PV.dep] at hy;omega
   |set z=>rw[PV.dep] at hy;omega
   |dic z1 z2 z3 z4 z5=>rw[PV.dep] at hy;omega
   |lst g e l h=>cases rv;rw[eqB_ne (by simp[PV.norm])];obtain⟨_,_,hl,_⟩:=I.listR e;exact .none_list hl (by omega)
   |tup e l h=>cases rv;rw[eqB_ne (by simp[PV.norm])];obtain⟨_,_,hl,_⟩:=I.tuple (dQ.of e);exact .none_tuple hl (by omega)
  | bl b=>cases ru;cases ry with
   |non=>cases rv;rw[eqB_ne (by simp[PV.norm])];exact .bool_none _
   |bl c=>cases rv;rw[eqB_bb];exact .bool_bool _ _
   |int i=>obtain⟨t,rfl⟩:=rv;rw[eqB_bi];exact .bool_int _ _ _
   |str z=>obtain⟨t,rfl⟩:=rv;rw[eqB_ne (by simp[PV.norm])];exact .bool_str _ _ _
   |ty z=>rw[PV.dep] at hy;omega
   |set z=>rw[PV.dep] at hy;omega
   |dic z1 z2 z3 z4 z5=>rw[PV.dep] at hy;omega
   |lst g e l h=>cases rv;rw[eqB_ne (by simp[PV.norm])];obtain⟨_,_,hl,_⟩:=I.listR e;exact .bool_list _ hl (by omega)
   |tup e l h=>cases rv;rw[eqB_ne (by simp[PV.norm])];obtain⟨_,_,hl,_⟩:=I.tuple (dQ.of e);exact .bool_tuple _ hl (by omega)
  | int i=>obtain⟨t0,rfl⟩:=ru;cases ry with
   |non=>cases rv;rw[eqB_ne (by simp[PV.norm])];exact .int_none _ _
   |bl c=>cases rv;rw[eqB_ib];exact .int_bool _ _ _
   |int i=>obtain⟨t,rfl⟩:=rv;rw[eqB_ii];exact .int_int _ _ _ _
   |str z=>obtain⟨t,rfl⟩:=rv;rw[eqB_ne (by simp[PV.norm])];exact .int_str _ _ _ _
   |ty z=>rw[PV.dep] at hy;omega
   |set z=>rw[PV.dep] at hy;omega
   |dic z1 z2 z3 z4 z5=>rw[PV.dep] at hy;omega
   |lst g e l h=>cases rv;rw[eqB_ne (by simp[PV.norm])];obtain⟨_,_,hl,_⟩:=I.listR e;exact .int_list _ _ hl (by omega)
   |tup e l h=>cases rv;rw[eqB_ne (by simp[PV.norm])];obtain⟨_,_,hl,_⟩:=I.tuple (dQ.of e);exact .int_tuple _ _ hl (by omega)
  | str z0=>obtain⟨t0,rfl⟩:=ru;cases ry with
   |non=>cases rv;rw[eqB_ne (by simp[PV.norm])];exact .str_none _ _
   |bl c=>cases rv;rw[eqB_ne (by simp[PV.norm])];exact .str_bool _ _ _
   |int i=>obtain⟨t,rfl⟩:=rv;rw[eqB_ne (by simp[PV.norm])];exact .str_int _ _ _ _
   |str z=>obtain⟨t,rfl⟩:=rv;rw[eqB_ss];exact .str_str _ _ _ _
   |ty z=>rw[PV.dep] at hy;omega
   |set z=>rw[PV.dep] at hy;omega
   |dic z1 z2 z3 z4 z5=>rw[PV.dep] at hy;omega
   |lst g e l h=>cases rv;rw[eqB_ne (by simp[PV.norm])];obtain⟨_,_,hl,_⟩:=I.listR e;exact .str_list _ _ hl (by omega)
   |tup e l h=>cases rv;rw[eqB_ne (by simp[PV.norm])];obtain⟨_,_,hl,_⟩:=I.tuple (dQ.of e);exact .str_tuple _ _ hl (by omega)
  |ty z=>rw[PV.dep] at hd;omega
  |set z=>rw[PV.dep] at hd;omega
  |dic z1 z2 z3 z4 z5=>rw[PV.dep] at hd;omega
  |lst=>rw[PV.dep] at hd;omega
  |tup=>rw[PV.dep] at hd;omega
 | succ n ih=>
  intro hn A G G' x y u v px py rx ry ru rv hd hu hy
  have down:px.dep<=n->SeqAt.EqAt A s u v (px.eqB py):=λh=>ih (by omega) rx ry ru rv h (by omega) hy
  cases hx:rx with
  |non=>exact down (by rw[PV.dep];omega)
  |bl b=>exact down (by rw[PV.dep];omega)
  |int i=>exact down (by rw[PV.dep];omega)
  |str z=>exact down (by rw[PV.dep];omega)
  |ty z=>rw[PV.dep] at hd;omega
  |set z=>rw[PV.dep] at hd;omega
  |dic z1 z2 z3 z4 z5=>rw[PV.dep] at hd;omega
  | @lst a vs xs g e l h=>
   cases ru
   cases hyy:ry with
   |non=>cases rv;rw[eqB_ne (by simp[PV.norm])];obtain⟨_,_,hl,_⟩:=I.listR e;exact .list_none hl (by omega)
   |bl b=>cases rv;rw[eqB_ne (by simp[PV.norm])];obtain⟨_,_,hl,_⟩:=I.listR e;exact .list_bool _ hl (by omega)
   |int i=>obtain⟨t,rfl⟩:=rv;rw[eqB_ne (by simp[PV.norm])];obtain⟨_,_,hl,_⟩:=I.listR e;exact .list_int _ _ hl (by omega)
   |str z=>obtain⟨t,rfl⟩:=rv;rw[eqB_ne (by simp[PV.norm])];obtain⟨_,_,hl,_⟩:=I.listR e;exact .list_str _ _ hl (by omega)
   |ty z=>rw[PV.dep] at hy;omega
   |set z=>rw[PV.dep] at hy;omega
   |dic z1 z2 z3 z4 z5=>rw[PV.dep] at hy;omega
   |tup e' l' h'=>cases rv;rw[eqB_ne (by simp[PV.norm])];obtain⟨_,_,hl,_⟩:=I.listR e;obtain⟨_,_,hl2,_⟩:=I.tuple (dQ.of e');exact .list_tuple hl hl2 (by omega)
   | @lst b vs' ys g' e' l' h'=>
    cases rv
    by_cases hab:a=b
    ·subst hab
     rw[rx.inj ry,eqB_self];exact .same _
    ·obtain ⟨i1,v1,hl1,_⟩:=I.listR e
     obtain⟨i2,v2,hl2,_⟩:=I.listR e'
     have n1:=v1.length
     have n2:=v2.length
     by_cases hlen:xs.length=ys.length
     ·rw [eqB_lists (n:=i1.toArray.size) (by simp;omega) (by simp;omega)]
      refine .of_refs hab (SeqAt.RcAt.lists hl1 hl2 (by simp;omega) (by omega) λj h1 h2=>?_)
      have j1:j<i1.length:=by simpa using h1
      have j2:j<i2.length:=by simpa using h2
      obtain⟨u1,eu,ru1⟩:=v1.get (a0a (l:=vs) (i:=j) (by omega))
      obtain⟨u2,ev,ru2⟩:=v2.get (a0a (l:=vs') (i:=j) (by omega))
      rw[toArr_get eu h1,toArr_get ev h2,a0c,a0c,a0a (l:=xs) (by omega),a0a (l:=ys) (by omega)]
      refine ih (by omega) (A:=A.in1) (h j _ _ (a0a (by omega)) (a0a (by omega))) (h' j _ _ (a0a (by omega)) (a0a (by omega))) ru1 ru2 ?_ (by show A.units+1+n<cLine;omega) ?_
      ·rw[PV.dep] at hd
       exact a0y (PV.deps_le (a1k _)) (by omega)
      ·rw[PV.dep] at hy
       exact a2n (PV.deps_le (a1k _)) (by omega)
     ·rw[eqB_len hlen]
      refine .of_refs hab (SeqAt.RcAt.lists_lengths hl1 hl2 ?_ (by omega))
      simp;omega
  | @tup a vs xs e l h=>
   cases ru
   cases hyy:ry with
   |non=>cases rv;rw[eqB_ne (by simp[PV.norm])];obtain⟨_,_,hl,_⟩:=I.tuple (dQ.of e);exact .tuple_none hl (by omega)
   |bl b=>cases rv;rw[eqB_ne (by simp[PV.norm])];obtain⟨_,_,hl,_⟩:=I.tuple (dQ.of e);exact .tuple_bool _ hl (by omega)
   |int i=>obtain⟨t,rfl⟩:=rv;rw[eqB_ne (by simp[PV.norm])];obtain⟨_,_,hl,_⟩:=I.tuple (dQ.of e);exact .tuple_int _ _ hl (by omega)
   |str z=>obtain⟨t,rfl⟩:=rv;rw[eqB_ne (by simp[PV.norm])];obtain⟨_,_,hl,_⟩:=I.tuple (dQ.of e);exact .tuple_str _ _ hl (by omega)
   |ty z=>rw[PV.dep] at hy;omega
   |set z=>rw[PV.dep] at hy;omega
   |dic z1 z2 z3 z4 z5=>rw[PV.dep] at hy;omega
   |lst g' e' l' h'=>cases rv;rw[eqB_ne (by simp[PV.norm])];obtain⟨_,_,hl,_⟩:=I.tuple (dQ.of e);obtain⟨_,_,hl2,_⟩:=I.listR e';exact .tuple_list hl hl2 (by omega)
   | @tup b vs' ys e' l' h'=>
    cases rv
    by_cases hab:a=b
    ·subst hab
     rw[rx.inj ry,eqB_self];exact .same _
    ·obtain ⟨i1,v1,hl1,_⟩:=I.tuple (dQ.of e)
     obtain⟨i2,v2,hl2,_⟩:=I.tuple (dQ.of e')
     have n1:=v1.length
     have n2:=v2.length
     have go:=SeqAt.RcAt.tuples (A:=A) (e:=λj=>(xs.getD j .non).eqB (ys.getD j .non)) hl1 hl2 (by omega) (λj h1 h2=>by
      have j1:j<i1.length:=by simpa using h1
      have j2:j<i2.length:=by simpa using h2
      obtain⟨u1,eu,ru1⟩:=v1.get (a0a (l:=vs) (i:=j) (by omega))
      obtain⟨u2,ev,ru2⟩:=v2.get (a0a (l:=vs') (i:=j) (by omega))
      rw[toArr_get eu h1,toArr_get ev h2,a0c,a0c,a0a (l:=xs) (by omega),a0a (l:=ys) (by omega)]
      refine ih (by omega) (A:=A.in1) (h j _ _ (a0a (by omega)) (a0a (by omega))) (h' j _ _ (a0a (by omega)) (a0a (by omega))) ru1 ru2 ?_ (by show A.units+1+n<cLine;omega) ?_
      ·rw[PV.dep] at hd
       exact a0y (PV.deps_le (a1k _)) (by omega)
      ·rw[PV.dep] at hy
       exact a2n (PV.deps_le (a1k _)) (by omega))
     refine .of_refs hab ?_
     rw[eqB_tup_lst]
     by_cases hlen:xs.length=ys.length
     ·rw[eqB_lists (n:=i1.toArray.size) (by simp;omega) (by simp;omega)]
      rw[show min i1.toArray.size i2.toArray.size=i1.toArray.size by simp;omega,show (i1.toArray.size==i2.toArray.size)=true by simp;omega,Bool.and_true] at go
      exact go
     ·rw[eqB_len hlen]
      rw[show (i1.toArray.size==i2.toArray.size)=false by simp;omega,Bool.and_false] at go
      exact go
end
section
variable{X:Cx}{pins:List (Ac×Obj)}{σ:St}{H:Hp}{s:Ab}
theorem QO (I:Inv X pins σ H s) {A:Around} {G G':Addr->Prop} {x y:V} {u v:Value} {px py:PV} (rx:Rep G H x px) (ry:Rep G' H y py) (ru:bD x u) (rv:bD y v) (hd:px.dep<=60) (hu:A.units+60<cLine) (hy:py.dep<1000):SeqAt.RcAt A s u v (px.eqB py):=by
 cases hx:rx with
 | non=>
  cases ru
  cases hyy:ry with
  | non=>
   cases rv
   rw[eqB_self];exact SeqAt.RcAt.none_none
  | bl b2=>
   cases rv
   rw[eqB_ne (by simp[PV.norm])];exact SeqAt.RcAt.none_bool  _
  | int b2=>
   obtain⟨t2,rfl⟩:=rv
   rw[eqB_ne (by simp[PV.norm])];exact SeqAt.RcAt.none_int  _ _
  | str b2=>
   obtain⟨t2,rfl⟩:=rv
   rw[eqB_ne (by simp[PV.norm])];exact SeqAt.RcAt.none_str  _ _
  | @lst b vs' ys g' e' l' h'=>
   cases rv
   rw[eqB_ne (by simp[PV.norm])];obtain⟨i2,v2,hl2,_⟩:=I.listR e';exact SeqAt.RcAt.none_list   hl2 (by omega)
  | @tup b vs' ys e' l' h'=>
   cases rv
   rw[eqB_ne (by simp[PV.norm])];obtain⟨i2,v2,hl2,_⟩:=I.tuple (dQ.of e');exact SeqAt.RcAt.none_tuple   hl2 (by omega)
  |ty z=>rw[PV.dep] at hy;omega
  |set z=>rw[PV.dep] at hy;omega
  |dic z1 z2 z3 z4 z5=>rw[PV.dep] at hy;omega
 | bl b1=>
  cases ru
  cases hyy:ry with
  | non=>
   cases rv
   rw[eqB_ne (by simp[PV.norm])];exact SeqAt.RcAt.bool_none _
  | bl b2=>
   cases rv
   rw[eqB_bb];exact SeqAt.RcAt.bool_bool _ _
  | int b2=>
   obtain⟨t2,rfl⟩:=rv
   rw[eqB_bi];exact SeqAt.RcAt.bool_int _ _ _
  | str b2=>
   obtain⟨t2,rfl⟩:=rv
   rw[eqB_ne (by simp[PV.norm])];exact SeqAt.RcAt.bool_str _ _ _
  | @lst b vs' ys g' e' l' h'=>
   cases rv
   rw[eqB_ne (by simp[PV.norm])];obtain⟨i2,v2,hl2,_⟩:=I.listR e';exact SeqAt.RcAt.bool_list _  hl2 (by omega)
  | @tup b vs' ys e' l' h'=>
   cases rv
   rw[eqB_ne (by simp[PV.norm])];obtain⟨i2,v2,hl2,_⟩:=I.tuple (dQ.of e');exact SeqAt.RcAt.bool_tuple _  hl2 (by omega)
  |ty z=>rw[PV.dep] at hy;omega
  |set z=>rw[PV.dep] at hy;omega
  |dic z1 z2 z3 z4 z5=>rw[PV.dep] at hy;omega
 | int b1=>
  obtain⟨t1,rfl⟩:=ru
  cases hyy:ry with
  | non=>
   cases rv
   rw[eqB_ne (by simp[PV.norm])];exact SeqAt.RcAt.int_none _ _
  | bl b2=>
   cases rv
   rw[eqB_ib];exact SeqAt.RcAt.int_bool _ _ _
  | int b2=>
   obtain⟨t2,rfl⟩:=rv
   rw[eqB_ii];exact SeqAt.RcAt.int_int _ _ _ _
  | str b2=>
   obtain⟨t2,rfl⟩:=rv
   rw[eqB_ne (by simp[PV.norm])];exact SeqAt.RcAt.int_str _ _ _ _
  | @lst b vs' ys g' e' l' h'=>
   cases rv
   rw[eqB_ne (by simp[PV.norm])];obtain⟨i2,v2,hl2,_⟩:=I.listR e';exact SeqAt.RcAt.int_list _ _  hl2 (by omega)
  | @tup b vs' ys e' l' h'=>
   cases rv
   rw[eqB_ne (by simp[PV.norm])];obtain⟨i2,v2,hl2,_⟩:=I.tuple (dQ.of e');exact SeqAt.RcAt.int_tuple _ _  hl2 (by omega)
  |ty z=>rw[PV.dep] at hy;omega
  |set z=>rw[PV.dep] at hy;omega
  |dic z1 z2 z3 z4 z5=>rw[PV.dep] at hy;omega
 | str b1=>
  obtain⟨t1,rfl⟩:=ru
  cases hyy:ry with
  | non=>
   cases rv
   rw[eqB_ne (by simp[PV.norm])];exact SeqAt.RcAt.str_none _ _
  | bl b2=>
   cases rv
   rw[eqB_ne (by simp[PV.norm])];exact SeqAt.RcAt.str_bool _ _ _
  | int b2=>
   obtain⟨t2,rfl⟩:=rv
   rw[eqB_ne (by simp[PV.norm])];exact SeqAt.RcAt.str_int _ _ _ _
  | str b2=>
   obtain⟨t2,rfl⟩:=rv
   rw[eqB_ss];exact SeqAt.RcAt.str_str _ _ _ _
  | @lst b vs' ys g' e' l' h'=>
   cases rv
   rw[eqB_ne (by simp[PV.norm])];obtain⟨i2,v2,hl2,_⟩:=I.listR e';exact SeqAt.RcAt.str_list _ _  hl2 (by omega)
  | @tup b vs' ys e' l' h'=>
   cases rv
   rw[eqB_ne (by simp[PV.norm])];obtain⟨i2,v2,hl2,_⟩:=I.tuple (dQ.of e');exact SeqAt.RcAt.str_tuple _ _  hl2 (by omega)
  |ty z=>rw[PV.dep] at hy;omega
  |set z=>rw[PV.dep] at hy;omega
  |dic z1 z2 z3 z4 z5=>rw[PV.dep] at hy;omega
 | @lst a vs xs g e l h=>
  cases ru
  cases hyy:ry with
  | non=>
   cases rv
   rw[eqB_ne (by simp[PV.norm])];obtain⟨i1,v1,hl1,_⟩:=I.listR e;exact SeqAt.RcAt.list_none   hl1 (by omega)
  | bl b2=>
   cases rv
   rw[eqB_ne (by simp[PV.norm])];obtain⟨i1,v1,hl1,_⟩:=I.listR e;exact SeqAt.RcAt.list_bool  _ hl1 (by omega)
  | int b2=>
   obtain⟨t2,rfl⟩:=rv
   rw[eqB_ne (by simp[PV.norm])];obtain⟨i1,v1,hl1,_⟩:=I.listR e;exact SeqAt.RcAt.list_int  _ _ hl1 (by omega)
  | str b2=>
   obtain⟨t2,rfl⟩:=rv
   rw[eqB_ne (by simp[PV.norm])];obtain⟨i1,v1,hl1,_⟩:=I.listR e;exact SeqAt.RcAt.list_str  _ _ hl1 (by omega)
  | @lst b vs' ys g' e' l' h'=>
   cases rv
   obtain⟨i1,v1,hl1,_⟩:=I.listR e
   obtain⟨i2,v2,hl2,_⟩:=I.listR e'
   have n1:=v1.length
   have n2:=v2.length
   by_cases hlen:xs.length=ys.length
   ·rw [eqB_lists (n:=i1.toArray.size) (by simp;omega) (by simp;omega)]
    exact SeqAt.RcAt.lists hl1 hl2 (by simp;omega) (by omega) (λj h1 h2=>by
      have j1:j<i1.length:=by simpa using h1
      have j2:j<i2.length:=by simpa using h2
      obtain⟨u1,eu,ru1⟩:=v1.get (a0a (l:=vs) (i:=j) (by omega))
      obtain⟨u2,ev,ru2⟩:=v2.get (a0a (l:=vs') (i:=j) (by omega))
      rw[toArr_get eu h1,toArr_get ev h2,a0c,a0c,a0a (l:=xs) (by omega),a0a (l:=ys) (by omega)]
      refine eqAt_rep I 59 (by omega) (A:=A.in1) (h j _ _ (a0a (by omega)) (a0a (by omega))) (h' j _ _ (a0a (by omega)) (a0a (by omega))) ru1 ru2 ?_ (by show A.units+1+59<cLine;omega) ?_
      ·rw[PV.dep] at hd
       exact a0y (PV.deps_le (a1k _)) (by omega)
      ·rw[PV.dep] at hy
       exact a2n (PV.deps_le (a1k _)) (by omega))
   ·rw[eqB_len hlen]
    exact SeqAt.RcAt.lists_lengths hl1 hl2 (by simp;omega) (by omega)
  | @tup b vs' ys e' l' h'=>
   cases rv
   rw[eqB_ne (by simp[PV.norm])];obtain⟨i1,v1,hl1,_⟩:=I.listR e;obtain⟨i2,v2,hl2,_⟩:=I.tuple (dQ.of e');exact SeqAt.RcAt.list_tuple hl1 hl2 (by omega)
  |ty z=>rw[PV.dep] at hy;omega
  |set z=>rw[PV.dep] at hy;omega
  |dic z1 z2 z3 z4 z5=>rw[PV.dep] at hy;omega
 | @tup a vs xs e l h=>
  cases ru
  cases hyy:ry with
  | non=>
   cases rv
   rw[eqB_ne (by simp[PV.norm])];obtain⟨i1,v1,hl1,_⟩:=I.tuple (dQ.of e);exact SeqAt.RcAt.tuple_none   hl1 (by omega)
  | bl b2=>
   cases rv
   rw[eqB_ne (by simp[PV.norm])];obtain⟨i1,v1,hl1,_⟩:=I.tuple (dQ.of e);exact SeqAt.RcAt.tuple_bool  _ hl1 (by omega)
  | int b2=>
   obtain⟨t2,rfl⟩:=rv
   rw[eqB_ne (by simp[PV.norm])];obtain⟨i1,v1,hl1,_⟩:=I.tuple (dQ.of e);exact SeqAt.RcAt.tuple_int  _ _ hl1 (by omega)
  | str b2=>
   obtain⟨t2,rfl⟩:=rv
   rw[eqB_ne (by simp[PV.norm])];obtain⟨i1,v1,hl1,_⟩:=I.tuple (dQ.of e);exact SeqAt.RcAt.tuple_str  _ _ hl1 (by omega)
  | @lst b vs' ys g' e' l' h'=>
   cases rv
   rw[eqB_ne (by simp[PV.norm])];obtain⟨i1,v1,hl1,_⟩:=I.tuple (dQ.of e);obtain⟨i2,v2,hl2,_⟩:=I.listR e';exact SeqAt.RcAt.tuple_list hl1 hl2 (by omega)
  | @tup b vs' ys e' l' h'=>
   cases rv
   obtain⟨i1,v1,hl1,_⟩:=I.tuple (dQ.of e)
   obtain⟨i2,v2,hl2,_⟩:=I.tuple (dQ.of e')
   have n1:=v1.length
   have n2:=v2.length
   have go:=SeqAt.RcAt.tuples (A:=A) (e:=λj=>(xs.getD j .non).eqB (ys.getD j .non)) hl1 hl2 (by omega) (λj h1 h2=>by
    have j1:j<i1.length:=by simpa using h1
    have j2:j<i2.length:=by simpa using h2
    obtain⟨u1,eu,ru1⟩:=v1.get (a0a (l:=vs) (i:=j) (by omega))
    obtain⟨u2,ev,ru2⟩:=v2.get (a0a (l:=vs') (i:=j) (by omega))
    rw[toArr_get eu h1,toArr_get ev h2,a0c,a0c,a0a (l:=xs) (by omega),a0a (l:=ys) (by omega)]
    refine eqAt_rep I 59 (by omega) (A:=A.in1) (h j _ _ (a0a (by omega)) (a0a (by omega))) (h' j _ _ (a0a (by omega)) (a0a (by omega))) ru1 ru2 ?_ (by show A.units+1+59<cLine;omega) ?_
    ·rw[PV.dep] at hd
     exact a0y (PV.deps_le (a1k _)) (by omega)
    ·rw[PV.dep] at hy
     exact a2n (PV.deps_le (a1k _)) (by omega))
   rw[eqB_tup_lst]
   by_cases hlen:xs.length=ys.length
   ·rw[eqB_lists (n:=i1.toArray.size) (by simp;omega) (by simp;omega)]
    rw[show min i1.toArray.size i2.toArray.size=i1.toArray.size by simp;omega,show (i1.toArray.size==i2.toArray.size)=true by simp;omega,Bool.and_true] at go
    exact go
   ·rw[eqB_len hlen]
    rw[show (i1.toArray.size==i2.toArray.size)=false by simp;omega,Bool.and_false] at go
    exact go
  |ty z=>rw[PV.dep] at hy;omega
  |set z=>rw[PV.dep] at hy;omega
  |dic z1 z2 z3 z4 z5=>rw[PV.dep] at hy;omega
 |ty z=>rw[PV.dep] at hd;omega
 |set z=>rw[PV.dep] at hd;omega
 |dic z1 z2 z3 z4 z5=>rw[PV.dep] at hd;omega
theorem QP (I:Inv X pins σ H s) {A:Around} {G G':Addr->Prop} {x y:V} {u v:Value} {px py:PV} (rx:Rep G H x px) (ry:Rep G' H y py) (ru:bD x u) (rv:bD y v) (hd:px.dep<=60) (hu:A.units+60<cLine) (hy:py.dep<1000):SeqAt.RcNeAt A s u v (!(px.eqB py)):=by
 cases hx:rx with
 | non=>
  cases ru
  cases hyy:ry with
  | non=>
   cases rv
   rw[eqB_self];exact SeqAt.RcNeAt.none_none
  | bl b2=>
   cases rv
   rw[eqB_ne (by simp[PV.norm])];exact SeqAt.RcNeAt.none_bool  _
  | int b2=>
   obtain⟨t2,rfl⟩:=rv
   rw[eqB_ne (by simp[PV.norm])];exact SeqAt.RcNeAt.none_int  _ _
  | str b2=>
   obtain⟨t2,rfl⟩:=rv
   rw[eqB_ne (by simp[PV.norm])];exact SeqAt.RcNeAt.none_str  _ _
  | @lst b vs' ys g' e' l' h'=>
   cases rv
   rw[eqB_ne (by simp[PV.norm])];obtain⟨i2,v2,hl2,_⟩:=I.listR e';exact SeqAt.RcNeAt.none_list   hl2 (by omega)
  | @tup b vs' ys e' l' h'=>
   cases rv
   rw[eqB_ne (by simp[PV.norm])];obtain⟨i2,v2,hl2,_⟩:=I.tuple (dQ.of e');exact SeqAt.RcNeAt.none_tuple   hl2 (by omega)
  |ty z=>rw[PV.dep] at hy;omega
  |set z=>rw[PV.dep] at hy;omega
  |dic z1 z2 z3 z4 z5=>rw[PV.dep] at hy;omega
 | bl b1=>
  cases ru
  cases hyy:ry with
  | non=>
   cases rv
   rw[eqB_ne (by simp[PV.norm])];exact SeqAt.RcNeAt.bool_none _
  | bl b2=>
   cases rv
   rw[eqB_bb];exact SeqAt.RcNeAt.bool_bool _ _
  | int b2=>
   obtain⟨t2,rfl⟩:=rv
   rw[eqB_bi];exact SeqAt.RcNeAt.bool_int _ _ _
  | str b2=>
   obtain⟨t2,rfl⟩:=rv
   rw[eqB_ne (by simp[PV.norm])];exact SeqAt.RcNeAt.bool_str _ _ _
  | @lst b vs' ys g' e' l' h'=>
   cases rv
   rw[eqB_ne (by simp[PV.norm])];obtain⟨i2,v2,hl2,_⟩:=I.listR e';exact SeqAt.RcNeAt.bool_list _  hl2 (by omega)
  | @tup b vs' ys e' l' h'=>
   cases rv
   rw[eqB_ne (by simp[PV.norm])];obtain⟨i2,v2,hl2,_⟩:=I.tuple (dQ.of e');exact SeqAt.RcNeAt.bool_tuple _  hl2 (by omega)
  |ty z=>rw[PV.dep] at hy;omega
  |set z=>rw[PV.dep] at hy;omega
  |dic z1 z2 z3 z4 z5=>rw[PV.dep] at hy;omega
 | int b1=>
  obtain⟨t1,rfl⟩:=ru
  cases hyy:ry with
  | non=>
   cases rv
   rw[eqB_ne (by simp[PV.norm])];exact SeqAt.RcNeAt.int_none _ _
  | bl b2=>
   cases rv
   rw[eqB_ib];exact SeqAt.RcNeAt.int_bool _ _ _
  | int b2=>
   obtain⟨t2,rfl⟩:=rv
   rw[eqB_ii];exact SeqAt.RcNeAt.int_int _ _ _ _
  | str b2=>
   obtain⟨t2,rfl⟩:=rv
   rw[eqB_ne (by simp[PV.norm])];exact SeqAt.RcNeAt.int_str _ _ _ _
  | @lst b vs' ys g' e' l' h'=>
   cases rv
   rw[eqB_ne (by simp[PV.norm])];obtain⟨i2,v2,hl2,_⟩:=I.listR e';exact SeqAt.RcNeAt.int_list _ _  hl2 (by omega)
  | @tup b vs' ys e' l' h'=>
   cases rv
   rw[eqB_ne (by simp[PV.norm])];obtain⟨i2,v2,hl2,_⟩:=I.tuple (dQ.of e');exact SeqAt.RcNeAt.int_tuple _ _  hl2 (by omega)
  |ty z=>rw[PV.dep] at hy;omega
  |set z=>rw[PV.dep] at hy;omega
  |dic z1 z2 z3 z4 z5=>rw[PV.dep] at hy;omega
 | str b1=>
  obtain⟨t1,rfl⟩:=ru
  cases hyy:ry with
  | non=>
   cases rv
   rw[eqB_ne (by simp[PV.norm])];exact SeqAt.RcNeAt.str_none _ _
  | bl b2=>
   cases rv
   rw[eqB_ne (by simp[PV.norm])];exact SeqAt.RcNeAt.str_bool _ _ _
  | int b2=>
   obtain⟨t2,rfl⟩:=rv
   rw[eqB_ne (by simp[PV.norm])];exact SeqAt.RcNeAt.str_int _ _ _ _
  | str b2=>
   obtain⟨t2,rfl⟩:=rv
   rw[eqB_ss];exact SeqAt.RcNeAt.str_str _ _ _ _
  | @lst b vs' ys g' e' l' h'=>
   cases rv
   rw[eqB_ne (by simp[PV.norm])];obtain⟨i2,v2,hl2,_⟩:=I.listR e';exact SeqAt.RcNeAt.str_list _ _  hl2 (by omega)
  | @tup b vs' ys e' l' h'=>
   cases rv
   rw[eqB_ne (by simp[PV.norm])];obtain⟨i2,v2,hl2,_⟩:=I.tuple (dQ.of e');exact SeqAt.RcNeAt.str_tuple _ _  hl2 (by omega)
  |ty z=>rw[PV.dep] at hy;omega
  |set z=>rw[PV.dep] at hy;omega
  |dic z1 z2 z3 z4 z5=>rw[PV.dep] at hy;omega
 | @lst a vs xs g e l h=>
  cases ru
  cases hyy:ry with
  | non=>
   cases rv
   rw[eqB_ne (by simp[PV.norm])];obtain⟨i1,v1,hl1,_⟩:=I.listR e;exact SeqAt.RcNeAt.list_none   hl1 (by omega)
  | bl b2=>
   cases rv
   rw[eqB_ne (by simp[PV.norm])];obtain⟨i1,v1,hl1,_⟩:=I.listR e;exact SeqAt.RcNeAt.list_bool  _ hl1 (by omega)
  | int b2=>
   obtain⟨t2,rfl⟩:=rv
   rw[eqB_ne (by simp[PV.norm])];obtain⟨i1,v1,hl1,_⟩:=I.listR e;exact SeqAt.RcNeAt.list_int  _ _ hl1 (by omega)
  | str b2=>
   obtain⟨t2,rfl⟩:=rv
   rw[eqB_ne (by simp[PV.norm])];obtain⟨i1,v1,hl1,_⟩:=I.listR e;exact SeqAt.RcNeAt.list_str  _ _ hl1 (by omega)
  | @lst b vs' ys g' e' l' h'=>
   cases rv
   obtain⟨i1,v1,hl1,_⟩:=I.listR e
   obtain⟨i2,v2,hl2,_⟩:=I.listR e'
   have n1:=v1.length
   have n2:=v2.length
   by_cases hlen:xs.length=ys.length
   ·rw [eqB_lists (n:=i1.toArray.size) (by simp;omega) (by simp;omega)]
    exact SeqAt.RcNeAt.lists hl1 hl2 (by simp;omega) (by omega) (λj h1 h2=>by
      have j1:j<i1.length:=by simpa using h1
      have j2:j<i2.length:=by simpa using h2
      obtain⟨u1,eu,ru1⟩:=v1.get (a0a (l:=vs) (i:=j) (by omega))
      obtain⟨u2,ev,ru2⟩:=v2.get (a0a (l:=vs') (i:=j) (by omega))
      rw[toArr_get eu h1,toArr_get ev h2,a0c,a0c,a0a (l:=xs) (by omega),a0a (l:=ys) (by omega)]
      refine eqAt_rep I 59 (by omega) (A:=A.in1) (h j _ _ (a0a (by omega)) (a0a (by omega))) (h' j _ _ (a0a (by omega)) (a0a (by omega))) ru1 ru2 ?_ (by show A.units+1+59<cLine;omega) ?_
      ·rw[PV.dep] at hd
       exact a0y (PV.deps_le (a1k _)) (by omega)
      ·rw[PV.dep] at hy
       exact a2n (PV.deps_le (a1k _)) (by omega))
   ·rw[eqB_len hlen]
    exact SeqAt.RcNeAt.lists_lengths hl1 hl2 (by simp;omega) (by omega)
  | @tup b vs' ys e' l' h'=>
   cases rv
   rw[eqB_ne (by simp[PV.norm])];obtain⟨i1,v1,hl1,_⟩:=I.listR e;obtain⟨i2,v2,hl2,_⟩:=I.tuple (dQ.of e');exact SeqAt.RcNeAt.list_tuple hl1 hl2 (by omega)
  |ty z=>rw[PV.dep] at hy;omega
  |set z=>rw[PV.dep] at hy;omega
  |dic z1 z2 z3 z4 z5=>rw[PV.dep] at hy;omega
 | @tup a vs xs e l h=>
  cases ru
  cases hyy:ry with
  | non=>
   cases rv
   rw[eqB_ne (by simp[PV.norm])];obtain⟨i1,v1,hl1,_⟩:=I.tuple (dQ.of e);exact SeqAt.RcNeAt.tuple_none   hl1 (by omega)
  | bl b2=>
   cases rv
   rw[eqB_ne (by simp[PV.norm])];obtain⟨i1,v1,hl1,_⟩:=I.tuple (dQ.of e);exact SeqAt.RcNeAt.tuple_bool  _ hl1 (by omega)
  | int b2=>
   obtain⟨t2,rfl⟩:=rv
   rw[eqB_ne (by simp[PV.norm])];obtain⟨i1,v1,hl1,_⟩:=I.tuple (dQ.of e);exact SeqAt.RcNeAt.tuple_int  _ _ hl1 (by omega)
  | str b2=>
   obtain⟨t2,rfl⟩:=rv
   rw[eqB_ne (by simp[PV.norm])];obtain⟨i1,v1,hl1,_⟩:=I.tuple (dQ.of e);exact SeqAt.RcNeAt.tuple_str  _ _ hl1 (by omega)
  | @lst b vs' ys g' e' l' h'=>
   cases rv
   rw[eqB_ne (by simp[PV.norm])];obtain⟨i1,v1,hl1,_⟩:=I.tuple (dQ.of e);obtain⟨i2,v2,hl2,_⟩:=I.listR e';exact SeqAt.RcNeAt.tuple_list hl1 hl2 (by omega)
  | @tup b vs' ys e' l' h'=>
   cases rv
   obtain⟨i1,v1,hl1,_⟩:=I.tuple (dQ.of e)
   obtain⟨i2,v2,hl2,_⟩:=I.tuple (dQ.of e')
   have n1:=v1.length
   have n2:=v2.length
   have go:=SeqAt.RcNeAt.tuples (A:=A) (e:=λj=>(xs.getD j .non).eqB (ys.getD j .non)) hl1 hl2 (by omega) (λj h1 h2=>by
    have j1:j<i1.length:=by simpa using h1
    have j2:j<i2.length:=by simpa using h2
    obtain⟨u1,eu,ru1⟩:=v1.get (a0a (l:=vs) (i:=j) (by omega))
    obtain⟨u2,ev,ru2⟩:=v2.get (a0a (l:=vs') (i:=j) (by omega))
    rw[toArr_get eu h1,toArr_get ev h2,a0c,a0c,a0a (l:=xs) (by omega),a0a (l:=ys) (by omega)]
    refine eqAt_rep I 59 (by omega) (A:=A.in1) (h j _ _ (a0a (by omega)) (a0a (by omega))) (h' j _ _ (a0a (by omega)) (a0a (by omega))) ru1 ru2 ?_ (by show A.units+1+59<cLine;omega) ?_
    ·rw[PV.dep] at hd
     exact a0y (PV.deps_le (a1k _)) (by omega)
    ·rw[PV.dep] at hy
     exact a2n (PV.deps_le (a1k _)) (by omega))
   rw[eqB_tup_lst]
   by_cases hlen:xs.length=ys.length
   ·rw[eqB_lists (n:=i1.toArray.size) (by simp;omega) (by simp;omega)]
    rw[show min i1.toArray.size i2.toArray.size=i1.toArray.size by simp;omega,show (i1.toArray.size==i2.toArray.size)=true by simp;omega,Bool.and_true] at go
    exact go
   ·rw[eqB_len hlen]
    rw[show (i1.toArray.size==i2.toArray.size)=false by simp;omega,Bool.and_false] at go
    exact go
  |ty z=>rw[PV.dep] at hy;omega
  |set z=>rw[PV.dep] at hy;omega
  |dic z1 z2 z3 z4 z5=>rw[PV.dep] at hy;omega
 |ty z=>rw[PV.dep] at hd;omega
 |set z=>rw[PV.dep] at hd;omega
 |dic z1 z2 z3 z4 z5=>rw[PV.dep] at hd;omega
def a14:R2:=λx y H Q=>∃G G' px py,Rep G H x px/\Rep G' H y py/\px.dep<=60/\py.dep<1000/\Q (.bl (px.eqB py)) H
def a19:R2:=λx y H Q=>∃G G' px py,Rep G H x px/\Rep G' H y py/\px.dep<=60/\py.dep<1000/\Q (.bl (!px.eqB py)) H
theorem a02(hu:X.A.units+60<cLine):n6 X (compareOp .Eq) a14:=by
 intro pins s σ H x y v u Q I rx ry h
 obtain⟨G,G',px,py,r1,r2,d1,d2,q⟩:=h
 exact PySem.W.cmp_ofEq (QO I r1 r2 rx ry d1 hu d2 X.prog X.w X.xe _ ⟨.bl _,H,I,rfl,q⟩)
theorem a07(hu:X.A.units+60<cLine):n6 X (compareOp .NotEq) a19:=by
 intro pins s σ H x y v u Q I rx ry h
 obtain⟨G,G',px,py,r1,r2,d1,d2,q⟩:=h
 exact PySem.W.cmp_ofNotEq (QP I r1 r2 rx ry d1 hu d2 X.prog X.w X.xe _ ⟨.bl _,H,I,rfl,q⟩)
def LF(neg:Bool):R2:=λx y H Q=>∃G G' px ys,Rep G H x px/\(Rep G' H y (.lst ys)\/Rep G' H y (.tup ys))/\px.dep<1000/\PV.deps ys<=60/\Q (.bl (if neg then !ys.any (λz=>z.eqB px) else ys.any λz=>z.eqB px)) H
theorem SK {vs:List V} {its:List Value} {ys:List PV} {px:PV} {G:Addr->Prop} (v:b9 vs its) (r:Reps G H vs ys) {e:Value->Bool} (he:∀(j:Nat) (y:PV) (u:Value),ys[j]? =some y->its[j]? =some u->e u=y.eqB px):its.toArray.any e=ys.any λz=>z.eqB px:=by
 have n1:=v.length
 have n2:=r.len
 rw[List.any_toArray]
 rw[a4x,a6e,a6e]
 constructor
 ·rintro⟨u,hu,h⟩
  obtain⟨j,hj,rfl⟩:=a2j hu
  refine⟨ys[j]'(by omega),a1k _,?_⟩
  rw[<- he j _ _ (a0a (by omega)) (a0a hj)];exact h
 ·rintro⟨y,hy,h⟩
  obtain⟨j,hj,rfl⟩:=a2j hy
  refine⟨its[j]'(by omega),a1k _,?_⟩
  rw[he j _ _ (a0a hj) (a0a (by omega))];exact h
open Classical in
theorem GY {A:Around} {G G':Addr->Prop} {vs:List V} {its:List Value} {ys:List PV} {px:PV} {x:V} {u:Value} (I:Inv X pins σ H s) (v:b9 vs its) (r:Reps G H vs ys) (rx:Rep G' H x px) (ru:bD x u) (hd:px.dep<1000) (hds:PV.deps ys<=60) (hu:A.units+60<cLine) :
  ∃e:Value->Bool,(∀y,y∈its.toArray->SeqAt.EqAt A s y u (e y))/\its.toArray.any e=ys.any λz=>z.eqB px:=by
 have n1:=v.length
 have n2:=r.len
 have ex:∀w,w∈its->∃b,SeqAt.EqAt A s w u b/\∀(j:Nat) (y:PV),ys[j]? =some y->its[j]? =some w->b=y.eqB px:=by
  intro w hw
  obtain⟨j,hj,rfl⟩:=a2j hw
  obtain⟨w1,e1,r1⟩:=v.get (a0a (l:=vs) (i:=j) (by omega))
  rw[a0a hj] at e1;cases e1
  have ry:=r.at_ j _ _ (a0a (by omega)) (a0a (l:=ys) (by omega))
  refine⟨(ys[j]'(by omega)).eqB px,eqAt_rep I 60 (by omega) ry rx r1 ru (a0y (PV.deps_le (a1k _)) hds) hu hd,λk y e1 e2=>?_⟩
  obtain⟨w2,e3,r3⟩:=v.get (a0a (l:=vs) (i:=k) (by have:=(a0j.mp e1).1;omega))
  rw[e2] at e3;cases e3
  have:=r1.inj r3
  have rk:=r.at_ k _ _ (a0a (by have:=(a0j.mp e1).1;omega)) e1
  rw[<- this] at rk
  rw[ry.inj rk]
 refine⟨λw=>if h:w∈its then (ex w h).choose else false,λy hy=>?_,SK v r λj y w e1 e2=>?_⟩
 ·have hy':y∈its:=by simpa using hy
  dsimp only
  rw[dif_pos hy']
  exact (ex y hy').choose_spec.1
 ·have hw:=a0u e2
  rw[dif_pos hw]
  exact (ex w hw).choose_spec.2 j y e1 e2
theorem a03 (hu:X.A.units+61<cLine):n6 X (compareOp .In) (LF false):=by
 intro pins s σ H x y v u Q I rx ry h
 obtain⟨G,G',px,ys,r1,r2,d1,d2,q⟩:=h
 rw[if_neg (by decide)] at q
 rcases r2 with r2|r2
 ·obtain⟨a,vs,rfl,g,e,rs⟩:=r2.ofList
  cases ry
  obtain⟨its,vv,hl,_⟩:=I.listR e
  obtain⟨f,h1,h2⟩:=GY (A:=X.A.in1) I vv rs r1 rx d1 d2 (by show X.A.units+1+60<cLine;omega)
  exact SeqAt.in_listAt f hl h1 (by rw[h2];exact⟨.bl _,H,I,rfl,q⟩)
 ·obtain⟨a,vs,rfl,e,rs⟩:=r2.ofTup
  cases ry
  obtain⟨its,vv,hl,_⟩:=I.tuple (dQ.of e)
  obtain⟨f,h1,h2⟩:=GY (A:=X.A.in1) I vv rs r1 rx d1 d2 (by show X.A.units+1+60<cLine;omega)
  exact SeqAt.in_tupleAt f hl h1 (by rw[h2];exact⟨.bl _,H,I,rfl,q⟩)
theorem V4 (hu:X.A.units+61<cLine):n6 X (compareOp .NotIn) (LF true):=by
 intro pins s σ H x y v u Q I rx ry h
 obtain⟨G,G',px,ys,r1,r2,d1,d2,q⟩:=h
 rw[if_pos rfl] at q
 rcases r2 with r2|r2
 ·obtain⟨a,vs,rfl,g,e,rs⟩:=r2.ofList
  cases ry
  obtain⟨its,vv,hl,_⟩:=I.listR e
  obtain⟨f,h1,h2⟩:=GY (A:=X.A.in1) I vv rs r1 rx d1 d2 (by show X.A.units+1+60<cLine;omega)
  exact SeqAt.notIn_listAt f hl h1 (by rw[h2];exact⟨.bl _,H,I,rfl,q⟩)
 ·obtain⟨a,vs,rfl,e,rs⟩:=r2.ofTup
  cases ry
  obtain⟨its,vv,hl,_⟩:=I.tuple (dQ.of e)
  obtain⟨f,h1,h2⟩:=GY (A:=X.A.in1) I vv rs r1 rx d1 d2 (by show X.A.units+1+60<cLine;omega)
  exact SeqAt.notIn_tupleAt f hl h1 (by rw[h2];exact⟨.bl _,H,I,rfl,q⟩)
end
theorem II{X:Cx}(hu:X.A.units+64<cLine):QOp X (compareOp .Eq) a14:=⟨a02 (by omega)⟩
theorem A8{X:Cx}(hu:X.A.units+64<cLine):QOp X (compareOp .NotEq) a19:=⟨a07 (by omega)⟩
theorem VX{X:Cx}(hu:X.A.units+64<cLine):QOp X (compareOp .In) (LF false):=⟨a03 (by omega)⟩
theorem CZ{X:Cx}(hu:X.A.units+64<cLine):QOp X (compareOp .NotIn) (LF true):=⟨V4 (by omega)⟩
abbrev k9{α:Type}:List α->Nat->Option α
 |[],_=>none
 |a::_,0=>some a
 |_::l,n+1=>k9 l n
theorem jH{α:Type}:∀(l:List α) (i:Nat),k9 l i=l[i]?
 |[],_=>by simp[k9]
 |a::l,0=>by simp[k9]
 |a::l,i+1=>by simp[k9,jH l i]
abbrev eU{α:Type}:List α->Nat->α->List α
 |[],_,_=>[]
 |_::l,0,b=>b::l
 |a::l,n+1,b=>a::eU l n b
theorem e8{α:Type}:∀(l:List α) (i:Nat) (b:α),eU l i b=l.set i b
 |[],_,_=>by simp[eU]
 |a::l,0,b=>by simp[eU]
 |a::l,i+1,b=>by simp[eU,e8 l i b]
abbrev aY:=bC->(PV->Prop)->Prop
abbrev fD:=bC->(Bool->Prop)->Prop
abbrev lU:=bC->(List PV->Prop)->Prop
abbrev P2:=PV->PV->(PV->Prop)->Prop
abbrev PN:=List PV->(PV->Prop)->Prop
def Br(b:Bool)(x y:Prop):Prop:=match b with
 |true=>x
 |false=>y
theorem X8{b:Bool}{x y:Prop}(h1:b=true->x)(h2:b=false->y):Br b x y:=by
 cases b with
 |true=>exact h1 rfl
 |false=>exact h2 rfl
def pC(x:PV):aY:=λ_ Q=>Q x
def a9(i:Nat):aY:=λenv Q=>match k9 env i with
 |some (some x)=>Q x
 |_=>False
def aQ(r:P2)(a b:aY):aY:=λenv Q=>a env λx=>b env λy=>r x y Q
def HU(r:PV->(PV->Prop)->Prop)(a:aY):aY:=λenv Q=>a env λx=>r x Q
def aF:lU:=λ_ Q=>Q []
def a8(a:aY)(r:lU):lU:=λenv Q=>a env λx=>r env λxs=>Q (x::xs)
def bN(r:PN)(a:lU):aY:=λenv Q=>a env λxs=>r xs Q
def gZ(a:aY):fD:=λenv Q=>a env λx=>match x with
 |.bl b=>Q b
 |_=>False
def xT(a b:aY):aY:=λenv Q=>a env λx=>match x with
 |.bl k=>Br k (b env Q) (Q (.bl false))
 |_=>False
def P5(a b:aY):aY:=λenv Q=>a env λx=>match x with
 |.bl k=>Br k (Q (.bl true)) (b env Q)
 |_=>False
def CD(a:aY):aY:=λenv Q=>a env λx=>match x with
 |.bl k=>Q (.bl (!k))
 |_=>False
def qO(a b:fD):fD:=λenv Q=>a env λk=>Br k (b env Q) (Q false)
def a2A(a b:fD):fD:=λenv Q=>a env λk=>Br k (Q true) (b env Q)
def L8(a:fD):fD:=λenv Q=>a env λk=>Q (!k)
def qQ(r r':P2)(a b c:aY):aY:=λenv Q=>a env λx=>b env λy=>r x y λz=>match z with
 |.bl k=>Br k (c env λw=>r' y w Q) (Q (.bl false))
 |_=>False
def iL(a:aY):aY:=λenv Q=>a env λx=>x.flat=true/\Q x
def lJ(B:Hp)(W:Wd)(H:Hp)(m:Md)(Q:PV->Prop)(K:VK):Prop:=∀(x:PV) (v:V) (W':Wd) (H':Hp),Go W H W' H'->ResE B H W' H' m v x->Q x->K v H'
def fH(K':Aa)(md:List Md)(m:Md)(p:aY):TE:=λσ H K=>∃(env:bC) (W0:Wd) (H0:Hp) (W:Wd) (Q:PV->Prop),Rl K' md W0 H0 W σ env H/\p env Q/\lJ H0 W H m Q K
def rO(K':Aa)(md:List Md)(p:fD):TT:=λσ H K=>∃(env:bC) (W0:Wd) (H0:Hp) (W:Wd) (Q:Bool->Prop),Rl K' md W0 H0 W σ env H/\p env Q/\∀(b:Bool) (W':Wd) (H':Hp),Go W H W' H'->Q b->K b H'
inductive ResEs(B H:Hp)(W':Wd)(H':Hp):List Md->List V->List PV->Prop where
 |nil:ResEs B H W' H' [] [] []
 |cons {m:Md} {v:V} {x:PV} {ms:List Md} {vs:List V} {xs:List PV}:ResE B H W' H' m v x->ResEs B H W' H' ms vs xs->ResEs B H W' H' (m::ms) (v::vs) (x::xs)
def a2D(B:Hp)(W:Wd)(H:Hp)(ms:List Md)(Q:List PV->Prop)(K:List V->Hp->Prop):Prop:=∀(xs:List PV) (vs:List V) (W':Wd) (H':Hp),Go W H W' H'->ResEs B H W' H' ms vs xs->Q xs->K vs H'
def XD(K':Aa)(md:List Md)(ms:List Md)(p:lU):TA:=λσ H K=>∃(env:bC) (W0:Wd) (H0:Hp) (W:Wd) (Q:List PV->Prop),Rl K' md W0 H0 W σ env H/\p env Q/\a2D H0 W H ms Q K
structure VE(X:Cx)(md:List Md)(e:Expr)(m:Md)(p:aY):Prop where
 h:PE X e (fH X.K md m p)
structure VT(X:Cx)(md:List Md)(e:Expr)(p:fD):Prop where
 h:PT X e (rO X.K md p)
structure VW(X:Cx)(md:List Md)(e:Expr)(p:fD):Prop where
 h:PW X e (rO X.K md p)
structure VA(X:Cx)(md:List Md)(es:List Expr)(ms:List Md)(p:lU):Prop where
 h:PA X es (XD X.K md ms p)
section
variable{X:Cx}{e:Expr}{es:List Expr}{t t':TE}
theorem PE.imp(h:PE X e t)(k:∀σ H K,t' σ H K->t σ H K):PE X e t':=λpins s σ H Q I q=>h pins s σ H Q I (k σ H Q q)
theorem PT.imp{t t':TT}(h:PT X e t)(k:∀σ H K,t' σ H K->t σ H K):PT X e t':=λpins s σ H Q I q=>h pins s σ H Q I (k σ H Q q)
theorem PW.imp{t t':TT}(h:PW X e t)(k:∀σ H K,t' σ H K->t σ H K):PW X e t':=λwh pins s σ H Q I q=>h wh pins s σ H Q I (k σ H Q q)
theorem PA.imp{t t':TA}(h:PA X es t)(k:∀σ H K,t' σ H K->t σ H K):PA X es t':=λpos pins s σ H Q I q=>h pos pins s σ H Q I (k σ H Q q)
end
section
variable{W W1 W2:Wd}{B H H1 H2:Hp}{m:Md}{el:El}{Q:PV->Prop}{K:VK}
theorem lJ.after(k:lJ B W H m Q K)(g:Go W H W1 H1):lJ B W1 H1 m Q K:=λx v W' H' g' r q=>k x v W' H' (g.trans g') (ResE.base g r) q
theorem ResEs.base{ms:List Md}{vs:List V}{xs:List PV}(g:Go W H W1 H1)(r:ResEs B H1 W2 H2 ms vs xs):ResEs B H W2 H2 ms vs xs:=by
 induction r with
 |nil=>exact .nil
 |cons h _ ih=>exact .cons (ResE.base g h) ih
theorem lJ.atom(k:lJ B W H (.v .fl) Q K)(w:Wok W H){v:V}{x:PV}(r:Rep (λ_=>False) H v x)(q:Q x):K v H:=k x v W H (Go.refl w) r q
theorem lJ.val(k:lJ B W H (.v el) Q K)(w:Wok W H){v:V}{x:PV}(r:Rep (el.G W.F B) H v x)(q:Q x):K v H:=k x v W H (Go.refl w) r q
theorem Go.laid (w:Wok W H) {p:Addr} {o:HO} (h:H p=none):Go W H W (bF H p o) where
 lF:=λ_ h=>h
 lS:=λ_ h=>h
 nF:=λ_ h=>.inl h
 nS:=λ_ h=>.inl h
 kp:=λa u e _=>by rw[aH (c9 e h)];exact e
 ok:=⟨λa f=>by obtain⟨u,e⟩:=w.fF a f;exact⟨u,by rw[aH (c9 e h)];exact e⟩,λa f=>by
  obtain⟨x1,x2,x3,e,z⟩:=w.sS a f
  exact⟨x1,x2,x3,by rw[aH (c9 e h)];exact e,z⟩,w.dj,λa f=>by obtain⟨u,e⟩:=w.zZ a f;exact⟨u,by rw[aH (c9 e h)];exact e⟩,w.zF,w.zS⟩
 kk:=rfl
 kl:=rfl
 lZ:=λ_ h=>h
 nZ:=λ_ h=>.inl h
theorem Wok.offF(w:Wok W H){p:Addr}(h:H p=none)(f:W.F p):False:=by
 obtain⟨o,e⟩:=w.fF p f
 rw[h] at e;cases e
theorem Wok.offS(w:Wok W H){p:Addr}(h:H p=none)(f:W.S p):False:=by
 obtain⟨_,_,_,e,_⟩:=w.sS p f
 rw[h] at e;cases e
theorem Wok.offZ(w:Wok W H){p:Addr}(h:H p=none)(f:W.Z p):False:=by
 obtain⟨o,e⟩:=w.zZ p f
 rw[h] at e;cases e
theorem lJ.newB(k:lJ B W H (.o el) Q K)(w:Wok W H){o:HO}{x:PV}{p:Addr}(h:H p=none)(r:Body (el.G W.F B) H o x)(q:Q x):K (.ref p) (bF H p o):=
 k x (.ref p) W _ (Go.laid w h) ⟨p,o,rfl,h,λf=>w.offF h f,λf=>w.offS h f,b5,(Go.laid w h).body w (λ_ g=>El.nS w g) (λ_ g=>g) r,λf=>w.offZ h f⟩ q
theorem lJ.newL(k:lJ B W H (.o el) Q K)(w:Wok W H){vs:List V}{xs:List PV}{p:Ac}(h:H p=none)(r:Reps (el.G W.F B) H vs xs)(q:Q (.lst xs)):K (.ref p) (bF H p (.lst vs)):=k.newB w h (.lst r) q
theorem lJ.newT(k:lJ B W H (.v el) Q K)(w:Wok W H){vs:List V}{xs:List PV}{p:Addr}(h:H p=none)(r:Reps (el.G W.F B) H vs xs)(q:Q (.tup xs)):K (.ref p) (bF H p (.tup vs)):=
 k (.tup xs) (.ref p) W _ (Go.laid w h) (.tup b5 r.len ((Go.laid w h).reps w (λ_ g=>El.nS w g) (λ_ g=>g) r).at_) q
end
section
variable{X:Cx}{md:List Md}{a b c e:Expr}{es:List Expr}{pa pb pc pe:aY}{m:Md}{el:El}{pos p:Pos}
theorem dC{n:Md}(h:VE X md e m pe)(hm:m.le n=true):VE X md e n pe:=⟨h.h.imp λσ H K=>by
 rintro⟨env,W0,H0,W,Q,R,q,k⟩
 exact⟨env,W0,H0,W,Q,R,q,λx v W' H' g r z=>k x v W' H' g (r.le g.ok hm) z⟩⟩
theorem gU(h:VE X md e (.o el) pe):VE X md e (.z el) pe:=⟨h.h.imp λσ H K=>by
 rintro⟨env,W0,H0,W,Q,R,q,k⟩
 refine⟨env,W0,H0,W,Q,R,q,λx v W' H' g r z=>?_⟩
 obtain⟨W2,g2,r2⟩:=R.go.freeze g r
 exact k x v W2 H' g2 r2 z⟩
theorem gJ(h:VE X md e .bw pe):VE X md e (.v .fl) (iL pe):=⟨h.h.imp λσ H K=>by
 rintro⟨env,W0,H0,W,Q,R,q,k⟩
 exact⟨env,W0,H0,W,λx=>x.flat=true/\Q x,R,q,λx v W' H' g r z=>k x v W' H' g (Rep.flat r z.1) z.2⟩⟩
def jI(a:aY):aY:=λenv Q=>a env λx=>match x with
 |.lst xs=>PV.flats xs=true/\Q (.lst xs)
 |_=>False
theorem k3 (h:VE X md e (.o el) pe):VE X md e (.o .fl) (jI pe):=⟨h.h.imp λσ H K=>by
 rintro⟨env,W0,H0,W,Q,R,q,k⟩
 refine⟨env,W0,H0,W,_,R,q,λx v W' H' g r z=>?_⟩
 cases x with
 | lst xs=>
  obtain⟨a,o,rfl,h1,h2,h3,h4,h5,h6⟩:=r
  cases h5 with
  |lst h5=>exact k _ _ W' H' g ⟨a,_,rfl,h1,h2,h3,h4,.lst (flats_reps h5 z.1),h6⟩ z.2
 |_=>exact z.elim⟩
theorem n0{v:V}{x:PV}(h:QE X e (tC v))(hr:∀H,Rep (λ_=>False) H v x):VE X md e (.v .fl) (pC x):=⟨h.h.imp λσ H K=>by
 rintro⟨env,W0,H0,W,Q,R,q,k⟩
 exact k.atom R.ok (hr H) q⟩
theorem aC{i j pos}:VE X md (.Constant (.int i) j pos) (.v .fl) (pC (.int i)):=n0 bE λ_=>.int _
theorem yS{b j pos}:VE X md (.Constant (.bool b) j pos) (.v .fl) (pC (.bl b)):=n0 a43 λ_=>.bl _
theorem eI{j pos}:VE X md (.Constant .none j pos) (.v .fl) (pC .non):=n0 a0Z λ_=>.non
theorem jM{x j pos}:VE X md (.Constant (.str x) j pos) (.v .fl) (pC (.str x)):=n0 a10 λ_=>.str _
theorem bG {i:Nat} (h:QE X e (eV i)) (hm:(md.getD i .no)=m) (hl:m.own=false):VE X md e m (a9 i):=⟨h.h.imp λσ H K=>by
 rintro⟨env,W0,H0,W,Q,R,q,k⟩
 unfold a9 at q
 rw[jH] at q
 cases e:env[i]? with
 |none=>rw[e] at q;exact q.elim
 | some o=>
  cases o with
  |none=>rw[e] at q;exact q.elim
  | some x=>
   rw[e] at q
   obtain⟨v,s,r⟩:=R.slot i x e
   rw[hm] at r
   refine⟨v,s,k x v W H (Go.refl R.ok) ?_ q⟩
   cases m<;>first|exact r|cases hl⟩
theorem AS {i:Nat} (h:QE X e (eV i)) (hm:md.getD i .no= .o el):VE X md e (.p el) (a9 i):=⟨h.h.imp λσ H K=>by
 rintro⟨env,W0,H0,W,Q,R,q,k⟩
 unfold a9 at q
 rw[jH] at q
 cases e:env[i]? with
 |none=>rw[e] at q;exact q.elim
 | some o=>
  cases o with
  |none=>rw[e] at q;exact q.elim
  | some x=>
   rw[e] at q
   obtain⟨v,s,r⟩:=R.slot i x e
   rw[hm] at r
   refine⟨v,s,k x v W H (Go.refl R.ok) ?_ q⟩
   obtain⟨a,o,rfl,h1⟩:=r
   exact .inr ⟨a,o,rfl,h1.nS,h1.at_,h1.its⟩⟩
structure SimOp(r:R2)(m:Md)(pr:P2):Prop where
 h:∀(B:Hp) (W:Wd) (H:Hp) (x y:V) (px py:PV) (Q:PV->Prop) (K:VK),Wok W H->Rep (λa=>¬W.S a) H x px->Rep (λa=>¬W.S a) H y py->pr px py Q->lJ B W H m Q K->r x y H K
theorem OG{K':PySem.W.Frag}{r:R2}{pr:P2}(hs:SimOp r m pr){σ:St}{H:Hp}{K:VK}(h:fH K' md m (aQ pr pa pb) σ H K):RH r (fH K' md .bw pa) (fH K' md .bw pb) σ H K:=by
 obtain⟨env,W0,H0,W,Q,R,q,k⟩:=h
 refine⟨env,W0,H0,W,_,R,q,λx v W1 H1 g1 r1 q1=>⟨env,W0,H0,W1,_,R.step g1,q1,λy u W2 H2 g2 r2 q2=>?_⟩⟩
 exact hs.h H0 W2 H2 v u x y Q K g2.ok (g2.bw g1.ok r1) r2 q2 (k.after (g1.trans g2))
theorem bI{op:Operator}{r:R2}{pr:P2}(ho:QOp X (binaryOp op) r)(hs:SimOp r m pr)(ha:VE X md a .bw pa)(hb:VE X md b .bw pb):VE X md (.BinOp a op b pos) m (aQ pr pa pb):=
 ⟨(CL ho.h ha.h hb.h).imp λ_ _ _ h=>OG hs h⟩
theorem AQ{op:CmpOp}{r:R2}{pr:P2}(ho:QOp X (compareOp op) r)(hs:SimOp r m pr)(ha:VE X md a .bw pa)(hb:VE X md b .bw pb)(hm:behindInMarks op b=false):VE X md (.Compare a [op] [b] pos) m (aQ pr pa pb):=
 ⟨(HW ho.h ha.h hb.h hm).imp λ_ _ _ h=>OG hs h⟩
theorem b7 {op:CmpOp} {r:R2} {pr:P2} (ho:QOp X (compareOp op) r) (hs:SimOp r (.v .fl) pr) (ha:VE X md a .bw pa) (hb:VE X md b .bw pb) (hm:behindInMarks op b=false):VT X md (.Compare a [op] [b] pos) (gZ (aQ pr pa pb)):=
 ⟨(ID ho.h ha.h hb.h hm).imp λσ H K=>by
  rintro⟨env,W0,H0,W,Q,R,q,k⟩
  refine OG (K:=λx H'=>∃c,x= .bl c/\K c H') hs ⟨env,W0,H0,W,_,R,q,λx v W' H' g r z=>?_⟩
  cases x with
  |bl c=>exact⟨c,Rep.ofBl r,k c W' H' g z⟩
  |_=>exact z.elim⟩
theorem a3C {K':PySem.W.Frag} {r r':R2} {pr pr':P2} (hs:SimOp r (.v .fl) pr) (hs':SimOp r' (.v .fl) pr') {σ:St} {H:Hp} {K:VK} (h:fH K' md (.v .fl) (qQ pr pr' pa pb pc) σ H K):RC r r' (fH K' md .bw pa) (fH K' md .bw pb) (fH K' md .bw pc) σ H K:=by
 obtain⟨env,W0,H0,W,Q,R,q,k⟩:=h
 refine⟨env,W0,H0,W,_,R,q,λx v W1 H1 g1 r1 q1=>⟨env,W0,H0,W1,_,R.step g1,q1,λy u W2 H2 g2 r2 q2=>?_⟩⟩
 refine hs.h H0 W2 H2 v u x y _ _ g2.ok (g2.bw g1.ok r1) r2 q2 λz w W3 H3 g3 r3 q3=>?_
 cases z with
 | bl c=>
  refine⟨c,Rep.ofBl r3,?_⟩
  cases c with
  | true=>
   rw[if_pos rfl]
   refine⟨env,W0,H0,W3,_,(R.step g1).step (g2.trans g3),q3,λz' w' W4 H4 g4 r4 q4=>?_⟩
   exact hs'.h H0 W4 H4 u w' y z' Q K g4.ok (g4.bw g3.ok (g3.bw g2.ok r2)) r4 q4 (k.after (((g1.trans g2).trans g3).trans g4))
  | false=>
   rw[if_neg a0i]
   exact (k.after ((g1.trans g2).trans g3)).atom g3.ok (.bl false) q3
 |_=>exact q3.elim
theorem RR {op op':CmpOp} {r r':R2} {pr pr':P2} (ho:QOp X (compareOp op) r) (ho':QOp X (compareOp op') r') (hs:SimOp r (.v .fl) pr) (hs':SimOp r' (.v .fl) pr') (ha:VE X md a .bw pa) (hb:VE X md b .bw pb) (hc:VE X md c .bw pc) (hm:lastMarks [op,op'] [b,c]=false:=by with_unfolding_all rfl) :
  VE X md (.Compare a [op,op'] [b,c] pos) (.v .fl) (qQ pr pr' pa pb pc):=⟨(PH ho.h ho'.h ha.h hb.h hc.h hm).imp λ_ _ _ h=>a3C hs hs' h⟩
theorem a50 {op:UnaryOp} {r:V->Hp->VK->Prop} {pr:PV->(PV->Prop)->Prop} (ho:QUn X (unaryOp op) r) (hs:∀(B:Hp) (W:Wd) (H:Hp) (x:V) (px:PV) (Q:PV->Prop) (K:VK),Wok W H->Rep (λa=>¬W.S a) H x px->pr px Q->lJ B W H m Q K->r x H K) (ha:VE X md a .bw pa) :
  VE X md (.UnaryOp op a pos) m (HU pr pa):=⟨(XJ ho.h ha.h).imp λσ H K=>by
 rintro⟨env,W0,H0,W,Q,R,q,k⟩
 exact⟨env,W0,H0,W,_,R,q,λx v W1 H1 g1 r1 q1=>hs H0 W1 H1 v x Q K g1.ok r1 q1 (k.after g1)⟩⟩
theorem AR{op}(h:VE X md a m pe):VE X md (.BoolOp op [a] pos) m pe:=⟨a0I h.h⟩
theorem RQ {rest:List Expr} (ha:VE X md a .bw pa) (hb:VE X md (.BoolOp .And (b::rest) pos) (.v .fl) pb):VE X md (.BoolOp .And (a::b::rest) pos) (.v .fl) (xT pa pb):=⟨(a0D ha.h hb.h).imp λσ H K=>by
 rintro⟨env,W0,H0,W,Q,R,q,k⟩
 refine⟨env,W0,H0,W,_,R,q,λx v W1 H1 g1 r1 q1=>?_⟩
 cases x with
 | bl c=>
  refine⟨c,Rep.ofBl r1,?_⟩
  cases c with
  |true=>rw[if_pos rfl];exact⟨env,W0,H0,W1,Q,R.step g1,q1,k.after g1⟩
  |false=>rw[if_neg a0i];exact (k.after g1).atom g1.ok (.bl false) q1
 |_=>exact q1.elim⟩
theorem a4Z {rest:List Expr} (ha:VE X md a .bw pa) (hb:VE X md (.BoolOp .Or (b::rest) pos) (.v .fl) pb):VE X md (.BoolOp .Or (a::b::rest) pos) (.v .fl) (P5 pa pb):=⟨(a3V ha.h hb.h).imp λσ H K=>by
 rintro⟨env,W0,H0,W,Q,R,q,k⟩
 refine⟨env,W0,H0,W,_,R,q,λx v W1 H1 g1 r1 q1=>?_⟩
 cases x with
 | bl c=>
  refine⟨c,Rep.ofBl r1,?_⟩
  cases c with
  |true=>rw[if_pos rfl];exact (k.after g1).atom g1.ok (.bl true) q1
  |false=>rw[if_neg a0i];exact⟨env,W0,H0,W1,Q,R.step g1,q1,k.after g1⟩
 |_=>exact q1.elim⟩
theorem a1Z(ha:VE X md a .bw pa):VE X md (.UnaryOp .Not a pos) (.v .fl) (CD pa):=⟨(a0H ha.h).imp λσ H K=>by
 rintro⟨env,W0,H0,W,Q,R,q,k⟩
 refine⟨env,W0,H0,W,_,R,q,λx v W1 H1 g1 r1 q1=>?_⟩
 cases x with
 |bl c=>exact⟨c,Rep.ofBl r1,(k.after g1).atom g1.ok (.bl _) q1⟩
 |_=>exact q1.elim⟩
theorem rH(h:VE X md e .bw pe)(he:∀whole,isTrue e X.env whole=(do let v <- whole;standAt e.pos;holding [v] (truthy v)):=by intro _;rfl):VT X md e (gZ pe):=⟨(a0U h.h he).imp λσ H K=>by
 rintro⟨env,W0,H0,W,Q,R,q,k⟩
 refine⟨env,W0,H0,W,_,R,q,λx v W1 H1 g1 r1 q1=>?_⟩
 cases x with
 |bl c=>exact⟨c,Rep.ofBl r1,k c W1 H1 g1 q1⟩
 |_=>exact q1.elim⟩
theorem a24{ptt:fD}(ha:VT X md a ptt):VT X md (.UnaryOp .Not a pos) (L8 ptt):=⟨(a0T ha.h).imp λσ H K=>by
 rintro⟨env,W0,H0,W,Q,R,q,k⟩
 exact⟨env,W0,H0,W,_,R,q,λc W1 H1 g1 q1=>k _ W1 H1 g1 q1⟩⟩
theorem mM{ptt:fD}(h:VW X md e ptt):VT X md e ptt:=⟨h.h.pt⟩
theorem i3{ptt:fD}(ha:VT X md a ptt):VW X md (.BoolOp .And [a] pos) ptt:=⟨VN ha.h⟩
theorem S3{ptt:fD}(ha:VT X md a ptt):VW X md (.BoolOp .Or [a] pos) ptt:=⟨a0W ha.h⟩
theorem l3{rest:List Expr}{pt pu:fD}(ha:VT X md a pt)(hb:VW X md (.BoolOp .And (b::rest) pos) pu):VW X md (.BoolOp .And (a::b::rest) pos) (qO pt pu):=⟨(a0V ha.h hb.h).imp λσ H K=>by
 rintro⟨env,W0,H0,W,Q,R,q,k⟩
 refine⟨env,W0,H0,W,_,R,q,λc W1 H1 g1 q1=>?_⟩
 cases c with
 |true=>rw[if_pos rfl];exact⟨env,W0,H0,W1,Q,R.step g1,q1,λb W2 H2 g2 q2=>k b W2 H2 (g1.trans g2) q2⟩
 |false=>rw[if_neg a0i];exact k _ W1 H1 g1 q1⟩
theorem XX{rest:List Expr}{pt pu:fD}(ha:VT X md a pt)(hb:VW X md (.BoolOp .Or (b::rest) pos) pu):VW X md (.BoolOp .Or (a::b::rest) pos) (a2A pt pu):=⟨(a40 ha.h hb.h).imp λσ H K=>by
 rintro⟨env,W0,H0,W,Q,R,q,k⟩
 refine⟨env,W0,H0,W,_,R,q,λc W1 H1 g1 q1=>?_⟩
 cases c with
 |true=>rw[if_pos rfl];exact k _ W1 H1 g1 q1
 |false=>rw[if_neg a0i];exact⟨env,W0,H0,W1,Q,R.step g1,q1,λb W2 H2 g2 q2=>k b W2 H2 (g1.trans g2) q2⟩⟩
theorem aB:VA X md [] [] aF:=⟨iN.imp λσ H K=>by
 rintro⟨env,W0,H0,W,Q,R,q,k⟩
 exact k [] [] W H (Go.refl R.ok) .nil q⟩
theorem a7{ms:List Md}{pr:lU}(ha:VE X md e m pe)(hr:VA X md es ms pr)(hs:starEach (e::es) X.env=(false,eval e X.env)::starEach es X.env:=by rfl):VA X md (e::es) (m::ms) (a8 pe pr):=⟨(eJ ha.h hr.h hs).imp λσ H K=>by
 rintro⟨env,W0,H0,W,Q,R,q,k⟩
 refine⟨env,W0,H0,W,_,R,q,λx v W1 H1 g1 r1 q1=>⟨env,W0,H0,W1,_,R.step g1,q1,λxs vs W2 H2 g2 r2 q2=>?_⟩⟩
 exact k (x::xs) (v::vs) W2 H2 (g1.trans g2) (.cons (r1.go g1.ok g2) (ResEs.base g1 r2)) q2⟩
theorem ResEs.reps{G:Addr->Prop}{B H H':Hp}{W':Wd}{ms:List Md}{vs:List V}{xs:List PV}(r:ResEs B H W' H' ms vs xs)(h:∀(m:Md) (v:V) (x:PV),m∈ms->ResE B H W' H' m v x->Rep G H' v x):Reps G H' vs xs:=by
 induction r with
 |nil=>exact .nil
 |cons h1 _ ih=>exact .cons (h _ _ _ a0m h1) (ih λm v x hm=>h m v x (a0k _ hm))
theorem ResEs.vs{B H H':Hp}{W':Wd}{ms:List Md}{vs:List V}{xs:List PV}(w:Wok W' H')(r:ResEs B H W' H' ms vs xs)(hm:ms.all (λm=>m.le (.v el))=true):Reps (el.G W'.F B) H' vs xs:=r.reps λm v x h q=>ResE.le q w (n:=.v el) (a0x.mp hm m h)
theorem ResEs.len{B H H':Hp}{W':Wd}{ms:List Md}{vs:List V}{xs:List PV}(r:ResEs B H W' H' ms vs xs):vs.length=xs.length/\ms.length=xs.length:=by
 induction r with
 |nil=>exact⟨rfl,rfl⟩
 |cons _ _ ih=>simp[ih]
def cP(a:lU):aY:=λenv Q=>a env λxs=>Q (.lst xs)
def dD(a:lU):aY:=λenv Q=>a env λxs=>Q (.tup xs)
theorem vW{ms:List Md}{vs:List V}{xs:List PV}{B H H':Hp}{W':Wd}(r:ResEs B H W' H' ms vs xs)(hl:ms.length<=1000):vs.length<=sizeLine:=by
 have:=r.len
 exact a0y (by omega:vs.length<=1000) (by decide)
theorem bL{ms:List Md}{pr:lU}(el:El)(h:VA X md es ms pr)(hm:ms.all (λm=>m.le (.v el))=true)(hl:ms.length<=1000:=by decide):VE X md (.List es pos) (.o el) (cP pr):=⟨(FH h.h).imp λσ H K=>by
 rintro⟨env,W0,H0,W,Q,R,q,k⟩
 exact⟨env,W0,H0,W,_,R,q,λxs vs W1 H1 g1 r1 q1=>⟨vW r1 hl,λp hp=>(k.after g1).newL g1.ok hp (r1.vs g1.ok hm) q1⟩⟩⟩
theorem bR{ms:List Md}{pr:lU}{x1}(el:El)(h:VA X md es ms pr)(hm:ms.all (λm=>m.le (.v el))=true)(hl:ms.length<=1000:=by decide):VE X md (.Tuple es x1 pos) (.v el) (dD pr):=⟨(a0M h.h).imp λσ H K=>by
 rintro⟨env,W0,H0,W,Q,R,q,k⟩
 exact⟨env,W0,H0,W,_,R,q,λxs vs W1 H1 g1 r1 q1=>⟨vW r1 hl,λp hp=>(k.after g1).newT g1.ok hp (r1.vs g1.ok hm) q1⟩⟩⟩
end
def pI(C:Int->Int->Prop)(f:Int->Int->PV):P2:=λx y Q=>match x,y with
 |.int i,.int j=>C i j/\Q (f i j)
 |_,_=>False
def A3(f:Int->Int->PV):P2:=λx y Q=>match x,y with
 |.int i,.int j=>Q (f i j)
 |_,_=>False
def pU(f:Int->PV):PV->(PV->Prop)->Prop:=λx Q=>match x with
 |.int i=>Q (f i)
 |_=>False
theorem XS {C:Int->Int->Prop} {f:Int->Int->Int}:SimOp (rI C λi j=>.int (f i j)) (.v .fl) (pI C λi j=>.int (f i j)):=⟨λB W H x y px py Q K w rx ry q k=>by
 cases px with
 | int i=>cases py with
  |int j=>exact⟨i,j,rx.ofInt,ry.ofInt,q.1,k.atom w (.int _) q.2⟩
  |_=>exact q.elim
 |_=>exact q.elim⟩
theorem QY {f:Int->Int->Int}:SimOp (wM λi j=>.int (f i j)) (.v .fl) (A3 λi j=>.int (f i j)):=⟨λB W H x y px py Q K w rx ry q k=>by
 cases px with
 | int i=>cases py with
  |int j=>exact⟨i,j,rx.ofInt,ry.ofInt,k.atom w (.int _) q⟩
  |_=>exact q.elim
 |_=>exact q.elim⟩
theorem FT {f:Int->Int->Bool}:SimOp (wM λi j=>.bl (f i j)) (.v .fl) (A3 λi j=>.bl (f i j)):=⟨λB W H x y px py Q K w rx ry q k=>by
 cases px with
 | int i=>cases py with
  |int j=>exact⟨i,j,rx.ofInt,ry.ofInt,k.atom w (.bl _) q⟩
  |_=>exact q.elim
 |_=>exact q.elim⟩
def xS:P2:=λx y Q=>match x,y with
 |.str i,.str j=>i.length+j.length<=sizeLine/\Q (.str (i++j))
 |_,_=>False
theorem D6:SimOp Q8 (.v .fl) xS:=⟨λB W H x y px py Q K w rx ry q k=>by
 cases px with
 | str i=>cases py with
  |str j=>exact⟨i,j,rx.ofStr,ry.ofStr,q.1,k.atom w (.str _) q.2⟩
  |_=>exact q.elim
 |_=>exact q.elim⟩
def a5A:P2:=λx y Q=>x.dep<=60/\y.dep<1000/\Q (.bl (x.eqB y))
def a3P:P2:=λx y Q=>x.dep<=60/\y.dep<1000/\Q (.bl (!x.eqB y))
theorem QZ:SimOp a14 (.v .fl) a5A:=⟨λB W H x y px py Q K w rx ry q k=>⟨_,_,px,py,rx,ry,q.1,q.2.1,k.atom w (.bl _) q.2.2⟩⟩
theorem FU:SimOp a19 (.v .fl) a3P:=⟨λB W H x y px py Q K w rx ry q k=>⟨_,_,px,py,rx,ry,q.1,q.2.1,k.atom w (.bl _) q.2.2⟩⟩
def a73:P2:=λx y Q=>match y with
 |.lst ys=>x.dep<1000/\PV.deps ys<=60/\Q (.bl (ys.any λz=>z.eqB x))
 |.tup ys=>x.dep<1000/\PV.deps ys<=60/\Q (.bl (ys.any λz=>z.eqB x))
 |_=>False
def P1:P2:=λx y Q=>match y with
 |.lst ys=>x.dep<1000/\PV.deps ys<=60/\Q (.bl (!ys.any λz=>z.eqB x))
 |.tup ys=>x.dep<1000/\PV.deps ys<=60/\Q (.bl (!ys.any λz=>z.eqB x))
 |_=>False
theorem a1H:SimOp (LF false) (.v .fl) a73:=⟨λB W H x y px py Q K w rx ry q k=>by
 cases py with
 |lst ys=>exact⟨_,_,px,ys,rx,.inl ry,q.1,q.2.1,k.atom w (.bl _) q.2.2⟩
 |tup ys=>exact⟨_,_,px,ys,rx,.inr ry,q.1,q.2.1,k.atom w (.bl _) q.2.2⟩
 |_=>exact q.elim⟩
theorem IQ:SimOp (LF true) (.v .fl) P1:=⟨λB W H x y px py Q K w rx ry q k=>by
 cases py with
 |lst ys=>exact⟨_,_,px,ys,rx,.inl ry,q.1,q.2.1,k.atom w (.bl _) q.2.2⟩
 |tup ys=>exact⟨_,_,px,ys,rx,.inr ry,q.1,q.2.1,k.atom w (.bl _) q.2.2⟩
 |_=>exact q.elim⟩
def PV.isNon:PV->Bool
 |.non=>true
 |_=>false
def L7:P2:=λx y Q=>match y with
 |.non=>Q (.bl x.isNon)
 |_=>False
def rT:P2:=λx y Q=>match y with
 |.non=>Q (.bl (!x.isNon))
 |_=>False
theorem HF{G:Addr->Prop}{H:Hp}{x:V}{px:PV}(r:Rep G H x px):decide (x= .non)=px.isNon:=by
 cases r<;>first|rfl|exact a1c (by intro z;cases z)
theorem IN:SimOp a15 (.v .fl) L7:=⟨λB W H x y px py Q K w rx ry q k=>by
 cases py with
 |non=>exact⟨ry.ofNon,by rw[HF rx];exact k.atom w (.bl _) q⟩
 |_=>exact q.elim⟩
theorem pP:SimOp QJ (.v .fl) rT:=⟨λB W H x y px py Q K w rx ry q k=>by
 cases py with
 |non=>exact⟨ry.ofNon,by rw[HF rx];exact k.atom w (.bl _) q⟩
 |_=>exact q.elim⟩
def cV:P2:=λx y Q=>match x,y with
 | .lst xs,.int i=>(match iV xs i with
  |some z=>Q z
  |none=>False)
 | .tup xs,.int i=>(match iV xs i with
  |some z=>Q z
  |none=>False)
 | .str s,.int i=>(match iV s.cps.toList i with
  |some c=>s.length<=sizeLine/\Q (.str ⟨#[c]⟩)
  |none=>False)
 |_,_=>False
theorem c4{xs:List PV}{i:Int}{z:PV}{Q:PV->Prop}(h:iV xs i=some z)(q:Q z):cV (.lst xs) (.int i) Q:=by unfold cV;simp only[h];exact q
theorem eE{xs:List PV}{i:Int}{z:PV}{Q:PV->Prop}(h:iV xs i=some z)(q:Q z):cV (.tup xs) (.int i) Q:=by unfold cV;simp only[h];exact q
theorem XH{s:Str}{i:Int}{c:Nat}{Q:PV->Prop}(h:iV s.cps.toList i=some c)(hl:s.length<=sizeLine)(q:Q (.str ⟨#[c]⟩)):cV (.str s) (.int i) Q:=by unfold cV;simp only[h];exact⟨hl,q⟩
theorem oH{G:Addr->Prop}{H:Hp}{vs:List V}{xs:List PV}(r:Reps G H vs xs){i:Int}{z:PV}(e:iV xs i=some z):∃v,iV vs i=some v/\Rep G H v z:=by
 unfold iV at e ⊢
 rw[r.len]
 cases h:sR xs.length i with
 |none=>rw[h] at e;cases e
 |some j=>rw[h] at e;exact r.get e
theorem RepP.ofList {G S:Addr->Prop} {H:Hp} {v:V} {xs:List PV} (r:RepP G S H v (.lst xs)):∃a vs,v= .ref a/\H a=some (.lst vs)/\Reps G H vs xs:=by
 rcases r with r|⟨a,o,rfl,_,e,b⟩
 ·obtain⟨a,vs,e1,_,e2,r⟩:=r.ofList;exact⟨a,vs,e1,e2,r⟩
 ·cases b with
  |lst h=>exact⟨a,_,rfl,e,h⟩
theorem RepP.ofTup{G S:Addr->Prop}{H:Hp}{v:V}{xs:List PV}(r:RepP G S H v (.tup xs)):∃a vs,v= .ref a/\H a=some (.tup vs)/\Reps G H vs xs:=by
 rcases r with r|⟨a,o,rfl,_,e,b⟩
 ·exact r.ofTup
 ·cases b
theorem RepP.ofDic {G S:Addr->Prop} {H:Hp} {v:V} {ks:List bA} {xs:List PV} (r:RepP G S H v (.dic ks xs)):∃a vs,v= .ref a/\H a=some (.dK (ks.zip vs))/\ks.length=vs.length/\Reps G H vs xs:=by
 rcases r with r|⟨a,o,rfl,_,e,b⟩
 ·obtain⟨a,vs,e1,_,e2,e3,r⟩:=r.ofDic;exact⟨a,vs,e1,e2,e3,r⟩
 ·cases b with
  |dic l h=>exact⟨a,_,rfl,e,l,h⟩
theorem RepP.ofStr{G S:Addr->Prop}{H:Hp}{v:V}{s:Str}(r:RepP G S H v (.str s)):v= .str s:=by
 rcases r with r|⟨a,o,rfl,_,e,b⟩
 ·exact r.ofStr
 ·cases b
section
variable{X:Cx}{md:List Md}{a b c e:Expr}{es:List Expr}{pa pb pc pe:aY}{m:Md}{el:El}{pos p:Pos}
theorem aJ (ha:VE X md a (.p el) pa) (hb:VE X md b .bw pb) (hp:∀o i,subscripted b false o i=operate [o,i] (getItem o i)):VE X md (.Subscript a b pos) (.v el) (aQ cV pa pb):=
 ⟨(HX EU ha.h hb.h hp).imp λσ H K=>by
  rintro⟨env,W0,H0,W,Q,R,q,k⟩
  refine⟨env,W0,H0,W,_,R,q,λx v W1 H1 g1 r1 q1=>⟨env,W0,H0,W1,_,R.step g1,q1,λy u W2 H2 g2 r2 q2=>?_⟩⟩
  have r1':RepP (el.G W2.F H0) W2.S H2 v x:=ResE.go (m:=.p el) r1 g1.ok g2
  have k2:=k.after (g1.trans g2)
  unfold cV at q2
  cases y with
  | int i=>
   have hy:=Rep.ofInt r2
   subst hy
   cases x with
   | lst xs=>
    dsimp only at q2
    obtain⟨a,vs,rfl,e,r⟩:=r1'.ofList
    cases h:iV xs i with
    |none=>rw[h] at q2;exact q2.elim
    | some z=>
     rw[h] at q2
     obtain⟨w,e1,e2⟩:=oH r h
     exact .inl ⟨a,vs,i,w,rfl,rfl,d9.of e,e1,k2.val g2.ok e2 q2⟩
   | tup xs=>
    dsimp only at q2
    obtain⟨a,vs,rfl,e,r⟩:=r1'.ofTup
    cases h:iV xs i with
    |none=>rw[h] at q2;exact q2.elim
    | some z=>
     rw[h] at q2
     obtain⟨w,e1,e2⟩:=oH r h
     exact .inr (.inl ⟨a,vs,i,w,rfl,rfl,dQ.of e,e1,k2.val g2.ok e2 q2⟩)
   | str s=>
    dsimp only at q2
    cases h:iV s.cps.toList i with
    |none=>rw[h] at q2;exact q2.elim
    | some c=>
     rw[h] at q2
     exact .inr (.inr ⟨s,i,c,r1'.ofStr,rfl,q2.1,h,k2.val g2.ok (.str _) q2.2⟩)
   |_=>exact q2.elim
  |_=>cases x<;>exact q2.elim⟩
abbrev MM:=bC->(Option Int->Prop)->Prop
def a3D(K':Aa)(md:List Md)(p:MM):TO:=λσ H K=>∃(env:bC) (W0:Wd) (H0:Hp) (W:Wd) (Q:Option Int->Prop),Rl K' md W0 H0 W σ env H/\p env Q/\∀(o:Option Int) (W':Wd) (H':Hp),Go W H W' H'->Q o->K o H'
structure VO(X:Cx)(md:List Md)(e:Option Expr)(p:MM):Prop where
 h:PO X e (a3D X.K md p)
def oV:MM:=λ_ Q=>Q none
def m9(a:aY):MM:=λenv Q=>a env λx=>match x with
 |.int i=>Q (some i)
 |_=>False
theorem PO.imp{eo:Option Expr}{t t':TO}(h:PO X eo t)(k:∀σ H K,t' σ H K->t σ H K):PO X eo t':=λpins s σ H Q I q=>h pins s σ H Q I (k σ H Q q)
theorem X1:VO X md none oV:=⟨VD.imp λσ H K=>by
 rintro⟨env,W0,H0,W,Q,R,q,k⟩
 exact k none W H (Go.refl R.ok) q⟩
theorem kZ(h:VE X md e .bw pe):VO X md (some e) (m9 pe):=⟨(VF h.h).imp λσ H K=>by
 rintro⟨env,W0,H0,W,Q,R,q,k⟩
 refine⟨env,W0,H0,W,_,R,q,λx v W1 H1 g1 r1 q1=>?_⟩
 cases x with
 |int i=>exact⟨i,Rep.ofInt r1,k _ W1 H1 g1 q1⟩
 |_=>exact q1.elim⟩
def qG{α:Type}(xs:List α)(lo hi:Option Int):List α:=(xs.drop (HT.sIx xs.length 0 lo)).take (HT.sIx xs.length xs.length hi-HT.sIx xs.length 0 lo)
theorem Reps.cut{G:Addr->Prop}{H:Hp}{vs:List V}{xs:List PV}(r:Reps G H vs xs)(lo hi:Option Int):Reps G H (BF vs lo hi) (qG xs lo hi):=by
 unfold BF qG
 rw[r.len]
 exact (r.drop _).take _
def LA(x:PV)(lo hi:Option Int)(Q:PV->Prop):Prop:=match x with
 |.lst xs=>Q (.lst (qG xs lo hi))
 |_=>False
def LB(x:PV)(lo hi:Option Int)(Q:PV->Prop):Prop:=match x with
 |.tup xs=>¬(HT.sIx xs.length 0 lo=0/\HT.sIx xs.length xs.length hi=xs.length)/\Q (.tup (qG xs lo hi))
 |_=>False
def jJ(r:PV->Option Int->Option Int->(PV->Prop)->Prop)(a:aY)(lo hi:MM):aY:=λenv Q=>a env λx=>lo env λl=>hi env λh=>r x l h Q
theorem vV {m1:Md} {r:V->Option Int->Option Int->Hp->VK->Prop} {pr:PV->Option Int->Option Int->(PV->Prop)->Prop} {lo hi:Option Expr} {pl ph:MM} {p2:Pos} (hr:QL X r) (he:VE X md e m1 pe) (hl:VO X md lo pl) (hu:VO X md hi ph)
  (hs:∀(B H0:Hp) (W:Wd) (H:Hp) (v:V) (x:PV) (l h:Option Int) (Q:PV->Prop) (K:VK),Wok W H->ResE B H0 W H m1 v x->pr x l h Q->lJ B W H m Q K->r v l h H K):VE X md (.Subscript e (.Slice lo hi none p2) pos) m (jJ pr pe pl ph):=
 ⟨(PL hr.h he.h hl.h hu.h).imp λσ H K=>by
  rintro⟨env,W0,H0,W,Q,R,q,k⟩
  refine⟨env,W0,H0,W,_,R,q,λx v W1 H1 g1 r1 q1=>⟨env,W0,H0,W1,_,R.step g1,q1,λl W2 H2 g2 q2=>⟨env,W0,H0,W2,_,(R.step g1).step g2,q2,λh W3 H3 g3 q3=>?_⟩⟩⟩
  exact hs H0 H W3 H3 v x l h Q K g3.ok ((r1.go g1.ok g2).go g2.ok g3) q3 (k.after ((g1.trans g2).trans g3))⟩
theorem RT {lo hi:Option Expr} {pl ph:MM} {p2:Pos} (he:VE X md e (.p el) pe) (hl:VO X md lo pl) (hu:VO X md hi ph):VE X md (.Subscript e (.Slice lo hi none p2) pos) (.o el) (jJ LA pe pl ph):=
 vV VR he hl hu λB H0 W H v x l h Q K w r q k=>by
  cases x with
  | lst xs=>
   obtain⟨a,vs,rfl,e,rs⟩:=RepP.ofList r
   exact⟨a,vs,rfl,d9.of e,λp hp=>k.newL w hp (rs.cut l h) q⟩
  |_=>exact q.elim
theorem RU {lo hi:Option Expr} {pl ph:MM} {p2:Pos} (he:VE X md e (.p el) pe) (hl:VO X md lo pl) (hu:VO X md hi ph):VE X md (.Subscript e (.Slice lo hi none p2) pos) (.v el) (jJ LB pe pl ph):=
 vV a11 he hl hu λB H0 W H v x l h Q K w r q k=>by
  cases x with
  | tup xs=>
   obtain⟨a,vs,rfl,e,rs⟩:=RepP.ofTup r
   exact⟨a,vs,rfl,dQ.of e,by rw[rs.len];exact q.1,λp hp=>k.newT w hp (rs.cut l h) q.2⟩
  |_=>exact q.elim
def A1:P2:=λx y Q=>match x,y with
 |.lst xs,.lst ys=>xs.length+ys.length<=sizeLine/\Q (.lst (xs++ys))
 |_,_=>False
theorem vZ (ha:VE X md a (.p el) pa) (hb:VE X md b (.p el) pb):VE X md (.BinOp a .Add b pos) (.o el) (aQ A1 pa pb):=
 ⟨(CL a01 ha.h hb.h).imp λσ H K=>by
  rintro⟨env,W0,H0,W,Q,R,q,k⟩
  refine⟨env,W0,H0,W,_,R,q,λx v W1 H1 g1 r1 q1=>⟨env,W0,H0,W1,_,R.step g1,q1,λy u W2 H2 g2 r2 q2=>?_⟩⟩
  have k2:=k.after (g1.trans g2)
  have r1':RepP (el.G W2.F H0) W2.S H2 v x:=ResE.go (m:=.p el) r1 g1.ok g2
  cases x with
  | lst xs=>cases y with
   | lst ys=>
    obtain⟨a,vs,rfl,e,rs⟩:=r1'.ofList
    obtain⟨b,us,rfl,e',rs'⟩:=RepP.ofList r2
    exact⟨a,b,vs,us,rfl,rfl,e,e',by rw[rs.len,rs'.len];exact q2.1,λp hp=>k2.newL g2.ok hp (rs.append rs') q2.2⟩
   |_=>exact q2.elim
  |_=>exact q2.elim⟩
def FD:P2:=λx y Q=>match x,y with
 |.lst xs,.int k=>-(2^63)<=k/\k<2^63/\xs.length*k.toNat<=sizeLine/\Q (.lst (List.replicate k.toNat xs).flatten)
 |_,_=>False
theorem G2 (ha:VE X md a (.p el) pa) (hb:VE X md b .bw pb):VE X md (.BinOp a .Mult b pos) (.o el) (aQ FD pa pb):=
 ⟨(CL a09 ha.h hb.h).imp λσ H K=>by
  rintro⟨env,W0,H0,W,Q,R,q,k⟩
  refine⟨env,W0,H0,W,_,R,q,λx v W1 H1 g1 r1 q1=>⟨env,W0,H0,W1,_,R.step g1,q1,λy u W2 H2 g2 r2 q2=>?_⟩⟩
  have k2:=k.after (g1.trans g2)
  have r1':RepP (el.G W2.F H0) W2.S H2 v x:=ResE.go (m:=.p el) r1 g1.ok g2
  cases x with
  | lst xs=>cases y with
   | int n=>
    obtain⟨a,vs,rfl,e,rs⟩:=r1'.ofList
    have hu:=Rep.ofInt r2
    subst hu
    exact⟨a,n,vs,rfl,rfl,e,q2.1,q2.2.1,by rw[rs.len];exact q2.2.2.1,λp hp=>k2.newL g2.ok hp (rs.rep _) q2.2.2.2⟩
   |_=>exact q2.elim
  |_=>exact q2.elim⟩
structure SimC(r:List V->Hp->VK->Prop)(ms:List Md)(m:Md)(pr:PN):Prop where
 h:∀(B H0:Hp) (W:Wd) (H:Hp) (vs:List V) (xs:List PV) (Q:PV->Prop) (K:VK),Wok W H->ResEs B H0 W H ms vs xs->pr xs Q->lJ B W H m Q K->r vs H K
theorem HN{K':PySem.W.Frag}{r:List V->Hp->VK->Prop}{ms:List Md}{pr:PN}{pt:lU}(hs:SimC r ms m pr){σ:St}{H:Hp}{K:VK}(h:fH K' md m (bN pr pt) σ H K):XT r (XD K' md ms pt) σ H K:=by
 obtain⟨env,W0,H0,W,Q,R,q,k⟩:=h
 exact⟨env,W0,H0,W,_,R,q,λxs vs W1 H1 g1 r1 q1=>hs.h H0 H W1 H1 vs xs Q K g1.ok r1 q1 (k.after g1)⟩
theorem b8 {id:String} {x:Str} {r:List V->Hp->VK->Prop} {ms:List Md} {pr:PN} {pt:lU} (hc:QC X (.builtin id) r) (hs:SimC r ms m pr) (hg:X.env.scope.names.lookup x=some .globalImplicit) (hm:X.mg x=none) (hv:bootBuiltins x=some (.builtin id)) (ha:VA X md (e::es) ms pt) (hn:x≠ "__name__") (hdb:(x==("__debug__" : Str))=false)
  (he:starEach (e::es) X.env=(false,eval e X.env)::starEach es X.env:=by rfl) (hpl:(backTo pos (starEach es X.env)).any (·.1)=false:=by rfl):VE X md (.Call (.Name x p) (e::es) [] pos) m (bN pr pt):=⟨(jX hc.h hg hm hv ha.h hn hdb he hpl).imp λ_ _ _ h=>HN hs h⟩
theorem gF {T:String} {x:Str} {r:List V->Hp->VK->Prop} {ms:List Md} {pr:PN} {pt:lU} (hc:QC X (.type T) r) (hs:SimC r ms m pr) (hg:X.env.scope.names.lookup x=some .globalImplicit) (hm:X.mg x=none) (hv:bootBuiltins x=some (.type T)) (ha:VA X md (e::es) ms pt) (hn:x≠ "__name__") (hdb:(x==("__debug__" : Str))=false)
  (he:starEach (e::es) X.env=(false,eval e X.env)::starEach es X.env:=by rfl) (hpl:(backTo pos (starEach es X.env)).any (·.1)=false:=by rfl):VE X md (.Call (.Name x p) (e::es) [] pos) m (bN pr pt):=⟨(gB hc.h hg hm hv ha.h hn hdb he hpl).imp λ_ _ _ h=>HN hs h⟩
theorem ResEs.one{B H H':Hp}{W:Wd}{m:Md}{vs:List V}{xs:List PV}(r:ResEs B H W H' [m] vs xs):∃v x,vs=[v]/\xs=[x]/\ResE B H W H' m v x:=by
 cases r with
 |cons h t=>cases t;exact⟨_,_,rfl,rfl,h⟩
theorem ResEs.two{B H H':Hp}{W:Wd}{m n:Md}{vs:List V}{xs:List PV}(r:ResEs B H W H' [m,n] vs xs):∃v x u y,vs=[v,u]/\xs=[x,y]/\ResE B H W H' m v x/\ResE B H W H' n u y:=by
 cases r with
 |cons h t=>obtain⟨u,y,rfl,rfl,h2⟩:=t.one;exact⟨_,_,_,_,rfl,rfl,h,h2⟩
def m8:PN:=λxs Q=>match xs with
 |[.lst ys]=>Q (.int ys.length)
 |[.tup ys]=>Q (.int ys.length)
 |[.str s]=>s.length<=sizeLine/\Q (.int s.length)
 |_=>False
def XQ(K':Aa):List V->Hp->VK->Prop:=λxs H Q=>∃x n,xs=[x]/\a2E K' x H n/\Q (.int n) H
theorem dZ:QC X (.builtin "len") (XQ X.K):=⟨N7⟩
theorem eL {K':PySem.W.Frag}:SimC (XQ K') [.bw] (.v .fl) m8:=⟨λB H0 W H vs xs Q K w r q k=>by
 obtain⟨v,x,rfl,rfl,r1⟩:=r.one
 clear r
 have r:Rep (λa=>¬W.S a) H v x:=r1
 unfold m8 at q
 cases x with
 | lst ys=>
  obtain⟨a,vs,rfl,_,e,rs⟩:=r.ofList
  exact⟨.ref a,vs.length,rfl,.inl ⟨vs,d9.of e,rfl⟩,by rw[rs.len];exact k.atom w (.int _) q⟩
 | tup ys=>
  obtain⟨a,vs,rfl,e,rs⟩:=r.ofTup
  exact⟨.ref a,vs.length,rfl,.inr ⟨vs,dQ.of e,rfl⟩,by rw[rs.len];exact k.atom w (.int _) q⟩
 |str s=>exact⟨v,s.length,rfl,by rw[r.ofStr];exact⟨q.1,rfl⟩,k.atom w (.int _) q.2⟩
 |_=>exact q.elim⟩
def oU:PN:=λxs Q=>match xs with
 |[.scr ns]=>Q (.int ns.length)
 |_=>False
theorem LS {pt:lU} (hg:X.env.scope.names.lookup ("len" : Str)=some .globalImplicit) (hm:X.mg "len"=none) (hv:bootBuiltins "len"=some (.builtin "len")) (ha:VA X md [e] [.scr] pt)
  (he:starEach [e] X.env=(false,eval e X.env)::starEach [] X.env:=by rfl) (hpl:(backTo pos (starEach [] X.env)).any (·.1)=false:=by rfl):VE X md (.Call (.Name "len" p) [e] [] pos) (.v .fl) (bN oU pt):=⟨(jX (dZ).h hg hm hv ha.h (by decide) (by decide) he hpl).imp λσ H K h=>by
 obtain⟨env,W0,H0,W,Q,R,q,k⟩:=h
 refine⟨env,W0,H0,W,_,R,q,λxs vs W1 H1 g1 r1 q1=>?_⟩
 obtain⟨v,x,rfl,rfl,r⟩:=r1.one
 obtain⟨a,ns,rfl,rfl,sc⟩:=r
 refine⟨.ref a,ns.length,rfl,.inl ⟨ns.map V.int,by have:=sc.sq;rw[(R.step g1).kk] at this;exact this,by simp⟩,(k.after g1).atom g1.ok (.int _) q1⟩⟩
def xU:PN:=λxs Q=>match xs with
 |[.int i,.int j]=>Q (.int (max i j))
 |_=>False
def xV:PN:=λxs Q=>match xs with
 |[.int i,.int j]=>Q (.int (min i j))
 |_=>False
theorem D8:SimC D1 [.bw,.bw] (.v .fl) xU:=⟨λB H0 W H vs xs Q K w r q k=>by
 obtain⟨v,x,u,y,rfl,rfl,r1,r2⟩:=r.two
 cases x with
 | int i=>cases y with
  | int j=>
   refine⟨i,j,by rw[Rep.ofInt r1,Rep.ofInt r2],?_⟩
   have:(if j>i then j else i)=max i j:=by rw[Int.max_def];split<;>split<;>omega
   rw[this];exact k.atom w (.int _) q
  |_=>exact q.elim
 |_=>exact q.elim⟩
theorem D9:SimC QH [.bw,.bw] (.v .fl) xV:=⟨λB H0 W H vs xs Q K w r q k=>by
 obtain⟨v,x,u,y,rfl,rfl,r1,r2⟩:=r.two
 cases x with
 | int i=>cases y with
  | int j=>
   refine⟨i,j,by rw[Rep.ofInt r1,Rep.ofInt r2],?_⟩
   have:(if j<i then j else i)=min i j:=by rw[Int.min_def];split<;>split<;>omega
   rw[this];exact k.atom w (.int _) q
  |_=>exact q.elim
 |_=>exact q.elim⟩
def rS:PN:=λxs Q=>match xs with
 |[.int i]=>Q (.int i)
 |[.bl b]=>Q (.int (if b then 1 else 0))
 |_=>False
theorem D7:SimC D0 [.bw] (.v .fl) rS:=⟨λB H0 W H vs xs Q K w r q k=>by
 obtain⟨v,x,rfl,rfl,r1⟩:=r.one
 clear r
 have r:=r1
 cases x with
 |int i=>exact .inl ⟨i,by rw[Rep.ofInt r],k.atom w (.int _) q⟩
 |bl b=>exact .inr ⟨b,by rw[Rep.ofBl r],k.atom w (.int _) q⟩
 |_=>exact q.elim⟩
def hV:PN:=λxs Q=>match xs with
 |[.lst ys]=>Q (.lst ys)
 |[.tup ys]=>Q (.lst ys)
 |_=>False
theorem kX {K':PySem.W.Frag}:SimC (AC K') [.p el] (.o el) hV:=⟨λB H0 W H vs xs Q K w r q k=>by
 obtain⟨v,x,rfl,rfl,r1⟩:=r.one
 clear r
 have r:RepP (el.G W.F B) W.S H v x:=r1
 cases x with
 | lst ys=>
  obtain⟨a,vs,rfl,e,rs⟩:=r.ofList
  exact⟨a,vs,rfl,.inl (d9.of e),λl hl=>k.newL w hl rs q⟩
 | tup ys=>
  obtain⟨a,vs,rfl,e,rs⟩:=r.ofTup
  exact⟨a,vs,rfl,.inr (dQ.of e),λl hl=>k.newL w hl rs q⟩
 |_=>exact q.elim⟩
def PV.kind:PV->Option String
 |.non=>some "NoneType"
 |.bl _=>some "bool"
 |.int _=>some "int"
 |.str _=>some "str"
 |.lst _=>some "list"
 |.tup _=>some "tuple"
 |.dic _ _=>some "dict"
 |_=>none
def CC:PN:=λxs Q=>match xs with
 | [x,.ty n]=>(match x.kind with
  | some t=>(match KO t n with
   |some b=>Q (.bl b)
   |none=>False)
  |none=>False)
 |_=>False
theorem UJ{K':PySem.W.Frag}{G:Addr->Prop}{H:Hp}{v:V}{x:PV}{t:String}(r:Rep G H v x)(h:x.kind=some t):TyOf K' H v (.type t):=by
 cases r with
 |non=>cases h;exact .non
 |bl b=>cases h;exact .bl _
 |int i=>cases h;exact .int _
 |str y=>cases h;exact .str _
 |lst g e l _=>cases h;exact .lst e
 |tup e l _=>cases h;exact .tup e
 |dic g e l1 l _=>cases h;exact .dK e
 |ty n=>cases h
 |set e=>cases h
theorem IP {K':PySem.W.Frag}:SimC (a16 K') [.bw,.bw] (.v .fl) CC:=⟨λB H0 W H vs xs Q K w r q k=>by
 obtain⟨v,x,u,y,rfl,rfl,r1,r2⟩:=r.two
 unfold CC at q
 cases y with
 | ty n=>
  dsimp only at q
  cases h:x.kind with
  |none=>rw[h] at q;exact q.elim
  | some t=>
   rw[h] at q
   dsimp only at q
   cases h2:KO t n with
   |none=>rw[h2] at q;exact q.elim
   | some b=>
    rw[h2] at q
    exact⟨v,n,.type t,b,by rw[Rep.ofTy r2],UJ r1 h,(ZP _ _ _).trans h2,k.atom w (.bl _) q⟩
 |_=>exact q.elim⟩
def PV.ints:List PV->Option (List Int)
 |[]=>some []
 |.int i::xs=>(PV.ints xs).map (i::·)
 |_=>none
theorem PV.ints_map:∀(ns:List Int),PV.ints (ns.map PV.int)=some ns
 |[]=>rfl
 |n::ns=>by rw[a0h,PV.ints,PV.ints_map ns];rfl
theorem PV.ints_of:∀ {xs:List PV} {ns:List Int},PV.ints xs=some ns->xs=ns.map PV.int
 |[],ns,h=>by cases h;rfl
 | .int i::xs,ns,h=>by
  rw[PV.ints] at h
  cases h2:PV.ints xs with
  |none=>rw[h2] at h;cases h
  |some ms=>rw[h2] at h;cases h;rw[PV.ints_of h2];rfl
 |.non::_,_,h=>by cases h
 |.bl _::_,_,h=>by cases h
 |.str _::_,_,h=>by cases h
 |.ty _::_,_,h=>by cases h
 |.st::_,_,h=>by cases h
 |.scr _::_,_,h=>by cases h
 |.set _ _::_,_,h=>by cases h
 |.lst _::_,_,h=>by cases h
 |.tup _::_,_,h=>by cases h
 |.dic _ _::_,_,h=>by cases h
theorem Reps.ints {G:Addr->Prop} {H:Hp} {vs:List V} {ns:List Int} (r:Reps G H vs (ns.map PV.int)):vs=ns.map V.int:=by
 refine a5e λi=>?_
 cases h:vs[i]? with
 | none=>
  rw[a0g,a2a];rfl
  have:=a2o.mp h
  have:=r.len
  simp at this;omega
 | some v=>
  obtain⟨x,e,rx⟩:=r.getV h
  rw[a0g] at e ⊢
  cases h2:ns[i]? with
  |none=>rw[h2] at e;cases e
  |some n=>rw[h2] at e;cases e;rw[rx.ofInt];rfl
def FE:PN:=λxs Q=>match xs with
 | [.lst ys]=>(match PV.ints ys with
  |some ns=>Q (.int ns.sum)
  |none=>False)
 |_=>False
theorem FF{ns:List Int}{Q:PV->Prop}(q:Q (.int ns.sum)):FE [.lst (ns.map PV.int)] Q:=by unfold FE;simp only[PV.ints_map];exact q
theorem AH:SimC a1A [.bw] (.v .fl) FE:=⟨λB H0 W H vs xs Q K w r q k=>by
 obtain⟨v,x,rfl,rfl,r1⟩:=r.one
 clear r
 have r:=r1
 unfold FE at q
 cases x with
 | lst ys=>
  dsimp only at q
  cases h:PV.ints ys with
  |none=>rw[h] at q;exact q.elim
  | some ns=>
   rw[h] at q
   rw[PV.ints_of h] at r
   obtain⟨a,vs,rfl,_,e,rs⟩:=Rep.ofList r
   rw[rs.ints] at e
   exact⟨a,ns,rfl,e,k.atom w (.int _) q⟩
 |_=>exact q.elim⟩
def l8:List Int->List Int:=λns=>ns.mergeSort (λa b=>decide (a<=b))
theorem cL(ns:List Int):(l8 ns).Perm ns:=List.mergeSort_perm _ _
theorem kJ(ns:List Int):(l8 ns).Pairwise (·<=·):=by
 have:=List.pairwise_mergeSort (le:=λ(a b:Int)=>decide (a<=b)) (λa b c=>by simp;omega) (λa b=>by simp;omega) ns
 exact this.imp λh=>by simpa using h
theorem nN:∀ {as bs:List Int},as.Perm bs->as.Pairwise (·<=·)->bs.Pairwise (·<=·)->as=bs:=λh1 h2 h3=>h1.eq_of_pairwise (λa b _ _ h1 h2=>Int.le_antisymm h1 h2) h2 h3
theorem jZ{G:Addr->Prop}{H:Hp}(ns:List Int):Reps G H (ns.map V.int) (ns.map PV.int):=⟨by simp,λi v x e1 e2=>by
 rw[a0g] at e1 e2
 cases h:ns[i]? with
 |none=>rw[h] at e1;cases e1
 |some n=>rw[h] at e1 e2;cases e1;cases e2;exact .int _⟩
end
structure PEnds where
 nx:bC->Prop
 rt:PV->Prop
 bk:bC->Prop:=λ_=>False
 ct:bC->Prop:=λ_=>False
abbrev bO:=PEnds->bC->Prop
structure Ex(W:Wd)(H:Hp)(W':Wd)(H':Hp):Prop where
 lF:∀a,W.F a->W'.F a
 kp:∀a o,W.F a->H a=some o->H' a=some o
 im:∀a o,o.imm=true->H a=some o->H' a=some o
section
variable{W W' W1 W2:Wd}{H H' H1 H2:Hp}
theorem Ex.refl:Ex W H W H:=⟨λ_ h=>h,λ_ _ _ h=>h,λ_ _ _ h=>h⟩
theorem Ex.trans(a:Ex W H W1 H1)(b:Ex W1 H1 W2 H2):Ex W H W2 H2:=⟨λx h=>b.lF x (a.lF x h),λx o h e=>b.kp x o (a.lF x h) (a.kp x o h e),λx o i e=>b.im x o i (a.im x o i e)⟩
theorem Go.ex(g:Go W H W' H')(w:Wok W H):Ex W H W' H':=⟨g.lF,λa o f e=>g.kp a o e (w.dj a f),λa o i e=>g.kp a o e (w.imm e i)⟩
theorem Ex.rep(x:Ex W H W' H'){G G':Ac->Prop}(hF:∀a,G a->W.F a)(hG:∀a,G a->G' a){v:V}{p:PV}(r:Rep G H v p):Rep G' H' v p:=r.mono hG λa o h e=>h.elim (λg=>x.kp a o (hF a g) e) λi=>x.im a o i e
end
structure Lnk(K:PySem.W.Frag)(mn lm:List Md)(rm:Md)(W0:Wd)(H0:Hp)(W:Wd)(H:Hp)(E:PEnds)(D:Ends):Prop where
 nx:∀(env:bC) (W':Wd) (σ:St) (H':Hp),Rl K mn W0 H0 W' σ env H'->Ex W H W' H'->E.nx env->D.nx σ H'
 rt:∀(x:PV) (v:V) (W':Wd) (H':Hp),Go W0 H0 W' H'->ResE H0 H0 W' H' rm v x->E.rt x->D.rt v H'
 bk:∀(env:bC) (W':Wd) (σ:St) (H':Hp),Rl K lm W0 H0 W' σ env H'->Ex W H W' H'->E.bk env->D.bk σ H'
 ct:∀(env:bC) (W':Wd) (σ:St) (H':Hp),Rl K lm W0 H0 W' σ env H'->Ex W H W' H'->E.ct env->D.ct σ H'
theorem Lnk.after{K:PySem.W.Frag}{mn lm:List Md}{rm:Md}{W0 W W1:Wd}{H0 H H1:Hp}{E:PEnds}{D:Ends}(l:Lnk K mn lm rm W0 H0 W H E D)(x:Ex W H W1 H1):Lnk K mn lm rm W0 H0 W1 H1 E D:=
 ⟨λe W' s H' r y=>l.nx e W' s H' r (x.trans y),l.rt,λe W' s H' r y=>l.bk e W' s H' r (x.trans y),λe W' s H' r y=>l.ct e W' s H' r (x.trans y)⟩
def HM(K:Aa)(md mn lm:List Md)(rm:Md)(p:bO):TS:=λD σ H=>∃(env:bC) (W0:Wd) (H0:Hp) (W:Wd) (E:PEnds),Rl K md W0 H0 W σ env H/\p E env/\Lnk K mn lm rm W0 H0 W H E D
structure VS(X:Cx)(md mn lm:List Md)(rm:Md)(s:Stmt)(p:bO):Prop where
 h:PS X s (HM X.K md mn lm rm p)
structure VSs(X:Cx)(md mn lm:List Md)(rm:Md)(s:List Stmt)(p:bO):Prop where
 h:wV X s (HM X.K md mn lm rm p)
theorem PS.imp{X:Cx}{s:Stmt}{t t':TS}(h:PS X s t)(k:∀D σ H,t' D σ H->t D σ H):PS X s t':=λpins s σ H D I q=>h pins s σ H D I (k D σ H q)
theorem wV.imp{X:Cx}{s:List Stmt}{t t':TS}(h:wV X s t)(k:∀D σ H,t' D σ H->t D σ H):wV X s t':=λpins s σ H D I q=>h pins s σ H D I (k D σ H q)
def aO:bO:=λE env=>E.nx env
def aL(p q:bO):bO:=λE env=>p {E with nx:=q E} env
def g9(c:fD)(a b:bO):bO:=λE env=>c env λk=>Br k (a E env) (b E env)
def bY(a:aY):bO:=λE env=>a env E.rt
def bK(i:Nat)(a:aY):bO:=λE env=>a env λx=>E.nx (eU env i (some x))
section
variable{X:Cx}{md m1 mn lm:List Md}{rm m:Md}{el:El}{s:Stmt}{ss th el':List Stmt}{p q:bO}{e c:Expr}{pe:aY}{pc:fD}{pos:Pos}{i:Nat}
theorem aK:VSs X md md lm rm [] aO:=⟨IB.imp λD σ H=>by
 rintro⟨env,W0,H0,W,E,R,q,l⟩
 exact l.nx env W σ H R .refl q⟩
theorem aA(h1:VS X md m1 lm rm s p)(h2:VSs X m1 mn lm rm ss q):VSs X md mn lm rm (s::ss) (aL p q):=⟨(CO h1.h h2.h).imp λD σ H=>by
 rintro⟨env,W0,H0,W,E,R,q,l⟩
 exact⟨env,W0,H0,W,_,R,q,λe W' s H' r x z=>⟨e,W0,H0,W',E,r,z,l.after x⟩,l.rt,l.bk,l.ct⟩⟩
theorem aN(h1:VS X md mn lm rm s p):VSs X md mn lm rm [s] p:=⟨IC h1.h⟩
theorem eG(hc:VT X md c pc)(ha:VSs X md mn lm rm th p)(hb:VSs X md mn lm rm el' q):VS X md mn lm rm (.If c th el' pos) (g9 pc p q):=⟨(XM hc.h ha.h hb.h).imp λD σ H=>by
 rintro⟨env,W0,H0,W,E,R,q,l⟩
 refine⟨env,W0,H0,W,_,R,q,λk W1 H1 g1 q1=>?_⟩
 cases k with
 |true=>rw[if_pos rfl];exact⟨env,W0,H0,W1,E,R.step g1,q1,l.after (g1.ex R.ok)⟩
 |false=>rw[if_neg a0i];exact⟨env,W0,H0,W1,E,R.step g1,q1,l.after (g1.ex R.ok)⟩⟩
theorem aX(he:VE X md e m pe)(hm:m.le rm=true):VS X md mn lm rm (.Return (some e) pos) (bY pe):=⟨(FI he.h).imp λD σ H=>by
 rintro⟨env,W0,H0,W,E,R,q,l⟩
 exact⟨env,W0,H0,W,_,R,q,λx v W1 H1 g1 r1 q1=>l.rt x v W1 H1 (R.go.trans g1) ((ResE.base R.go r1).le g1.ok hm) q1⟩⟩
theorem n5 {x:Str} {p:Pos} (he:QE X (.Name x p) (eV i)) (hi:md.getD i .no= .o el) (hm:(Md.o el).le rm=true):VS X md mn lm rm (.Return (some (.Name x p)) pos) (bY (a9 i)):=⟨(FI he.h).imp λD σ H=>by
 rintro⟨env,W0,H0,W,E,R,q,l⟩
 unfold bY a9 at q
 rw[jH] at q
 cases e:env[i]? with
 |none=>rw[e] at q;exact q.elim
 | some o=>
  cases o with
  |none=>rw[e] at q;exact q.elim
  | some x=>
   rw[e] at q
   obtain⟨v,s,r⟩:=R.slot i x e
   rw[hi] at r
   exact⟨v,s,l.rt x v W H R.go (r.le R.ok hm) q⟩⟩
theorem a23 {x:Str} {pos':Pos} (hN:X.N.Nodup) (hi:X.N[i]? =some x) (hx:JA X.env.scope x) (hs:swapsWith e (some (.Name x pos')) pos.line X.env=pure false) (hf:X.fn x=true\/X.env.scope.names.lookup x=some .local)
  (he:VE X md e m pe) (hm:fE (md.set i m)=true) (hl:i<md.length):VS X md (md.set i m) lm rm (.Assign [.Name x pos'] e pos) (bK i pe):=⟨(PU hN hi hx he.h hs hf).imp λD σ H=>by
 rintro⟨env,W0,H0,W,E,R,q,l⟩
 refine⟨env,W0,H0,W,_,R,q,λx v W1 H1 g1 r1 q1=>?_⟩
 rw[e8] at q1
 exact l.nx _ W1 _ H1 (R.set g1 r1 hm hl) (g1.ex R.ok) q1⟩
theorem AD {K:PySem.W.Frag} {W0 W:Wd} {H0 H:Hp} {σ:St} {env:bC} (R:Rl K md W0 H0 W σ env H) (hm:md.getD i .no= .o el):∃W2,Rl K (md.set i (.z el)) W0 H0 W2 σ env H/\Ex W H W2 H:=by
 have hil:i<md.length:=by
  refine a5i λh=>?_
  rw[a0c,a2a h] at hm
  cases hm
 by_cases hx:∃x,env[i]? =some (some x)
 ·obtain ⟨x,ev⟩:=hx
  obtain⟨a,o,sv,q⟩:=R.ownAt hm ev
  obtain⟨W2,R2⟩:=R.freeze hm
  obtain⟨w,r'⟩:=nY R.ok q q.new
  refine⟨{W with F:=λb=>W.F b\/b=a},⟨R.ok0,⟨λb hb=>.inl (R.go.lF b hb),R.go.lS,λb hb=>?_,R.go.nS,R.go.kp,w,R.go.kk,R.go.kl,R.go.lZ,R.go.nZ⟩,R.len,λj y ej=>?_,R2.sep,R2.bws,R.kk⟩,⟨λb h=>.inl h,λ_ _ _ e=>e,λ_ _ _ e=>e⟩⟩
  ·rcases hb with hb|rfl
   ·exact R.go.nF b hb
   ·exact .inr q.new
  ·by_cases hij:i=j
   ·subst hij
    rw[ev] at ej;cases ej
    refine⟨_,sv,?_⟩
    rw[dE,if_pos ⟨rfl,hil⟩]
    exact⟨a,o,rfl,r'⟩
   ·obtain ⟨u,su,ru⟩:=R.slot j y ej
    refine⟨u,su,?_⟩
    rw[dE,if_neg (λz=>hij z.1)]
    cases hmd:md.getD j .no with
    |no=>trivial
    |bw=>have:=gY R.bws (i:=i) (j:=j) (by rw[hm];rfl);rw[hmd] at this;cases this
    |p e'=>have:=gY R.bws (i:=i) (j:=j) (by rw[hm];rfl);rw[hmd] at this;cases this
    |c e'=>have:=gY R.bws (i:=i) (j:=j) (by rw[hm];rfl);rw[hmd] at this;cases this
    |v e'=>rw[hmd] at ru;exact Rep.weak ru λ_ g=>El.up (λ_ h=>.inl h) (λ_ z=>z) g
    |st=>rw[hmd] at ru;exact ru
    |scr=>rw[hmd] at ru;exact ru
    |n=>rw[hmd] at ru;exact ru
    | o e'=>
     rw[hmd] at ru
     obtain⟨b,ob,z1,qb⟩:=ru
     refine⟨b,ob,z1,qb.new,λz=>?_,qb.nS,qb.at_,qb.its.mono (λ_ g=>El.up (λ_ h=>.inl h) (λ_ z=>z) g) (λ_ _ _ e=>e),qb.nZ⟩
     rcases z with z|z
     ·exact qb.nF z
     ·subst z z1
      exact R.sep i j _ _ _ hij (by rw[hm];rfl) (by rw[hmd];rfl) ev ej sv su
    | z e'=>
     rw[hmd] at ru
     obtain⟨b,ob,z1,qb⟩:=ru
     exact⟨b,ob,z1,qb.new,.inl qb.F,qb.at_,qb.its.mono (λ_ g=>El.up (λ_ h=>.inl h) (λ_ z=>z) g) λ_ _ _ e=>e⟩
 ·obtain⟨W2,R2⟩:=R.freeze hm
  refine⟨W,⟨R.ok0,R.go,R.len,λj y ej=>?_,R2.sep,R2.bws,R.kk⟩,.refl⟩
  have hij:¬i=j:=λz=>by subst z;exact hx ⟨y,ej⟩
  rw[dE,if_neg (λz=>hij z.1)]
  exact R.slot j y ej
theorem rG(i:Nat)(el:El)(hi:md.getD i .no= .o el)(h:VS X (md.set i (.z el)) mn lm rm s p):VS X md mn lm rm s p:=⟨h.h.imp λD σ H=>by
 rintro⟨env,W0,H0,W,E,R,q,l⟩
 obtain⟨W2,R2,x⟩:=AD R hi
 exact⟨env,W0,H0,W2,E,R2,q,l.after x⟩⟩
def jG(a b:List Md):Bool:=decide (a.length=b.length)&&(a.zip b).all (λp=>p.1.le p.2&&(!p.2.own||p.1.own))&&fE b
theorem zW {a b:List Md} (h:jG a b=true):(∀i,(a.getD i .no).le (b.getD i .no)=true)/\(∀i,(b.getD i .no).own=true->(a.getD i .no).own=true)/\fE b=true:=by
 unfold jG at h
 rw[a1g,a1g,a0x] at h
 have hl:a.length=b.length:=a4i h.1.1
 have key:∀i,(hi:i<a.length)->(a.getD i .no).le (b.getD i .no)=true/\((b.getD i .no).own=true->(a.getD i .no).own=true):=λi hi=>by
  have hb:i<b.length:=by omega
  have:=h.1.2 (a[i],b[i]) (by
   have e:(a.zip b)[i]? =some (a[i],b[i]):=by
    rw[a3e]
    exact⟨a0a hi,a0a hb⟩
   exact a0u e)
  rw[a1g,a2d] at this
  rw[a0c,a0c,a0a hi,a0a hb]
  refine⟨this.1,λz=>?_⟩
  rcases this.2 with q|q
  ·simp at q z;rw[z] at q;cases q
  ·exact q
 refine⟨λi=>?_,λi=>?_,h.2⟩
 ·by_cases hi:i<a.length
  ·exact (key i hi).1
  ·rw[a0c,a0c,a2a (by omega),a2a (by omega)];rfl
 ·by_cases hi:i<a.length
  ·exact (key i hi).2
  ·rw[a0c,a0c,a2a (by omega),a2a (by omega)];intro z;exact z
theorem Rl.less{K:Aa}{W0 W:Wd}{H0 H:Hp}{σ:St}{env:bC}(R:Rl K md W0 H0 W σ env H)(h:jG md m1=true):Rl K m1 W0 H0 W σ env H:=R.le (zW h).1 (zW h).2.1 (zW h).2.2
theorem cN(h:jG md m1=true)(hs:VSs X m1 mn lm rm ss p):VSs X md mn lm rm ss p:=⟨hs.h.imp λD σ H=>by
 rintro⟨env,W0,H0,W,E,R,q,l⟩
 exact⟨env,W0,H0,W,E,R.less h,q,l⟩⟩
theorem RY(h:jG md m1=true)(hs:VS X m1 mn lm rm s p):VS X md mn lm rm s p:=⟨hs.h.imp λD σ H=>by
 rintro⟨env,W0,H0,W,E,R,q,l⟩
 exact⟨env,W0,H0,W,E,R.less h,q,l⟩⟩
end
abbrev iU:=PV->bC->(bC->Prop)->Prop
abbrev sI:=List PV->bC->(bC->Prop)->Prop
def uK(K:Aa)(md mn:List Md)(el:El)(g:iU):TG:=λv σ H Q=>∃(env:bC) (W0:Wd) (H0:Hp) (W:Wd) (x:PV) (R:bC->Prop),Rl K md W0 H0 W σ env H/\Rep (el.G W.F H0) H v x/\g x env R/\∀env' σ',Rl K mn W0 H0 W σ' env' H->R env'->Q σ' H
def ZT(K:Aa)(md mn:List Md)(el:El)(g:sI):SI:=λvs σ H Q=>∃(env:bC) (W0:Wd) (H0:Hp) (W:Wd) (xs:List PV) (R:bC->Prop),Rl K md W0 H0 W σ env H/\Reps (el.G W.F H0) H vs xs/\g xs env R/\∀env' σ',Rl K mn W0 H0 W σ' env' H->R env'->Q σ' H
structure VG(X:Cx)(md mn:List Md)(el:El)(tg:Expr)(g:iU):Prop where
 h:PG X tg (uK X.K md mn el g)
structure VGs(X:Cx)(md mn:List Md)(el:El)(tg:List Expr)(g:sI):Prop where
 h:X7 X tg (ZT X.K md mn el g)
theorem PG.imp{X:Cx}{e:Expr}{t t':TG}(h:PG X e t)(k:∀v σ H Q,t' v σ H Q->t v σ H Q):PG X e t':=λpins s σ H v u Q I r q=>h pins s σ H v u Q I r (k v σ H Q q)
theorem X7.imp{X:Cx}{e:List Expr}{t t':SI}(h:X7 X e t)(k:∀v σ H Q,t' v σ H Q->t v σ H Q):X7 X e t':=λpins s σ H v u Q I r q=>h pins s σ H v u Q I r (k v σ H Q q)
def aG(i:Nat):iU:=λx env R=>R (eU env i (some x))
def cW:sI:=λxs env R=>match xs with
 |[]=>R env
 |_=>False
def aM(g:iU)(u:sI):sI:=λxs env R=>match xs with
 |x::r=>g x env λenv'=>u r env' R
 |[]=>False
def bV(n:Nat)(g:sI):iU:=λx env R=>match x with
 |.tup xs=>xs.length=n/\g xs env R
 |_=>False
section
variable{X:Cx}{md m1 mn:List Md}{el:El}{e:Expr}{es:List Expr}{pos:Pos}{i:Nat}
theorem X0{x:Str}(hN:X.N.Nodup)(hi:X.N[i]? =some x)(hx:JA X.env.scope x)(hf:X.fn x=true\/X.env.scope.names.lookup x=some .local)(hm:fE (md.set i (.v el))=true)(hl:i<md.length):VG X md (md.set i (.v el)) el (.Name x pos) (aG i):=⟨(tI hN hi hx hf).imp λv σ H Q=>by
 rintro⟨env,W0,H0,W,x,R,Rr,r,q,k⟩
 unfold aG at q
 rw[e8] at q
 exact k _ _ (Rr.set (Go.refl Rr.ok) (m:=.v el) r hm hl) q⟩
theorem bU:VGs X md md el [] cW:=⟨HY.imp λvs σ H Q=>by
 rintro⟨env,W0,H0,W,xs,R,Rr,r,q,k⟩
 cases xs with
 | nil=>
  have:vs=[]:=a3p.mp r.len
  exact⟨this,k env σ Rr q⟩
 |cons _ _=>exact q.elim⟩
theorem aI {g:iU} {u:sI} (h1:VG X md m1 el e g) (h2:VGs X m1 mn el es u) (hs:(assignEach (e::es) X.env).map (·.2)=assign e X.env::(assignEach es X.env).map (·.2):=by rfl):VGs X md mn el (e::es) (aM g u):=⟨(v6 h1.h h2.h hs).imp λvs σ H Q=>by
 rintro⟨env,W0,H0,W,xs,R,Rr,r,q,k⟩
 cases xs with
 |nil=>exact q.elim
 | cons x xr=>
  cases vs with
  |nil=>have:=r.len;simp at this
  | cons v vr=>
   exact⟨v,vr,rfl,env,W0,H0,W,x,_,Rr,r.at_ 0 v x rfl rfl,q,λenv' σ' R' z=>⟨env',W0,H0,W,xr,R,R',⟨by have:=r.len;simpa using this,λi w y e1 e2=>r.at_ (i+1) w y (by simpa using e1) (by simpa using e2)⟩,z,k⟩⟩⟩
theorem cC {k:Nat} {g:sI} {n:Nat} (hc:X.calm=true) (h:VGs X md mn el es g) (hn:(assignEach es X.env).length=n:=by rfl) (hst:(assignEach es X.env).findIdx? (·.1)=none:=by rfl):VG X md mn el (.Tuple es k pos) (bV n g):=⟨(PM hc h.h hn hst).imp λv σ H Q=>by
 rintro⟨env,W0,H0,W,x,R,Rr,r,q,k⟩
 cases x with
 | tup xs=>
  obtain⟨a,vs,rfl,e,rs⟩:=r.ofTup
  exact⟨a,vs,rfl,dQ.of e,by rw[rs.len];exact q.1,env,W0,H0,W,xs,R,Rr,rs,q.2,k⟩
 |_=>exact q.elim⟩
def qP(a:aY)(g:iU):bO:=λE env=>a env λx=>g x env E.nx
theorem mL {lm:List Md} {rm:Md} {pe:aY} {g:iU} {tg:Expr} (he:VE X md e (.v el) pe) (hg:VG X md mn el tg g) (hs:swapsWithSole [tg] e pos.line X.env=pure false:=by rfl) (hw:swappedStores [tg] e X.env=pure none:=by rfl)
  (h1:(assignEach [tg] X.env).map (·.2)=[assign tg X.env]:=by rfl):VS X md mn lm rm (.Assign [tg] e pos) (qP pe g):=⟨(A6 he.h hg.h hs hw h1).imp λD σ H=>by
 rintro⟨env,W0,H0,W,E,R,q,l⟩
 refine⟨env,W0,H0,W,_,R,q,λx v W1 H1 g1 r1 q1=>?_⟩
 exact⟨env,W0,H0,W1,x,E.nx,R.step g1,r1,q1,λenv' σ' R' z=>l.nx env' W1 σ' H1 R' (g1.ex R.ok) z⟩⟩
end
structure Src(J:It)(el:El)(B:Hp)(W:Wd)(H:Hp)(items:List PV):Prop where
 go:∀(i:Nat) (W2:Wd) (H2:Hp),Ex W H W2 H2->i<items.length->J.go i H2
 stop:∀(W2:Wd) (H2:Hp),Ex W H W2 H2->J.stop items.length H2
 yld:∀(i:Nat) (W2:Wd) (H2:Hp) (v:V) (H3:Hp),Ex W H W2 H2->Wok W2 H2->i<items.length->J.yld i H2 v H3->Go W2 H2 W2 H3/\∃x,items[i]? =some x/\Rep (el.G W2.F B) H3 v x
abbrev n9:=bC->(List PV->Prop)->Prop
def xR(K:Aa)(md:List Md)(el:El)(p:n9):TI:=λσ H R=>∃(env:bC) (W0:Wd) (H0:Hp) (W:Wd) (Q:List PV->Prop),Rl K md W0 H0 W σ env H/\p env Q/\∀(items:List PV) (W':Wd) (H':Hp) (J:It),Go W H W' H'->Src J el H0 W' H' items->Q items->R J H'
structure VI(X:Cx)(md:List Md)(el:El)(tg iter:Expr)(p:n9):Prop where
 h:PI X tg iter (xR X.K md el p)
theorem PI.imp{X:Cx}{tg iter:Expr}{t t':TI}(h:PI X tg iter t)(k:∀σ H R,t' σ H R->t σ H R):PI X tg iter t':=λpins s σ H R I q=>h pins s σ H R I (k σ H R q)
def c6(a:aY):n9:=λenv Q=>a env λx=>match x with
 |.lst xs=>Q xs
 |_=>False
def yD(a:aY):n9:=λenv Q=>a env λx=>match x with
 |.tup xs=>Q xs
 |_=>False
def cU(lo:Int)(n:Nat):List PV:=(List.range n).map λ(i:Nat)=>PV.int (lo+i)
theorem bQ(lo:Int)(n:Nat):(cU lo n).length=n:=by simp[cU]
theorem xJ{lo:Int}{n i:Nat}(h:i<n):(cU lo n)[i]? =some (.int (lo+i)):=by simp[cU,h]
def f7(a:aY):n9:=λenv Q=>a env λx=>match x with
 |.int j=>-(2^62)<=j/\j<2^62/\Q (cU 0 j.toNat)
 |_=>False
section
variable{X:Cx}{md:List Md}{el:El}{a b e tg:Expr}{pa pb pe:aY}{p pos:Pos}
theorem DC {K:PySem.W.Frag} {B:Hp} {W:Wd} {H:Hp} {l:Addr} {vs:List V} {xs:List PV} (hF:W.F l) (e:H l=some (.lst vs)) (r:Reps (el.G W.F B) H vs xs):Src (a5G K l) el B W H xs where
 go:=λi W2 H2 x hi=>⟨vs,vs[i]'(by rw[r.len];exact hi),d9.of (x.kp l _ hF e),a0a _⟩
 stop:=λW2 H2 x=>⟨vs,d9.of (x.kp l _ hF e),by rw[r.len];exact a0l _⟩
 yld:=λi W2 H2 v H3 x w hi y=>by
  obtain⟨rfl,y⟩:=y
  have:=y vs (d9.of (x.kp l _ hF e))
  obtain⟨z,ez,rz⟩:=r.getV this
  exact⟨Go.refl w,z,ez,x.rep (λ_ g=>El.GF g) (λ_ g=>El.up x.lF (λ_ h=>h) g) rz⟩
theorem WG {K:PySem.W.Frag} {B:Hp} {W:Wd} {H:Hp} {l:Addr} {vs:List V} {xs:List PV} (e:H l=some (.tup vs)) (r:Reps (el.G W.F B) H vs xs):Src (a5H K l) el B W H xs where
 go:=λi W2 H2 x hi=>⟨vs,vs[i]'(by rw[r.len];exact hi),dQ.of (x.im l _ rfl e),a0a _⟩
 stop:=λW2 H2 x=>⟨vs,dQ.of (x.im l _ rfl e),by rw[r.len];exact a0l _⟩
 yld:=λi W2 H2 v H3 x w hi y=>by
  obtain⟨rfl,y⟩:=y
  have:=y vs (dQ.of (x.im l _ rfl e))
  obtain⟨z,ez,rz⟩:=r.getV this
  exact⟨Go.refl w,z,ez,x.rep (λ_ g=>El.GF g) (λ_ g=>El.up x.lF (λ_ h=>h) g) rz⟩
theorem WF {B:Hp} {W:Wd} {H:Hp} {lo:Int} {n:Nat}:Src (SE lo n) el B W H (cU lo n) where
 go:=λi W2 H2 x hi=>by rw[bQ] at hi;exact hi
 stop:=λW2 H2 x=>by rw[bQ];exact a0l n
 yld:=λi W2 H2 v H3 x w hi y=>by
  obtain⟨rfl,rfl⟩:=y
  rw[bQ] at hi
  exact⟨Go.refl w,_,xJ hi,.int _⟩
theorem cK (h:VE X md e (.v el) pe):VI X md el tg e (c6 pe):=⟨(HZ h.h).imp λσ H R=>by
 rintro⟨env,W0,H0,W,Q,Rr,q,k⟩
 refine⟨env,W0,H0,W,_,Rr,q,λx v W1 H1 g1 r1 q1=>?_⟩
 cases x with
 | lst xs=>
  obtain⟨a,vs,rfl,g,e,rs⟩:=Rep.ofList r1
  exact⟨a,rfl,⟨vs,d9.of e⟩,k xs W1 H1 _ g1 (DC (El.GF g) e rs) q1⟩
 |_=>exact q1.elim⟩
theorem iQ (h:VE X md e (.z el) pe):VI X md el tg e (c6 pe):=⟨(HZ h.h).imp λσ H R=>by
 rintro⟨env,W0,H0,W,Q,Rr,q,k⟩
 refine⟨env,W0,H0,W,_,Rr,q,λx v W1 H1 g1 r1 q1=>?_⟩
 cases x with
 | lst xs=>
  obtain⟨a,o,rfl,z⟩:=r1
  have z2:=z.its
  have z3:=z.at_
  cases z2 with
  |lst rs=>exact⟨a,rfl,⟨_,d9.of z3⟩,k xs W1 H1 _ g1 (DC z.F z3 rs) q1⟩
 |_=>exact q1.elim⟩
theorem RW (h:VE X md e (.v el) pe):VI X md el tg e (yD pe):=⟨(a0O h.h).imp λσ H R=>by
 rintro⟨env,W0,H0,W,Q,Rr,q,k⟩
 refine⟨env,W0,H0,W,_,Rr,q,λx v W1 H1 g1 r1 q1=>?_⟩
 cases x with
 | tup xs=>
  obtain⟨a,vs,rfl,e,rs⟩:=Rep.ofTup r1
  exact⟨a,rfl,⟨vs,dQ.of e⟩,k xs W1 H1 _ g1 (WG e rs) q1⟩
 |_=>exact q1.elim⟩
theorem e9 (hg:X.env.scope.names.lookup (Str.ofString "range")=some NameKind.globalImplicit) (hm:X.mg "range"=none) (ha:VE X md a .bw pa) (hs:starEach [a] X.env=[(false,eval a X.env)]:=by rfl):VI X md .fl tg (.Call (.Name "range" p) [a] [] pos) (f7 pa):=
 ⟨(yE hg hm (a7 ha aB hs).h hs).imp λσ H R=>by
 rintro⟨env,W0,H0,W,Q,Rr,q,k⟩
 refine⟨env,W0,H0,W,λxs=>match xs with|[.int j]=>-(2^62)<=j/\j<2^62/\Q (cU 0 j.toNat)|_=>False,Rr,?_,λxs vs W1 H1 g1 r1 q1=>?_⟩
 ·show pa env _
  unfold f7 at q
  refine (iff_of_eq (congrArg (pa env) (funext λx=>?_))).mp q
  cases x<;>rfl
 ·obtain⟨v,x,rfl,rfl,r⟩:=r1.one
  cases x with
  |int j=>exact⟨j,by rw[Rep.ofInt r],q1.1,q1.2.1,k _ W1 H1 _ g1 WF q1.2.2⟩
  |_=>exact q1.elim⟩
end
def oT(g:iU)(b:bO)(E:PEnds):List PV->bC->Prop
 |[],env=>E.nx env
 |x::xs,env=>g x env λenv1=>b {E with nx:=oT g b E xs,ct:=oT g b E xs,bk:=E.nx} env1
def g8(s:n9)(g:iU)(b:bO):bO:=λE env=>s env λitems=>oT g b E items env
def FG(c:fD)(b:bO):bO:=λE env=>∃I:Nat->bC->Prop,(∃m,I m env)/\∀m env,I m env->
 c env λk=>Br k (∃N:bC->Prop,(∀env',N env'->∃m',m'<m/\I m' env')/\b {E with nx:=N,ct:=N,bk:=E.nx} env) (E.nx env)
section
variable{X:Cx}{md m1 mn lm l2:List Md}{rm:Md}{el:El}{tg iter c:Expr}{body:List Stmt}{s:n9}{g:iU}{b:bO}{pc:fD}{pos:Pos}
theorem NY {K:PySem.W.Frag} (hlm:fE lm=true) {wi:TI} {σ:St} {H:Hp} {D:Ends} (h:HM K lm lm l2 rm (g8 s g b) D σ H):RF (xR K lm el s) (uK K lm m1 el g) (HM K m1 lm lm rm b) D σ H:=by
 obtain⟨env,W0,H0,W,E,R,q,l⟩:=h
 refine⟨env,W0,H0,W,_,R,q,λitems W1 H1 J g1 sr q1=>?_⟩
 refine⟨λi m σ H=>m=items.length-i/\i<=items.length/\∃env W',Rl K lm W0 H0 W' σ env H/\Ex W1 H1 W' H/\oT g b E (items.drop i) env,⟨items.length,by simp,a3c _,env,W1,R.step g1,.refl,by simpa using q1⟩,?_⟩
 rintro i m σ2 H2 ⟨rfl,hi,env2,W2,R2,x2,q2⟩
 by_cases hlt:i<items.length
 ·rw[a3f hlt] at q2
  refine .inr ⟨sr.go i W2 H2 x2 hlt,λσ' H'=>i+1<=items.length/\∃env W',Rl K lm W0 H0 W' σ' env H'/\Ex W1 H1 W' H'/\oT g b E (items.drop (i+1)) env,λσ' H' z=>⟨items.length-(i+1),by omega,rfl,z.1,z.2⟩,λv H3 y=>?_⟩
  obtain⟨g3,x,ex,rx⟩:=sr.yld i W2 H2 v H3 x2 R2.ok hlt y
  rw[a0a hlt] at ex
  cases ex
  refine⟨env2,W0,H0,W2,_,_,R2.step g3,rx,q2,λenv' σ' R' z=>⟨env',W0,H0,W2,_,R',z,?_,l.rt,?_,?_⟩⟩
  ·exact λenv4 W4 σ4 H4 R4 x4 z4=>⟨hlt,env4,W4,R4,(x2.trans (g3.ex R2.ok)).trans x4,z4⟩
  ·exact λenv4 W4 σ4 H4 R4 x4 z4=>l.nx env4 W4 σ4 H4 R4 ((((g1.ex R.ok).trans x2).trans (g3.ex R2.ok)).trans x4) z4
  ·exact λenv4 W4 σ4 H4 R4 x4 z4=>⟨hlt,env4,W4,R4,(x2.trans (g3.ex R2.ok)).trans x4,z4⟩
 ·have e:i=items.length:=by omega
  subst e
  rw[a6d] at q2
  exact .inl ⟨sr.stop W2 H2 x2,l.nx env2 W2 σ2 H2 R2 ((g1.ex R.ok).trans x2) q2⟩
theorem d3 (hp:PassesOwn (model X.prog X.w) X.A X.env X.xe) (hc:X.calm=true) (hlm:fE lm=true) (hi:VI X lm el tg iter s) (hg:VG X lm m1 el tg g) (hb:VSs X m1 lm lm rm body b)
  (hs:∀x,foldedSetIterable iter X.env x=pure x:=by intro _;rfl):VS X lm lm l2 rm (.For tg iter body [] pos) (g8 s g b):=⟨(PR hp hc hi.h hg.h hb.h hs).imp λD σ H h=>NY (wi:=xR X.K lm el s) hlm h⟩
theorem DJ (hp:PassesOwn (model X.prog X.w) X.A X.env X.xe) (hc:VT X lm c pc) (hb:VSs X lm lm lm rm body b):VS X lm lm l2 rm (.While c body [] pos) (FG pc b):=⟨(PX hp hc.h hb.h).imp λD σ H h=>by
 obtain⟨env,W0,H0,W,E,R,⟨I,⟨m,i0⟩,turn⟩,l⟩:=h
 refine⟨λm σ2 H2=>∃env W',Rl X.K lm W0 H0 W' σ2 env H2/\Ex W H W' H2/\I m env,⟨m,env,W,R,.refl,i0⟩,?_⟩
 rintro m σ2 H2 ⟨env2,W2,R2,x2,i2⟩
 refine⟨env2,W0,H0,W2,_,R2,turn m env2 i2,λk W3 H3 g3 q3=>?_⟩
 cases k with
 | true=>
  rw[if_pos rfl]
  obtain⟨N,hN,q3⟩:=q3
  refine⟨λσ' H'=>∃env W',Rl X.K lm W0 H0 W' σ' env H'/\Ex W H W' H'/\N env,λσ' H' z=>?_,env2,W0,H0,W3,_,R2.step g3,q3,?_,l.rt,?_,?_⟩
  ·obtain⟨env',W',R',x',n'⟩:=z
   obtain⟨m',hm,i'⟩:=hN env' n'
   exact⟨m',hm,env',W',R',x',i'⟩
  ·exact λenv4 W4 σ4 H4 R4 x4 z4=>⟨env4,W4,R4,(x2.trans (g3.ex R2.ok)).trans x4,z4⟩
  ·exact λenv4 W4 σ4 H4 R4 x4 z4=>l.nx env4 W4 σ4 H4 R4 ((x2.trans (g3.ex R2.ok)).trans x4) z4
  ·exact λenv4 W4 σ4 H4 R4 x4 z4=>⟨env4,W4,R4,(x2.trans (g3.ex R2.ok)).trans x4,z4⟩
 | false=>
  rw[if_neg a0i]
  exact l.nx env2 W3 σ2 H3 (R2.step g3) (x2.trans (g3.ex R2.ok)) q3⟩
end
def a69:Md->Md
 |.bw=>.v .sh
 |m=>m
def jO:Md->Bool
 |.bw=>true
 |.st=>true
 |.scr=>true
 |_=>false
def lI:Md->Bool
 |.v .fl=>true
 |.v .sn=>true
 |.o .fl=>true
 |.o .sn=>true
 |.z .fl=>true
 |.z .sn=>true
 |.st=>true
 |_=>false
def G6(K:PySem.W.Frag)(ms:List Md)(rm:Md)(p:PN):Sp:=λvs H Q _=>∃(xs:List PV) (W:Wd) (R:PV->Prop),W.K=K/\Wok W H/\ResEs H H W H ms vs xs/\p xs R/\
 ∀(x:PV) (v:V) (W':Wd) (H':Hp),Go W H W' H'->ResE H H W' H' rm v x->R x->Q v H'
def cA(N:List Str)(xs:List PV):bC:=xs.map some++List.replicate (N.length-xs.length) none
def cM(N:List Str)(ms:List Md):List Md:=ms.map a69++List.replicate (N.length-ms.length) .no
def gR(rm:Md)(R:PV->Prop):Prop:=match rm with
 |.v _=>R .non
 |_=>False
theorem ResEs.at {B H0 H:Hp} {W:Wd} {ms:List Md} {vs:List V} {xs:List PV} (r:ResEs B H0 W H ms vs xs) {i:Nat} {x:PV} (e:xs[i]? =some x):∃m v,ms[i]? =some m/\vs[i]? =some v/\ResE B H0 W H m v x:=by
 induction r generalizing i with
 |nil=>simp at e
 | cons h _ ih=>
  cases i with
  |zero=>simp at e;subst e;exact⟨_,_,rfl,rfl,h⟩
  |succ i=>simp at e;obtain⟨m,v,e1,e2,q⟩:=ih e;exact⟨m,v,by simpa using e1,by simpa using e2,q⟩
theorem ResE.arg{B H0 H B' H0':Hp}{W:Wd}{m:Md}{v:V}{x:PV}(r:ResE B H0 W H m v x)(h:jO m=true):ResE B' H0' W H m v x:=by
 cases m<;>first|exact r|cases h
theorem ResEs.arg {B H0 H B' H0':Hp} {W:Wd} {ms:List Md} {vs:List V} {xs:List PV} (r:ResEs B H0 W H ms vs xs) (h:ms.all jO=true):ResEs B' H0' W H ms vs xs:=by
 induction r with
 |nil=>exact .nil
 | cons q _ ih=>
  rw[List.all_cons,a1g] at h
  exact .cons (q.arg h.1) (ih h.2)
def E1(W:Wd)(H:Hp):Wd:={W with F:=λa=>(∃o,H a=some o)/\¬W.S a,Z:=λ_=>False}
theorem GG{W:Wd}{H:Hp}(w:Wok W H):Wok (E1 W H) H:=⟨λ_ h=>h.1,w.sS,λ_ h=>h.2,λ_ h=>h.elim,λ_ h=>h.elim,λ_ h=>h.elim⟩
theorem Rep.alloc{W:Wd}{H:Hp}{v:V}{x:PV}(r:Rep (λa=>¬W.S a) H v x):Rep (E1 W H).F H v x:=by
 induction r with
 |non=>exact .non
 |bl b=>exact .bl b
 |int i=>exact .int i
 |str x=>exact .str x
 |ty n=>exact .ty n
 |set e=>exact .set e
 |lst g e l _ ih=>exact .lst ⟨⟨_,e⟩,g⟩ e l ih
 |tup e l _ ih=>exact .tup e l ih
 |dic g e l1 l _ ih=>exact .dic ⟨⟨_,e⟩,g⟩ e l1 l ih
theorem QU {K:PySem.W.Frag} {N:List Str} {ms:List Md} {vs:List V} {xs:List PV} {W:Wd} {H:Hp} (hk:W.K=K) (w:Wok W H) (r:ResEs H H W H ms vs xs) (hm:ms.all jO=true):Rl K (cM N ms) (E1 W H) H (E1 W H) (start N vs) (cA N xs) H:=by
 have hlen:=r.len
 have getm:∀i m,ms[i]? =some m->(cM N ms).getD i .no=a69 m:=λi m e=>by
  have hi:=(a0j.mp e).1
  unfold cM
  rw[a0c,a1f (by simpa using hi),a0g,e];rfl
 have none_:∀i,ms.length<=i->(cM N ms).getD i .no= .no:=λi hi=>by
  unfold cM
  rw[a0c,a1i (by simpa using hi),a2e]
  split<;>rfl
 have nown:∀i,((cM N ms).getD i .no).own=false:=λi=>by
  cases e:ms[i]? with
  |none=>rw[none_ i (a2o.mp e)];rfl
  | some m=>
   rw[getm i m e]
   have:=a0x.mp hm m (a0u e)
   cases m<;>first|rfl|cases this
 refine⟨GG w,Go.refl (GG w),?_,λi x e=>?_,λi j x y a hij oi=>(by rw[nown i] at oi;cases oi),?_,hk⟩
 ·simp[start,cA,hlen.1]
 ·unfold cA at e
  by_cases hi:i<xs.length
  ·rw [a1f (by simpa using hi),a0g] at e
   cases ex:xs[i]? with
   |none=>rw[ex] at e;cases e
   | some y=>
    rw[ex] at e
    cases e
    obtain⟨m,v,e1,e2,q⟩:=r.at ex
    refine⟨v,?_,?_⟩
    ·unfold start
     rw[a1f (by simpa[hlen.1] using hi),a0g,e2];rfl
    ·rw[getm i m e1]
     have:=a0x.mp hm m (a0u e1)
     cases m with
     |bw=>exact Rep.alloc q
     |st=>exact q
     |scr=>exact q
     |_=>cases this
  ·rw[a1i (by simpa using hi),a2e] at e
   split at e<;>cases e
 ·unfold fE
  rw[a2d,a0x,a0x]
  refine .inr λm h=>?_
  unfold cM at h
  rcases a1a.mp h with z|z
  ·obtain⟨m',h1,rfl⟩:=a0p.mp z
   have:=a0x.mp hm m' h1
   cases m'<;>first|rfl|cases this
  ·rw[(a6x.mp z).2];rfl
theorem D5 {W W1:Wd} {H H1:Hp} {rm:Md} {v:V} {x:PV} (w:Wok W H) (hr:lI rm=true) (g:Go (E1 W H) H W1 H1) (r:ResE H H W1 H1 rm v x) :
  ∃W',Go W H W' H1/\ResE H H W' H1 rm v x:=by
 have nw:∀ {a:Ac},W.Z a->H a≠none:=λz e=>w.offZ e z
 refine⟨{W1 with F:=λa=>W.F a\/(W1.F a/\H a=none),Z:=W.Z},⟨λ_ h=>.inl h,g.lS,λa h=>h.elim .inl λz=>.inr z.2,g.nS,g.kp,⟨λa h=>?_,g.ok.sS,λa h=>?_,λa z=>by obtain⟨o,e⟩:=w.zZ a z;exact⟨o,g.kp a o e (w.zS a z)⟩,λa z f=>f.elim (w.zF a z) λq=>nw z q.2,λa z=>by obtain⟨o,e⟩:=w.zZ a z;exact g.nSS e (w.zS a z)⟩,g.kk,g.kl,λ_ h=>h,λ_ h=>.inl h⟩,?_⟩
 ·rcases h with h|h
  ·obtain⟨o,e⟩:=w.fF a h
   exact⟨o,g.kp a o e (w.dj a h)⟩
  ·exact g.ok.fF a h.1
 ·rcases h with h|h
  ·obtain⟨o,e⟩:=w.fF a h
   exact g.nSS e (w.dj a h)
  ·exact g.ok.dj a h.1
 ·have up:∀ {e:El} {a:Addr},e≠ .sh->e.G W1.F H a->e.G (λa=>W.F a\/(W1.F a/\H a=none)) H a:=fun {e a} he q=>by
   cases e with
   |fl=>exact q
   |sn=>exact⟨.inr q,q.2⟩
   |sh=>exact absurd rfl he
  have own:∀ {e:El},e≠ .sh->ResE H H W1 H1 (.o e) v x->ResE H H {W1 with F:=λa=>W.F a\/(W1.F a/\H a=none),Z:=W.Z} H1 (.o e) v x:=λhe q=>by
   obtain⟨a,o,rfl,q⟩:=q
   exact⟨a,o,rfl,q.new,λz=>z.elim (λz=>w.offF q.new z) λz=>q.nF z.1,q.nS,q.at_,q.its.mono (λ_ g=>up he g) (λ_ _ _ e=>e),λz=>w.offZ q.new z⟩
  have frz:∀ {e:El},e≠ .sh->ResE H H W1 H1 (.z e) v x->ResE H H {W1 with F:=λa=>W.F a\/(W1.F a/\H a=none),Z:=W.Z} H1 (.z e) v x:=λhe q=>by
   obtain⟨a,o,rfl,q⟩:=q
   exact⟨a,o,rfl,q.new,.inr ⟨q.F,q.new⟩,q.at_,q.its.mono (λ_ g=>up he g) λ_ _ _ e=>e⟩
  cases rm with
  | v e=>
   cases e with
   |fl=>exact r
   |sn=>exact Rep.weak r λ_ g=>up (by intro z;cases z) g
   |sh=>cases hr
  | o e=>
   cases e with
   |fl=>exact own (by intro z;cases z) r
   |sn=>exact own (by intro z;cases z) r
   |sh=>cases hr
  | z e=>
   cases e with
   |fl=>exact frz (by intro z;cases z) r
   |sn=>exact frz (by intro z;cases z) r
   |sh=>cases hr
  |st=>exact r
  |_=>cases hr
theorem WW {P:Program} {w:World} {K:PySem.W.Frag} {mg:Str->Option Value} {base:Heap} {x:Str} {st:Stmt} {N ps:List Str} {k:Nat} {ms mn:List Md} {rm:Md} {p:bO} {d:PN} (hd:∀xs R,d xs R->p {nx:=λ_=>gR rm R,rt:=R} (cA N xs)) (D:Df K mg x st) (S:FnScope N ps (aD st))
  (hb:∀(kV doc pm:Value) (an:Option Ac) (cdv ct:Value) (us:List Value),us.length=ps.length->bindArgs (PySem.W.fnOf x x (cQ st) (bM st) (aD st) .none kV doc pm an cdv ct) ⟨us,[]⟩=pure (ps.zip us))
  (hm:ms.all jO=true) (hr:lI rm=true)
  (hlen:ms.length=ps.length) (hbody:∀(f:Addr) (cdv:Value) (A:Around) (outer:List Env) (s:Shared) (H:Hp) (E:XK),Room k (A.deeper (envOfC x (aD st) s.heap.objs.size f cdv))->
   VSs (d4 jN P w K mg base N x (aD st) f cdv A outer s H E).nox (cM N ms) mn [] rm (bM st) p) :
  Cal P w K mg base (k+1) x ps (G6 K ms rm d):=by
 refine D.ok S hb (λvs H Q E h=>?_) (λf cdv A outer s H vs Q E hr' h=>?_)
 ·obtain⟨xs,W,R,_,_,r,_⟩:=h
  have:=r.len
  omega
 ·obtain ⟨xs,W,R,hk,wk,r,q,kk⟩:=h
  have q:=hd xs R q
  refine⟨_,(hbody f cdv A outer s H E hr').h,cA N xs,E1 W H,H,E1 W H,{nx:=λ_=>gR rm R,rt:=R},QU hk wk r hm,q,?_,?_,λ_ _ _ _ _ _ z=>z.elim,λ_ _ _ _ _ _ z=>z.elim⟩
  ·intro env W' σ H' Rr _ z
   have z':gR rm R:=z
   unfold gR at z'
   cases rm with
   | v e=>
    obtain⟨W2,g2,r2⟩:=D5 (rm:=.v e) wk hr Rr.go (v:=.non) (x:=.non) .non
    exact kk .non .non W2 H' g2 r2 z'
   |_=>exact z'.elim
  ·intro y v W' H' g r1 z
   obtain⟨W2,g2,r2⟩:=D5 wk hr g r1
   exact kk y v W2 H' g2 r2 z
theorem ResE.ret{B H1 H2:Hp}{W0 W1 W2:Wd}{rm:Md}{v:V}{x:PV}(g:Go W0 B W1 H1)(hr:lI rm=true)(r:ResE H1 H1 W2 H2 rm v x):ResE B H1 W2 H2 rm v x:=by
 have up:∀ {e:El} {a:Ac},e.G W2.F H1 a->e.G W2.F B a:=λq=>El.up (λ_ h=>h) (λ_ z=>g.free z) q
 cases rm with
 |v e=>exact Rep.weak r λ_ q=>up q
 |o e=>obtain⟨a,o,rfl,q⟩:=r;exact⟨a,o,rfl,q.new,q.nF,q.nS,q.at_,q.its.mono (λ_ q=>up q) (λ_ _ _ e=>e),q.nZ⟩
 |z e=>obtain⟨a,o,rfl,q⟩:=r;exact⟨a,o,rfl,g.free q.new,q.F,q.at_,q.its.mono (λ_ q=>up q) λ_ _ _ e=>e⟩
 |st=>exact r
 |_=>cases hr
section
variable{X:Cx}{md:List Md}{e:Expr}{es:List Expr}{pt:lU}{p pos:Pos}{k:Nat}{x:Str}{ps:List Str}{ms:List Md}{rm:Md}{pn:PN}
theorem a1Y (C:Cal X.prog X.w X.K X.mg X.base k x ps (G6 X.K ms rm pn)) (hr:Room k X.A) (hm:ms.all jO=true) (hrm:lI rm=true) (ha:VA X md (e::es) ms pt) (hg:X.env.scope.names.lookup x=some .globalImplicit)
  (hdb:(x==("__debug__" : Str))=false) (he:starEach (e::es) X.env=(false,eval e X.env)::starEach es X.env:=by rfl) (hpl:(backTo pos (starEach es X.env)).any (·.1)=false:=by rfl) :
  VE X md (.Call (.Name x p) (e::es) [] pos) rm (bN pn pt):=⟨(PF C hr ha.h hg hdb he hpl).imp λσ H K=>by
 rintro⟨env,W0,H0,W,Q,R,q,k⟩
 refine⟨env,W0,H0,W,_,R,q,λxs vs W1 H1 g1 r1 q1=>?_⟩
 refine⟨xs,W1,Q,g1.kk.trans R.kk,g1.ok,by rw[a5r];exact r1.arg hm,q1,λy v W2 H2 g2 r2 q2=>?_⟩
 exact k y v W2 H2 (g1.trans g2) (ResE.base g1 (ResE.ret (R.go.trans g1) hrm r2)) q2⟩
end
structure SimM (r:V->List V->Hp->VK->Prop) (ms:List Md) (el:El) (pm:PV->List PV->(PV->Prop)->Prop):Prop where
 h:∀(B Hs:Hp) (W:Wd) (H:Hp) (a:Addr) (o:HO) (x:PV) (vs:List V) (ys:List PV) (R:PV->Prop) (K:VK),Wok W H->H a=some o->¬W.F a->¬W.S a->Body (el.G W.F B) H o x->ResEs B Hs W H ms vs ys->pm x ys R->
  (∀(o':HO) (x':PV) (v:V),o'.imm=false->Body (el.G W.F B) H o' x'->R x'->K v (bF H a o'))->r (.ref a) vs H K
theorem A7{K:PySem.W.Frag}{md:List Md}{W0 W:Wd}{H0 H:Hp}{σ:St}{env:bC}{i:Nat}{el:El}{a:Addr}{o o':HO}{x:PV}(q:OwnL el H0 H0 W H a o x):Ex W H W (bF H a o'):=⟨λ_ h=>h,λb u f e=>by rw[aH (λz=>by subst z;exact q.nF f)];exact e,λb u im e=>by
 rw[aH (λz=>?_)];exact e
 subst z
 have:=q.its
 rw[q.at_] at e;cases e
 cases this<;>cases im⟩
section
variable{X:Cx}{md lm:List Md}{rm:Md}{e o:Expr}{es:List Expr}{pt:lU}{pe pj:aY}{el:El}{i:Nat}{T id:String}{r:V->List V->Hp->VK->Prop}{ms:List Md}{pm:PV->List PV->(PV->Prop)->Prop}{name:Str}{apos cpos pos p:Pos}
theorem a0B {K:PySem.W.Frag} {H:Hp} {a:Addr} {o:HO} {x:PV} {G:Addr->Prop} (b:Body G H o x) (e:H a=some o) (hT:(∃xs,x= .lst xs/\T="list")\/∃ks xs,x= .dic ks xs/\T="dict"):a5E K T (.ref a) H:=by
 rcases hT with ⟨xs,rfl,rfl⟩|⟨ks,xs,rfl,rfl⟩
 ·cases b with
  |lst h=>exact .inl ⟨rfl,_,d9.of e⟩
 ·cases b with
  |dic l h=>exact .inr (.inr (.inl ⟨rfl,.inl ⟨_,e⟩⟩))
def a2B(T:String)(x:PV):Prop:=match x with
 |.lst _=>T="list"
 |.dic _ _=>T="dict"
 |_=>False
def gA(T:String)(i:Nat)(pm:PV->List PV->(PV->Prop)->Prop)(t:lU):bO:=λE env=>match k9 env i with
 |some (some x)=>a2B T x/\t env λys=>pm x ys λx'=>E.nx (eU env i (some x'))
 |_=>False
theorem a1S{x:PV}(h:a2B T x):(∃xs,x= .lst xs/\T="list")\/∃ks xs,x= .dic ks xs/\T="dict":=by
 cases x<;>first|exact .inl ⟨_,rfl,h⟩|exact .inr ⟨_,_,rfl,h⟩|exact (show False from h).elim
theorem j6 (pa:PlainAttrs T) (slot:Slot T name id) (hty:typeOf (.builtin id)=pure (.type "method_descriptor")) (hm:QM X id r) (hs:SimM r ms el pm) (ho:QE X o (eV i)) (hi:md.getD i .no= .o el) (ha:VA X md (e::es) ms pt)
  (hsw:swapsWith (.Call (.Attribute o name apos) (e::es) [] cpos) none pos.line X.env=pure false:=by rfl)
  (hbase:attributeBase o name X.env (eval o X.env)=eval o X.env:=by rfl)
  (hfew:((backTo cpos (starEach (e::es) X.env)).all (λx=>!x.1)&&(backToKw cpos (keywordEach [] X.env)).all (λx=>x.1.isSome)
   &&decide ((e::es).length+([]:List Keyword).length+(if ([]:List Keyword).isEmpty then 0 else 1)<30))=true:=by rfl)
  (hline:(apos.endLine==cpos.line)=true:=by rfl) (hse:starEach (e::es) X.env=(false,eval e X.env)::starEach es X.env:=by rfl) (hplain:(backTo cpos (starEach es X.env)).any (·.1)=false:=by rfl) :
  VS X md md lm rm (.Expr (.Call (.Attribute o name apos) (e::es) [] cpos) pos) (gA T i pm pt):=⟨(IA (a3T pa slot hty hm.h ho.h ha.h hbase hfew hline hse hplain) hsw).imp λD σ H=>by
 rintro⟨env,W0,H0,W,E,R,q,l⟩
 unfold gA at q
 rw[jH] at q
 cases ev:env[i]? with
 |none=>rw[ev] at q;exact q.elim
 | some ox=>
  cases ox with
  |none=>rw[ev] at q;exact q.elim
  | some x=>
   rw[ev] at q
   obtain⟨a,ob,sv,oq⟩:=R.ownAt hi ev
   refine⟨.ref a,sv,a0B oq.its oq.at_ (a1S q.1),env,W0,H0,W,_,R,q.2,λys vs W1 H1 g1 r1 q1=>?_⟩
   have R1:=R.step g1
   obtain⟨a1,o1,sv1,oq1⟩:=R1.ownAt hi ev
   rw[sv] at sv1;cases sv1
   refine hs.h H0 H W1 H1 a o1 x vs ys _ _ g1.ok oq1.at_ oq1.nF oq1.nS oq1.its r1 q1 λo' x' v im b z=>?_
   rw[e8] at z
   exact l.nx _ W1 σ _ (R1.put hi ev sv b im) ((g1.ex R.ok).trans (A7 (K:=X.K) (md:=md) (W0:=W0) (σ:=σ) (env:=env) (i:=i) oq1)) z⟩
def dJ:PV->List PV->(PV->Prop)->Prop:=λx ys R=>match x,ys with
 |.lst xs,[y]=>xs.length<sizeLine/\R (.lst (xs++[y]))
 |_,_=>False
theorem dO:SimM AB [.v el] el dJ:=⟨λB Hs W H a o x vs ys R K w e nF nS b r q k=>by
 obtain⟨v,y,rfl,rfl,r1⟩:=r.one
 cases b with
 |lst h=>exact⟨a,_,v,rfl,rfl,e,by rw[h.len];exact q.1,k _ _ _ rfl (.lst (h.append (.cons r1 .nil))) q.2⟩
 |dic l h=>exact q.elim⟩
def p6:PV->List PV->(PV->Prop)->Prop:=λx ys R=>match x,ys with
 |.lst xs,[]=>R (.lst [])
 |_,_=>False
theorem FV:SimM FQ [] el p6:=⟨λB Hs W H a o x vs ys R K w e nF nS b r q k=>by
 cases r
 cases b with
 |lst h=>exact⟨a,_,rfl,rfl,e,k _ _ _ rfl (.lst .nil) q⟩
 |dic l h=>exact q.elim⟩
def P6 (i:Nat) (pe pj:aY):bO:=λE env=>pe env λy=>match k9 env i with
 | some (some (.lst xs))=>pj env λj=>(match j with
  | .int k=>(match sR xs.length k with
   |some n=>E.nx (eU env i (some (.lst (xs.set n y))))
   |none=>False)
  |_=>False)
 |_=>False
theorem a22 {j:Expr} (ho:QE X o (eV i)) (hi:md.getD i .no= .o el) (he:VE X md e (.v el) pe) (hj:VE X md j .bw pj)
  (ha:∀v,assign (.Subscript o j p) X.env v=(do
   let ov <- holding [v] (eval o X.env)
   let iv <- holding [v,ov] (eval j X.env)
   standAt p
   holding [v,ov,iv] (setItem ov iv v)
   release [v,ov,iv] []):=by intro _;rfl)
  (hs:swapsWithSole [.Subscript o j p] e pos.line X.env=pure false:=by rfl) (hw:swappedStores [.Subscript o j p] e X.env=pure none:=by rfl)
  (h1:(assignEach [.Subscript o j p] X.env).map (·.2)=[assign (.Subscript o j p) X.env]:=by rfl):VS X md md lm rm (.Assign [.Subscript o j p] e pos) (P6 i pe pj):=⟨(A6 he.h (A4 ho.h hj.h pM ha) hs hw h1).imp λD σ H=>by
 rintro⟨env,W0,H0,W,E,R,q,l⟩
 refine⟨env,W0,H0,W,_,R,q,λy v W1 H1 g1 r1 q1=>?_⟩
 have R1:=R.step g1
 rw[jH] at q1
 cases ev:env[i]? with
 |none=>rw[ev] at q1;exact q1.elim
 | some ox=>
  cases ox with
  |none=>rw[ev] at q1;exact q1.elim
  | some x=>
   rw[ev] at q1
   cases x with
   | lst xs=>
    obtain⟨a,ob,sv,oq⟩:=R1.ownAt hi ev
    refine⟨.ref a,sv,env,W0,H0,W1,_,R1,q1,λjv u W2 H2 g2 r2 q2=>?_⟩
    have R2:=R1.step g2
    obtain⟨a2,o2,sv2,oq2⟩:=R2.ownAt hi ev
    rw[sv] at sv2;cases sv2
    cases jv with
    | int k=>
     dsimp only at q2
     cases hn:sR xs.length k with
     |none=>rw[hn] at q2;exact q2.elim
     | some n=>
      rw[hn] at q2
      have b:=oq2.its
      have oq3:=oq2
      have hat:=oq2.at_
      generalize o2=oo at b hat oq3
      cases b with
      | @lst us _ h=>
       have r1':Rep (el.G W2.F H0) H2 v y:=ResE.go (m:=.v el) r1 g1.ok g2
       refine⟨a,us,k,n,rfl,Rep.ofInt r2,hat,by rw[h.len];exact hn,?_⟩
       have q2:E.nx (eU env i (some (PV.lst (xs.set n y)))):=q2
       rw[e8] at q2
       exact l.nx _ W2 σ _ (R2.put hi ev sv (.lst (h.set r1' n)) rfl) (((g1.trans g2).ex R.ok).trans (A7 (K:=X.K) (md:=md) (W0:=W0) (σ:=σ) (env:=env) (i:=i) oq3)) q2
    |_=>exact q2.elim
   |_=>exact q1.elim⟩
end
def a5Q:Md->Md
 |.o e=>.c e
 |.v e=>.v e
 |.z e=>.z e
 |.c e=>.c e
 |.st=>.st
 |.scr=>.scr
 |_=>.no
def fZ(n:Nat)(cap:List Nat)(md:List Md):List Md:=List.replicate n .no++cap.map λi=>a5Q (md.getD i .no)
abbrev jn:Option (Option PV)->Option PV
 |some o=>o
 |none=>none
def qT(n:Nat)(cap:List Nat)(env:bC):bC:=List.replicate n none++cap.map λi=>jn (k9 env i)
def l5(md:List Md):Bool:=md.all λm=>match m with
 |.o _=>false
 |.bw=>false
 |.p _=>false
 |.n=>false
 |_=>true
theorem MS {md:List Md} (h:l5 md=true) (i:Nat):(∀e,md.getD i .no≠ .o e)/\md.getD i .no≠ .bw/\(∀e,md.getD i .no≠ .p e)/\md.getD i .no≠ .n:=by
 unfold l5 at h
 rw[a0x] at h
 rw[a0c]
 cases e:md[i]? with
 |none=>exact⟨λ_ z=>(by cases z),λz=>(by cases z),λ_ z=>(by cases z),λz=>(by cases z)⟩
 | some m=>
  have:=h m (a0u e)
  cases m<;>first|(cases this;done)|exact⟨λ_ z=>(by cases z),λz=>(by cases z),λ_ z=>(by cases z),λz=>(by cases z)⟩
section
variable{K:Aa}{md:List Md}{W W0 W1 W2:Wd}{H H0 H1 H2:Hp}{σ:St}{env:bC}{a:Ac}
theorem Wok.tmp(w:Wok W H)(nF:¬W.F a)(nS:¬W.S a)(nZ:¬W.Z a){o':HO}:Wok W (bF H a o'):=⟨λb hb=>by
 rw[aH (λz=>by subst z;exact nF hb)];exact w.fF b hb,λb hb=>by
 obtain⟨x1,x2,x3,e1,e2⟩:=w.sS b hb
 exact⟨x1,x2,x3,by rw[aH (λz=>by subst z;exact nS hb)];exact e1,e2⟩,w.dj,λb hb=>by
 rw[aH (λz=>by subst z;exact nZ hb)];exact w.zZ b hb,w.zF,w.zS⟩
theorem Go.tmp(g:Go W H W2 H2)(ha:H a=none)(nF:¬W2.F a)(nS:¬W2.S a)(nZ:¬W2.Z a){o':HO}:Go W H W2 (bF H2 a o'):=
 ⟨g.lF,g.lS,g.nF,g.nS,λb o e s=>by rw[aH (λz=>by subst z;rw[ha] at e;cases e)];exact g.kp b o e s,g.ok.tmp nF nS nZ,g.kk,g.kl,g.lZ,g.nZ⟩
theorem Rl.tmp (R:Rl K md W0 H0 W σ env H) (hb:l5 md=true) (h0:H0 a=none) (nF:¬W.F a) (nS:¬W.S a) (nL:¬W.L a) (nZ:¬W.Z a) {o o':HO} (e:H a=some o) (hi:o.imm=false) (hz:∀u q,o≠ .frz u q):Rl K md W0 H0 W σ env (bF H a o'):=by
 have ni:∀b u,H b=some u->u.imm=true->b≠a:=λb u e2 hu z=>by subst z;rw[e] at e2;cases e2;rw[hi] at hu;cases hu
 have nf:∀b,W.F b->b≠a:=λb f z=>by subst z;exact nF f
 have keep:∀ {G:Addr->Prop} {u:V} {y:PV},(∀a,G a->W.F a)->Rep G H u y->Rep G (bF H a o') u y:=λhG r=>r.mono (λ_ h=>h) λb u h e=>by
  rw[aH (h.elim (λg=>nf b (hG b g)) (ni b u e))];exact e
 have keepB:∀ {G:Addr->Prop} {u:HO} {y:PV},(∀a,G a->W.F a)->Body G H u y->Body G (bF H a o') u y:=λhG r=>r.mono (λ_ h=>h) λb u h e=>by
  rw[aH (h.elim (λg=>nf b (hG b g)) (ni b u e))];exact e
 refine⟨R.ok0,R.go.tmp h0 nF nS nZ,R.len,λj y ej=>?_,R.sep,R.bws,R.kk⟩
 obtain⟨u,su,ru⟩:=R.slot j y ej
 refine⟨u,su,?_⟩
 obtain⟨b1,b2,b3,b4⟩:=MS hb j
 cases hmd:md.getD j .no with
 |no=>trivial
 |bw=>exact absurd hmd b2
 |n=>exact absurd hmd b4
 |p e'=>exact absurd hmd (b3 e')
 |o e'=>exact absurd hmd (b1 e')
 |v e'=>rw[hmd] at ru;exact keep (λ_ g=>El.GF g) ru
 |st=>rw[hmd] at ru;exact ru
 | scr=>
  rw[hmd] at ru
  obtain⟨b,ns,e1,e2,z⟩:=ru
  refine⟨b,ns,e1,e2,?_⟩
  rcases z with ⟨oo,z⟩|z
  ·refine .inl ⟨oo,?_⟩
   rw[aH (λy=>?_)];exact z
   subst y
   rw[e] at z;cases z;exact hz _ _ rfl
  ·exact .inr z
 | z e'=>
  rw[hmd] at ru;obtain⟨b,ob,z1,qb⟩:=ru
  exact⟨b,ob,z1,qb.new,qb.F,by rw[aH (nf b qb.F)];exact qb.at_,keepB (λ_ g=>El.GF g) qb.its⟩
 | c e'=>
  rw[hmd] at ru;obtain⟨b,ob,z1,l,s,h,bd⟩:=ru
  exact⟨b,ob,z1,l,s,by rw[aH (λz=>by subst z;exact nL l)];exact h,keepB (λ_ g=>El.GF g) bd⟩
end
theorem BR {α:Type} (n:Nat) (cap:List Nat) (f:Nat->α) (d0 d:α) (i:Nat):(List.replicate n d0++cap.map f).getD i d=if i<n then d0 else match cap[i-n]? with|some c=>f c|none=>d:=by
 rw[a0c]
 by_cases h:i<n
 ·rw[if_pos h,a1f (by simpa using h),a2e,if_pos h];rfl
 ·rw[if_neg h,a1i (by simpa using h),a1z,a0g]
  cases cap[i-n]? <;>rfl
theorem FS {K:PySem.W.Frag} {md:List Md} {W0 W:Wd} {H0 H:Hp} {σ:St} {env:bC} {n:Nat} {cap:List Nat} (R:Rl K md W0 H0 W σ env H) (L:Addr->Prop) (hL:∀a o,H a=some o->L a):Rl K (fZ n cap md) {W0 with L:=L} H0 {W with L:=L} (EX n cap σ) (qT n cap env) H:=by
 have nown:∀i,((fZ n cap md).getD i .no).own=false:=λi=>by
  unfold fZ
  rw[BR]
  split
  ·rfl
  ·cases cap[i-n]? with
   |none=>rfl
   |some c=>dsimp only;cases md.getD c .no<;>rfl
 refine⟨⟨R.ok0.fF,R.ok0.sS,R.ok0.dj,R.ok0.zZ,R.ok0.zF,R.ok0.zS⟩,⟨R.go.lF,R.go.lS,R.go.nF,R.go.nS,R.go.kp,⟨R.go.ok.fF,R.go.ok.sS,R.go.ok.dj,R.go.ok.zZ,R.go.ok.zF,R.go.ok.zS⟩,R.go.kk,rfl,R.go.lZ,R.go.nZ⟩,by simp[EX,qT],λi x e=>?_,λi j x y a hij oi=>(by rw[nown i] at oi;cases oi),?_,R.kk⟩
 ·unfold qT at e
  by_cases hi:i<n
  ·rw[a1f (by simpa using hi),a2e] at e
   split at e<;>cases e
  ·rw [a1i (by simpa using hi),a1z,a0g] at e
   cases hc:cap[i-n]? with
   |none=>rw[hc] at e;cases e
   | some c=>
    rw[hc] at e
    have e':jn (k9 env c)=some x:=a1j e
    rw[jH] at e'
    have ev:env[c]? =some (some x):=by
     cases q:env[c]? with
     |none=>rw[q] at e';cases e'
     |some o=>rw[q] at e';exact congrArg some e'
    obtain⟨v,sv,r⟩:=R.slot c x ev
    refine⟨v,?_,?_⟩
    ·unfold EX
     rw[a1i (by simpa using hi),a1z,a0g,hc,Option.map_some,a0c,sv];rfl
    ·unfold fZ
     rw[BR,if_neg hi,hc]
     dsimp only
     cases hm:md.getD c .no with
     |o e=>rw[hm] at r;obtain⟨a,o,rfl,q⟩:=r;exact⟨a,o,rfl,hL a o q.at_,q.nS,q.at_,q.its⟩
     |v e=>rw[hm] at r;exact r
     |z e=>rw[hm] at r;obtain⟨a,o,rfl,q⟩:=r;exact⟨a,o,rfl,q.new,q.F,q.at_,q.its⟩
     |c e=>rw[hm] at r;obtain⟨a,o,rfl,_,q2,q3,q4⟩:=r;exact⟨a,o,rfl,hL a o q3,q2,q3,q4⟩
     |st=>rw[hm] at r;exact r
     |scr=>rw[hm] at r;exact r
     |_=>trivial
 ·unfold fE
  rw[a2d,a0x,a0x]
  refine .inr λm hm=>?_
  unfold fZ at hm
  rcases a1a.mp hm with z|z
  ·rw[(a6x.mp z).2];rfl
  ·obtain⟨c,_,rfl⟩:=a0p.mp z
   cases md.getD c .no<;>rfl
def kN(g:iU)(tt:fD)(te:aY)(Q:PV->Prop):List PV->List PV->bC->Prop
 |[],acc,_=>Q (.lst acc)
 |x::xs,acc,env=>g x env λenv1=>tt env1 λk=>Br k (te env1 λv=>kN g tt te Q xs (acc++[v]) env1) (kN g tt te Q xs acc env1)
def qS(s:n9)(g:iU)(tt:fD)(te:aY)(cp:bC->bC):aY:=λenv Q=>s env λitems=>items.length<=sizeLine/\kN g tt te Q items [] (cp env)
def dI:fD:=λ_ Q=>Q true
structure VTs(X:Cx)(md:List Md)(ifs:List Expr)(p:fD):Prop where
 h:M7 X ifs (rO X.K md p)
theorem M7.imp{X:Cx}{e:List Expr}{t t':TT}(h:M7 X e t)(k:∀σ H K,t' σ H K->t σ H K):M7 X e t':=λpins s σ H Q I q=>h pins s σ H Q I (k σ H Q q)
theorem eC{X:Cx}{md:List Md}:VTs X md [] dI:=⟨VL.imp λσ H K=>by
 rintro⟨env,W0,H0,W,Q,R,q,k⟩
 exact k true W H (Go.refl R.ok) q⟩
theorem j7{X:Cx}{md:List Md}{c:Expr}{p:fD}(h:VT X md c p):VTs X md [c] p:=⟨VM h.h⟩
theorem HI {K:PySem.W.Frag} {md mb:List Md} {el eli:El} {s:n9} {g:iU} {tt:fD} {te:aY} {n:Nat} {cap:List Nat} {σ:St} {H:Hp} {Q:VK} {cp:bC->bC} (hcp:∀env,cp env=qT n cap env) (hle:jG mb (fZ n cap md)=true) (hbl:l5 mb=true)
  (h:fH K md (.o el) (qS s g tt te cp) σ H Q):a6N (xR K md eli s) (uK K (fZ n cap md) mb eli g) (rO K mb tt) (fH K mb (.v el) te) n cap σ H Q:=by
 obtain⟨env,W0,H0,W,Q',R,q,k⟩:=h
 refine⟨env,W0,H0,W,_,R,q,λitems W1 H1 J g1 sr q1=>?_⟩
 intro acc hacc
 obtain⟨hsz,q1⟩:=q1
 rw[hcp] at q1
 have h0acc:H0 acc=none:=R.go.free (g1.free hacc)
 have R1:=R.step g1
 have Rb:=FS (n:=n) (cap:=cap) R1 (λa=>∃o,H1 a=some o) (λa o e=>⟨o,e⟩)
 generalize hW1b:({W1 with L:=λa=>∃o,H1 a=some o}:Wd)=W1b at Rb
 generalize hW0b:({W0 with L:=λa=>∃o,H1 a=some o}:Wd)=W0b at Rb
 have f1:W1b.F=W1.F:=by rw[<- hW1b]
 have s1:W1b.S=W1.S:=by rw[<- hW1b]
 have l1:¬W1b.L acc:=by rw[<- hW1b];rintro⟨o,e⟩;rw[hacc] at e;cases e
 have okb:Wok W1b H1:=Rb.ok
 have nF1:¬W1b.F acc:=λz=>okb.offF hacc z
 have nS1:¬W1b.S acc:=λz=>okb.offS hacc z
 have nZ1:¬W1b.Z acc:=λz=>okb.offZ hacc z
 have z1:W1b.Z=W1.Z:=by rw[<- hW1b]
 have gl:Go W1b H1 W1b (bF H1 acc (.lst [])):=Go.laid okb hacc
 have exW:∀ {Wb:Wd} {Hb:Hp},Go W1b H1 Wb Hb->Ex W1 H1 Wb Hb:=λgb=>by
  have x:=gb.ex okb
  exact⟨λa h=>x.lF a (by rw[f1];exact h),λa o h e=>x.kp a o (by rw[f1];exact h) e,x.im⟩
 refine ⟨λi m σb Hb=>m=items.length-i/\i<=items.length/\∃(envb:bC) (Wb:Wd) (vs:List V) (accx:List PV),Rl K (fZ n cap md) W0b H0 Wb σb envb Hb/\Go W1b H1 Wb Hb/\Hb acc=some (.lst vs)/\¬Wb.F acc/\¬Wb.S acc/\¬Wb.Z acc/\Reps (el.G Wb.F H0) Hb vs accx/\accx.length<=i/\kN g tt te Q' (items.drop i) accx envb,
  ⟨items.length,by simp,a3c _,qT n cap env,W1b,[],[],Rb.step gl,gl,b5,nF1,nS1,nZ1,.nil,a3c _,by simpa using q1⟩,?_⟩
 rintro i m σb Hb ⟨rfl,hi,envb,Wb,vs,accx,Rr,gb,hat,nF,nS,nZ,rs,hal,qb⟩
 by_cases hlt:i<items.length
 ·rw [a3f hlt] at qb
  refine .inr ⟨sr.go i Wb Hb (exW gb) hlt,λσ' H'=>i+1<=items.length/\∃(envb:bC) (Wb:Wd) (vs:List V) (accx:List PV),Rl K (fZ n cap md) W0b H0 Wb σ' envb H'/\Go W1b H1 Wb H'/\H' acc=some (.lst vs)/\¬Wb.F acc/\¬Wb.S acc/\¬Wb.Z acc/\Reps (el.G Wb.F H0) H' vs accx/\accx.length<=i+1/\kN g tt te Q' (items.drop (i+1)) accx envb,
   λσ' H' z=>⟨items.length-(i+1),by omega,rfl,z.1,z.2⟩,λv H3 y=>?_⟩
  obtain⟨g3,x,ex,rx⟩:=sr.yld i Wb Hb v H3 (exW gb) Rr.ok hlt y
  rw[a0a hlt] at ex
  cases ex
  refine⟨envb,W0b,H0,Wb,_,_,Rr.step g3,rx,qb,λenv' σ' R' z=>?_⟩
  refine⟨env',W0b,H0,Wb,_,R',z,λkk W4 H4 g4 q4=>?_⟩
  have g34:=g3.trans g4
  have hat4:=g34.kp acc _ hat nS
  have nF4:=g34.nFF hat nF
  have nS4:=g34.nSS hat nS
  have nZ4:=g34.nZZ hat nZ
  have rs4:Reps (el.G W4.F H0) H4 vs accx:=g34.reps Rr.ok (λ_ h=>El.nS Rr.ok h) (λ_ h=>El.up g34.lF (λ_ z=>z) h) rs
  cases kk with
  | false=>
   dsimp only
   rw[if_neg a0i]
   exact⟨hlt,env',W4,vs,accx,(R'.step g4).less hle,gb.trans g34,hat4,nF4,nS4,nZ4,rs4,by omega,q4⟩
  | true=>
   dsimp only
   rw[if_pos rfl]
   refine⟨env',W0b,H0,W4,_,R'.step g4,q4,λw u W5 H5 g5 r5 q5=>?_⟩
   have hat5:=g5.kp acc _ hat4 nS4
   have nF5:=g5.nFF hat4 nF4
   have nS5:=g5.nSS hat4 nS4
   have nZ5:=g5.nZZ hat4 nZ4
   have rs5:Reps (el.G W5.F H0) H5 vs accx:=g5.reps g4.ok (λ_ h=>El.nS g4.ok h) (λ_ h=>El.up g5.lF (λ_ z=>z) h) rs4
   have gb5:=gb.trans (g34.trans g5)
   have nL5:¬W5.L acc:=by rw[gb5.kl];exact l1
   refine⟨vs,hat5,?_,hlt,env',W5,vs++[u],accx++[w],?_,gb5.tmp hacc nF5 nS5 nZ5,b5,nF5,nS5,nZ5,?_,?_,q5⟩
   ·have:=rs5.len;omega
   ·exact (((R'.step g4).step g5).tmp hbl h0acc nF5 nS5 nL5 nZ5 hat5 rfl (λ_ _ z=>by cases z)).less hle
   ·have:=rs5.append (.cons r5 .nil)
    refine this.mono (λ_ h=>h) λb o hh e=>?_
    rw[aH (λz=>?_)];exact e
    subst z
    rcases hh with hh|hh
    ·exact nF5 (El.GF hh)
    ·rw[hat5] at e;cases e;cases hh
   ·simp;omega
 ·have e:i=items.length:=by omega
  subst e
  rw[a6d] at qb
  refine .inl ⟨sr.stop Wb Hb (exW gb),?_⟩
  have gf:Go W H {Wb with L:=W.L} Hb:=by
   have a:=g1
   refine⟨λb h=>gb.lF b (by rw[f1];exact a.lF b h),λb h=>gb.lS b (by rw[s1];exact a.lS b h),λb h=>?_,λb h=>?_,λb o e s=>?_,⟨gb.ok.fF,gb.ok.sS,gb.ok.dj,gb.ok.zZ,gb.ok.zF,gb.ok.zS⟩,?_,rfl,λb h=>gb.lZ b (by rw[z1];exact a.lZ b h),λb h=>?_⟩
   ·rcases gb.nF b h with z|z
    ·exact a.nF b (by rw[<- f1];exact z)
    ·exact .inr (a.free z)
   ·rcases gb.nS b h with z|z
    ·exact a.nS b (by rw[<- s1];exact z)
    ·exact .inr (a.free z)
   ·refine gb.kp b o (a.kp b o e s) ?_
    rw[s1];exact a.nSS e s
   ·show Wb.K=W.K
    rw[gb.kk,<- hW1b];exact a.kk
   ·rcases gb.nZ b h with z|z
    ·exact a.nZ b (by rw[<- z1];exact z)
    ·exact .inr (a.free z)
  exact k (.lst accx) (.ref acc) _ Hb gf ⟨acc,_,rfl,g1.free hacc,nF,nS,hat,.lst rs,nZ⟩ qb
section
variable{X:Cx}{elt target iter:Expr}{ifs:List Expr}{scope:Scope}{pos:Pos}{N':List Str}{n:Nat}{cap:List Nat}{md mb:List Md}{el eli:El}{s:n9}{g:iU}{tt:fD}{te:aY}
theorem a4Y {cp:bC->bC} (hcp:∀env,cp env=qT n cap env) (hc:X.calm=true) (S:LcOk X.N X.env.scope scope N' n cap) (hle:jG mb (fZ n cap md)=true) (hbl:l5 mb=true) (hi:VI X md eli target iter s) (hg:∀C s H fp,VG (b6 X N' scope C s H fp) (fZ n cap md) mb eli target g)
  (ht:∀C s H fp,VTs (b6 X N' scope C s H fp) mb ifs tt) (he:∀C s H fp,VE (b6 X N' scope C s H fp) mb elt (.v el) te) (hs:∀x,foldedSetIterable iter X.env x=pure x:=by intro _;rfl) :
  VE X md (.ListComp elt [⟨target,iter,ifs,0⟩] scope pos) (.o el) (qS s g tt te cp):=
 ⟨(a3U hc S hi.h (λC s H fp=>(hg C s H fp).h) (λC s H fp=>(ht C s H fp).h) (λC s H fp=>(he C s H fp).h) hs).imp λσ H Q h=>HI hcp hle hbl h⟩
end
theorem Cal.imp{P:Program}{w:World}{K:PySem.W.Frag}{mg:Str->Option Value}{base:Heap}{k:Nat}{x:Str}{ps:List Str}{sp sp':Sp}(C:Cal P w K mg base k x ps sp)(h:∀vs H Q E,sp' vs H Q E->sp vs H Q E):Cal P w K mg base k x ps sp':=by
 obtain⟨f,fd,a,b,c,l,d⟩:=C.ex
 exact⟨f,fd,a,b,c,l,d.imp h⟩
def HR:PN:=λxs R=>match xs with
 |[.st,.int m]=>0<m/\m<2^250/\∀r:Int,0<=r->r<m->R (.int r)
 |_=>False
def FB:PN:=λxs R=>match xs with
 |[.scr _,.int k]=>0<=k/\k<1000000/\R .st
 |_=>False
theorem Go.state {W:Wd} {H:Hp} {p:Addr} {a b c:Int} (w:Wok W H) (hs:W.S p) (ok:StOk a b c):Go W H W (bF H p (SC a b c)) where
 lF:=λ_ h=>h
 lS:=λ_ h=>h
 nF:=λ_ h=>.inl h
 nS:=λ_ h=>.inl h
 kp:=λq o e s=>by rw[aH (λz=>by subst z;exact s hs)];exact e
 ok:=⟨λq f=>by rw[aH (λz=>by subst z;exact w.dj q f hs)];exact w.fF q f,λq f=>by
  by_cases h:q=p
  ·subst h;exact⟨a,b,c,b5,ok⟩
  ·obtain⟨x1,x2,x3,e,z⟩:=w.sS q f
   exact⟨x1,x2,x3,by rw[aH h];exact e,z⟩,w.dj,λq f=>by rw[aH (λz=>by subst z;exact w.zS q f hs)];exact w.zZ q f,w.zF,w.zS⟩
 kk:=rfl
 kl:=rfl
 lZ:=λ_ h=>h
 nZ:=λ_ h=>.inl h
section
variable{P:Program}{w:World}{K:Aa}{mg:Str->Option Value}{base:Heap}{k:Nat}{x:Str}{ps:List Str}
theorem N6 (C:Cal P w K mg base k x ps R7):Cal P w K mg base k x ps (G6 K [.st,.bw] (.v .fl) HR):=C.imp λvs H Q E h=>by
 obtain⟨xs,W,R,hk,wk,r,q,kk⟩:=h
 obtain⟨v,x,u,y,rfl,rfl,r1,r2⟩:=r.two
 obtain⟨p,rfl,rfl,hs⟩:=r1
 unfold HR at q
 cases y with
 | int m=>
  obtain⟨a,b,c,e,ok⟩:=wk.sS p hs
  rw[Rep.ofInt r2]
  exact⟨p,m,a,b,c,rfl,e,ok,q.1,q.2.1,λr a' b' c' h0 h1 ok'=>kk _ _ W _ (Go.state wk hs ok') (.int _) (q.2.2 r h0 h1)⟩
 |_=>exact q.elim
theorem JP (C:Cal P w K mg base k x ps (IR K)):Cal P w K mg base k x ps (G6 K [.scr,.bw] .st FB):=C.imp λvs H Q E h=>by
 obtain⟨xs,W,R,hk,wk,r,q,kk⟩:=h
 obtain⟨v,x,u,y,rfl,rfl,r1,r2⟩:=r.two
 obtain⟨p,ns,rfl,rfl,hs⟩:=r1
 unfold FB at q
 cases y with
 | int m=>
  rw[Rep.ofInt r2]
  rw[hk] at hs
  refine⟨p,m,ns,rfl,hs.sq,q.1,q.2.1,λs a b c hn ok=>?_⟩
  have g0:Go W H W (bF H s (SC a b c)):=Go.laid wk hn
  refine kk .st (.ref s) {W with S:=λb=>W.S b\/b=s} _ ⟨λ_ h=>h,λ_ h=>.inl h,λ_ h=>.inl h,λb h=>h.elim .inl λz=>.inr (by rw[z];exact hn),λb o e hb=>g0.kp b o e hb,⟨g0.ok.fF,λz h=>?_,λb f h=>?_,g0.ok.zZ,g0.ok.zF,λb f h=>h.elim (g0.ok.zS b f) λz=>by subst z;exact wk.offZ hn f⟩,rfl,rfl,λ_ h=>h,λ_ h=>.inl h⟩ ⟨s,rfl,rfl,.inr rfl⟩ q.2.2
  ·rcases h with h|h
   ·exact g0.ok.sS z h
   ·subst h;exact⟨a,b,c,b5,ok⟩
  ·rcases h with h|h
   ·exact wk.dj b f h
   ·subst h;exact wk.offF hn f
 |_=>exact q.elim
def AK(K:Aa):Sp:=λvs H Q _=>∃(a:Ac) (ns:List Int),vs=[.ref a]/\ScrAt K H a ns/\ns.length<=63/\∀H',Q (.bl true) H'
theorem QW{H:Hp}{a:Addr}{ns:List Int}(h:d9 K H a (ns.map V.int))(o:SG H):ScrAt K H a ns:=by
 rcases h with (h|h)|h
 ·rcases o a with z|⟨u,q,z⟩|z<;>(rw[z] at h;cases h)
 ·exact .inl h
 ·exact .inr h
theorem T1{p:PN}(C:Cal P w K mg base k x ps (G6 K [.scr] (.v .fl) p))(h:∀ns:List Int,ns.length<=63->p [.scr ns] λr=>r= .bl true):Cal P w K mg base k x ps (AK K):=C.imp λvs H Q E z=>by
 obtain⟨a,ns,rfl,hs,hl,q⟩:=z
 refine⟨[.scr ns],⟨K,λ_=>False,λ_=>False,λ_=>False,λ_=>False⟩,_,rfl,⟨λ_ z=>z.elim,λ_ z=>z.elim,λ_ z=>z.elim,λ_ z=>z.elim,λ_ z=>z.elim,λ_ z=>z.elim⟩,.cons ⟨a,ns,rfl,rfl,hs⟩ .nil,h ns hl,λx v W' H' _ r e=>?_⟩
 subst e
 rw[Rep.ofBl r]
 exact q H'
end
section
variable{X:Cx}{md:List Md}{el:El}{i:Nat}{tg:Expr}
theorem RV(h:QG X tg (l7 i))(hm:fE (md.set i (.v el))=true)(hl:i<md.length):VG X md (md.set i (.v el)) el tg (aG i):=⟨h.h.imp λv σ H Q=>by
 rintro⟨env,W0,H0,W,x,R,Rr,r,q,k⟩
 unfold aG at q
 rw[e8] at q
 exact k _ _ (Rr.set (Go.refl Rr.ok) (m:=.v el) r hm hl) q⟩
end
def A2:P2:=A3 λi j=>.bl (decide (i=j))
def P0:P2:=A3 λi j=>.bl (!decide (i=j))
theorem BG{i j:Int}:decide (V.int i=V.int j)=decide (i=j):=by
 by_cases h:i=j
 ·subst h;simp
 ·rw[a1c h,a1c (λz=>h (V.int.inj z))]
theorem pO:SimOp a6D (.v .fl) A2:=⟨λB W H x y px py Q K w rx ry q k=>by
 cases px with
 | int i=>cases py with
  |int j=>refine⟨by rw[rx.ofInt,ry.ofInt];rfl,?_⟩;rw[rx.ofInt,ry.ofInt,BG];exact k.atom w (.bl _) q
  |_=>exact q.elim
 |_=>exact q.elim⟩
theorem WD:SimOp a6F (.v .fl) P0:=⟨λB W H x y px py Q K w rx ry q k=>by
 cases px with
 | int i=>cases py with
  |int j=>refine⟨by rw[rx.ofInt,ry.ofInt];rfl,?_⟩;rw[rx.ofInt,ry.ofInt,BG];exact k.atom w (.bl _) q
  |_=>exact q.elim
 |_=>exact q.elim⟩
def dH:P2:=A3 λi j=>.int (i+j)
def gM:P2:=A3 λi j=>.int (i-j)
def uQ:P2:=pI w6 λi j=>.int (i*j)
def jV:P2:=pI w8 λi j=>.int (i^j.toNat)
def uP:P2:=A3 λi j=>.bl (decide (i<j))
def FC:P2:=A3 λi j=>.bl (decide (i<=j))
def m7:P2:=A3 λi j=>.bl (decide (j<i))
def jU:PV->(PV->Prop)->Prop:=pU λi=>.int (-i)
section
variable{X:Cx}{md:List Md}{a:Expr}{pa:aY}{pos:Pos}
theorem kY(ha:VE X md a .bw pa):VE X md (.UnaryOp .USub a pos) (.v .fl) (HU jU pa):=a50 IK (λB W H x px Q K w r q k=>by
 cases px with
 |int i=>exact⟨i,r.ofInt,k.atom w (.int _) q⟩
 |_=>exact q.elim) ha
theorem lL:SimOp (wM λi j=>.int (i+j)) (.v .fl) dH:=QY
theorem sU:SimOp (wM λi j=>.int (i-j)) (.v .fl) gM:=QY
theorem a1D:SimOp (rI w6 λi j=>.int (i*j)) (.v .fl) uQ:=XS
theorem AE:SimOp (rI w8 λi j=>.int (i^j.toNat)) (.v .fl) jV:=XS
theorem a1C:SimOp (wM λi j=>.bl (decide (i<j))) (.v .fl) uP:=FT
theorem a6J:SimOp (wM λi j=>.bl (decide (i<=j))) (.v .fl) FC:=FT
theorem LJ:SimOp (wM λi j=>.bl (decide (j<i))) (.v .fl) m7:=FT
end
theorem Q6{X:Cx}:QM X "list.clear" FQ:=⟨OM⟩
theorem KD{G:Addr->Prop}{H:Hp}(m:Nat):Reps G H (rM m) (cU 0 m):=by
 have:rM m=((List.range m).map λ(i:Nat)=>(i:Int)).map V.int:=by simp[rM]
 have h2:cU 0 m=((List.range m).map λ(i:Nat)=>(i:Int)).map PV.int:=by simp[cU]
 rw[this,h2];exact jZ _
def uO(a:aY):aY:=λenv Q=>a env λx=>match x with
 |.int j=>0<=j/\j<=1000/\Q (.lst (cU 0 j.toNat))
 |_=>False
section
variable{X:Cx}{md:List Md}{a:Expr}{pa:aY}{p1 p2 pos1 pos2:Pos}
theorem RS (hc:X.calm=true) (hg:X.env.scope.names.lookup ("list" : Str)=some .globalImplicit) (hm:X.mg "list"=none) (hg2:X.env.scope.names.lookup ("range" : Str)=some .globalImplicit) (hm2:X.mg "range"=none) (ha:VE X md a .bw pa)
  (he:starEach [a] X.env=(false,eval a X.env)::starEach [] X.env:=by rfl) (hpl:(backTo pos2 (starEach [] X.env)).any (·.1)=false:=by rfl)
  (he1:starEach [.Call (.Name "range" p2) [a] [] pos2] X.env=(false,eval (.Call (.Name "range" p2) [a] [] pos2) X.env)::starEach [] X.env:=by rfl) (hpl1:(backTo pos1 (starEach [] X.env)).any (·.1)=false:=by rfl) :
  VE X md (.Call (.Name "list" p1) [.Call (.Name "range" p2) [a] [] pos2] [] pos1) (.o .fl) (uO pa):=
 ⟨(gB (SX hc) hg hm oI (eJ (gB SY hg2 hm2 MX (eJ ha.h iN he) (by decide) (by decide) he hpl) iN he1) (by decide) (by decide) he1 hpl1).imp λσ H K=>by
  rintro⟨env,W0,H0,W,Q,R,q,k⟩
  refine⟨env,W0,H0,W,_,R,q,λx v W1 H1 g1 r1 q1=>?_⟩
  cases x with
  | int j=>
   have hv:=Rep.ofInt r1
   subst hv
   refine⟨j,rfl,λp hp=>⟨p,j,rfl,b5,⟨q1.1,q1.2.1⟩,λl hl=>?_⟩⟩
   have g2:Go W1 H1 W1 (bF H1 p (.rng 0 j)):=Go.laid g1.ok hp
   exact (k.after (g1.trans g2)).newL g2.ok hl (KD _) q1.2.2
  |_=>exact q1.elim⟩
end
open PySem
def z7(xs:Array Nat):Prop:=xs.toList.Pairwise (· < ·)
theorem z7.lt{xs:Array Nat}(h:z7 xs){i k:Nat}{a b:Nat}(hik:i<k)(ha:xs[i]? =some a)(hb:xs[k]? =some b):a<b:=by
 unfold z7 at h
 rw[a3d] at h
 rw[<- a2k] at ha hb
 obtain⟨h1,rfl⟩:=a0j.mp ha
 obtain⟨h2,rfl⟩:=a0j.mp hb
 exact h i k h1 h2 hik
theorem tS (xs:Array Nat) (j:Nat) (hr:z7 xs):∀(fuel lo hi:Nat),lo<=hi->hi<=xs.size->hi-lo<=fuel->(∀i a,i<lo->xs[i]? =some a->a<j)->(∀i a,hi<=i->xs[i]? =some a->j<=a)->
  SetTable.below.go xs j fuel lo hi<=xs.size/\(∀i a,i<SetTable.below.go xs j fuel lo hi->xs[i]? =some a->a<j)/\∀i a,SetTable.below.go xs j fuel lo hi<=i->xs[i]? =some a->j<=a
 | 0,lo,hi,h1,h2,h3,h4,h5=>by
  have:lo=hi:=by omega
  subst this
  rw[SetTable.below.go]
  exact⟨h2,h4,h5⟩
 | fuel+1,lo,hi,h1,h2,h3,h4,h5=>by
  rw[SetTable.below.go]
  by_cases hlt:lo<hi
  ·rw [if_pos hlt]
   dsimp only
   have hm:(lo+hi) / 2<xs.size:=by omega
   have hg:xs.getD ((lo+hi) / 2) j=xs[(lo+hi) / 2]:=by simp[Array.getD,hm]
   rw[hg]
   by_cases hc:xs[(lo+hi) / 2]<j
   ·rw [if_pos hc]
    refine tS xs j hr fuel ((lo+hi) / 2+1) hi (by omega) h2 (by omega) (λi a hi' ha=>?_) h5
    by_cases hi2:i=(lo+hi) / 2
    ·subst hi2
     rw[a0v hm] at ha
     cases ha;exact hc
    ·exact a2t (hr.lt (by omega:i<(lo+hi) / 2) ha (a0v hm)) hc
   ·rw [if_neg hc]
    refine tS xs j hr fuel lo ((lo+hi) / 2) (by omega) (by omega) (by omega) h4 (λi a hi' ha=>?_)
    by_cases hi2:i=(lo+hi) / 2
    ·subst hi2
     rw[a0v hm] at ha
     cases ha;omega
    ·have:=hr.lt (by omega:(lo+hi) / 2<i) (a0v hm) ha
     omega
  ·rw[if_neg hlt]
   have:lo=hi:=by omega
   subst this
   exact⟨h2,h4,h5⟩
theorem tU {xs:Array Nat} (hr:z7 xs) (j:Nat):SetTable.below xs j<=xs.size/\(∀i a,i<SetTable.below xs j->xs[i]? =some a->a<j)/\∀i a,SetTable.below xs j<=i->xs[i]? =some a->j<=a:=
 tS xs j hr xs.size 0 xs.size (a3c _) (a0l _) (by omega) (λi a h=>by omega) λi a h ha=>by
  have:=(Array.getElem?_eq_some_iff.mp ha).1
  omega
theorem tV{xs:Array Nat}(hr:z7 xs):SetTable.below xs 0=0:=by
 obtain⟨h1,h2,_⟩:=tU hr 0
 refine Nat.eq_zero_of_not_pos λh=>?_
 have:=h2 0 xs[0] h (a0v (by omega))
 omega
theorem tT {xs:Array Nat} (hr:z7 xs) {i j:Nat} (h:xs[i]? =some j):SetTable.below xs (j+1)=i+1:=by
 obtain⟨h1,h2,h3⟩:=tU hr (j+1)
 have hi:i<xs.size:=(Array.getElem?_eq_some_iff.mp h).1
 refine Nat.le_antisymm (a4n λhlt=>?_) (a4n λhlt=>?_)
 ·have hs:i+1<xs.size:=by omega
  have a1:=h2 (i+1) _ hlt (a0v hs)
  have a2:=hr.lt (a3m i) h (a0v hs)
  omega
 ·have:=h3 i j (by omega) h
  omega
theorem FR {xs:Array Nat} (hr:z7 xs) {j:Nat} (hj:xs[SetTable.below xs j]? ≠some j):z7 (SetTable.insertAt xs (SetTable.below xs j) j):=by
 obtain⟨h1,h2,h3⟩:=tU hr j
 unfold z7 SetTable.insertAt
 have e1:(xs.extract 0 (SetTable.below xs j)).toList=xs.toList.take (SetTable.below xs j):=by simp
 have e2:(xs.extract (SetTable.below xs j) xs.size).toList=xs.toList.drop (SetTable.below xs j):=by
  simp[Array.toList_extract]
  apply a4a
  simp
 rw[a4t,a7i,e1,e2]
 have hp:xs.toList.Pairwise (· < ·):=hr
 have ha:∀a∈xs.toList.take (SetTable.below xs j),a<j:=λa ha=>by
  obtain⟨i,hi,rfl⟩:=a2j ha
  rw[a2g] at hi
  refine h2 i _ (by omega) ?_
  rw[List.getElem_take,<- a2k]
  exact a0a _
 have hb:∀b∈xs.toList.drop (SetTable.below xs j),j<b:=λb hb=>by
  obtain⟨i,hi,rfl⟩:=a2j hb
  rw[a6c] at hi
  rw[List.getElem_drop]
  have hlt:SetTable.below xs j+i<xs.toList.length:=by omega
  have g:xs[SetTable.below xs j+i]? =some (xs.toList[SetTable.below xs j+i]):=by rw[<- a2k];exact a0a _
  have a1:=h3 _ _ (Nat.le_add_right _ _) g
  refine Nat.lt_of_le_of_ne a1 λz=>?_
  cases i with
  |zero=>exact hj ((show xs[SetTable.below xs j]? =_ from g).trans (congrArg some z.symm))
  | succ i=>
   have hs:SetTable.below xs j<xs.size:=by simp at hlt;omega
   have a2:=h3 _ _ (a0l _) (a0v hs)
   have a3:=hr.lt (by omega:SetTable.below xs j<SetTable.below xs j+(i+1)) (a0v hs) g
   omega
 rw[a4l,a4l]
 refine⟨⟨hp.sublist (List.take_sublist _ _),by simp,λa h b hb'=>by simp at hb';subst hb';exact ha a h⟩,hp.sublist (List.drop_sublist _ _),λa h b hb'=>?_⟩
 rcases a1a.mp h with z|z
 ·exact a2t (ha a z) (hb b hb')
 ·simp at z;subst z;exact hb b hb'
def M8(bt:Bool)(t:SetTable):Prop:=bt=true\/(t.led=true/\(t.plain=true->z7 t.place))
theorem DA{t:SetTable}{j:Nat}(h:∀i,t.slot j≠ .live i):t.place[SetTable.below t.place j]? ≠some j:=λe=>by
 refine h (SetTable.below t.place j) ?_
 unfold SetTable.slot
 dsimp only
 rw[if_pos (by rw[e];simp)]
theorem vA {t:SetTable} {f:Nat->Int} {h:Int}:∀(fuel:Nat) (p:SetTable.Probe) (j:Nat) (d:Option Nat),SetTable.probe.go t f h fuel p=some (.empty j d)->(∀x,p.dummy=some x->∀i,t.slot x≠ .live i)->
  (∀i,t.slot j≠ .live i)/\∀x,d=some x->∀i,t.slot x≠ .live i
 |0,p,j,d,e,_=>by rw[SetTable.probe.go] at e;cases e
 | fuel+1,p,j,d,e,hp=>by
  rw[SetTable.probe.go] at e
  cases hs:t.slot p.j with
  | empty=>
   rw[hs] at e
   simp only[a7e,SetTable.Met.empty.injEq] at e
   obtain⟨e1,e2⟩:=e
   subst e1 e2
   exact⟨λi z=>(by rw[hs] at z;cases z),hp⟩
  | dummy=>
   rw[hs] at e
   refine vA fuel _ j d e λx hx i=>?_
   have:(t.advance {p with dummy:=some p.j}).dummy=some p.j:=by
    unfold SetTable.advance
    split<;>rfl
   rw[this] at hx
   cases hx
   rw[hs];intro z;cases z
  | live k=>
   rw[hs] at e
   dsimp only at e
   split at e
   ·cases e
   ·refine vA fuel _ j d e λx hx=>hp x ?_
    have:(t.advance p).dummy=p.dummy:=by
     unfold SetTable.advance
     split<;>rfl
    rw[this] at hx;exact hx
theorem zO {t:SetTable} {h:Int} {j:Nat} {b:Bool} (e:t.freeSlot h=some (j,b)):t.place[SetTable.below t.place j]? ≠some j:=by
 unfold SetTable.freeSlot at e
 split at e
 ·rename_i j' d hp
  have:=vA _ _ _ _ (show SetTable.probe.go t _ h _ _=_ from hp) (λx hx=>by cases hx)
  simp only[a7e,Prod.mk.injEq] at e
  obtain⟨e1,e2⟩:=e
  cases d with
  |none=>simp at e1;subst e1;exact DA this.1
  |some x=>simp at e1;subst e1;exact DA (this.2 _ rfl)
 ·cases e
theorem KQ {bt:Bool} {t:SetTable} {es:Array (Int×Value)} {h:Int} {x:Value} (hw:M8 bt t):M8 bt (layNew t es h x).2.1:=by
 rcases hw with hw|⟨hl,hp⟩
 ·exact .inl hw
 ·refine .inr ?_
  unfold layNew
  cases e:t.freeSlot h with
  |none=>exact⟨hl,λz=>by cases z⟩
  | some q=>
   obtain⟨j,b⟩:=q
   dsimp only
   unfold SetTable.orStandIn
   split
   ·exact⟨hl,λz=>FR (hp z) (zO e)⟩
   ·exact⟨hl,λz=>by cases z⟩
theorem BX {mask finger moves:Nat} {led plain:Bool} {hs:Array Int} {t:SetTable} {o:Array Nat} (e:SetTable.laid mask finger moves led plain hs=some (t,o)):t.led=led/\t.plain=plain/\z7 t.place:=by
 unfold SetTable.laid at e
 cases h:SetTable.layClean mask hs with
 |none=>rw[h] at e;cases e
 | some owner=>
  rw[h] at e
  simp only[Option.pure_def,Option.bind_eq_bind,Option.bind_some,a7e,Prod.mk.injEq] at e
  obtain⟨e1,e2⟩:=e
  subst e1
  refine⟨rfl,rfl,?_⟩
  unfold z7
  dsimp only
  show ((_:List Nat)).Pairwise _
  rw[a3q]
  rw[List.pairwise_filterMap]
  refine List.pairwise_lt_range.imp fun {a b} hab x hx y hy=>?_
  simp only[a0r] at hx hy
  obtain⟨_,_,rfl⟩:=hx
  obtain⟨_,_,rfl⟩:=hy
  exact hab
theorem D3 {bt:Bool} {t:SetTable} {es:Array (Int×Value)} {n:Nat} (hw:M8 bt t):M8 bt (relayAll t es n).2.1:=by
 rcases hw with hw|⟨hl,hp⟩
 ·exact .inl hw
 ·refine .inr ?_
  unfold relayAll
  cases e:t.relaid (es.map (·.1)) n with
  |none=>exact⟨hl,λz=>by cases z⟩
  | some q=>
   obtain⟨t',order⟩:=q
   dsimp only
   obtain⟨a1,a2,a3⟩:=BX (show SetTable.laid _ _ _ _ _ _=_ from e)
   split
   ·exact⟨a1.trans hl,λ_=>a3⟩
   ·exact⟨hl,λz=>by cases z⟩
def cT:Value->Int
 |.int k _=>k
 |_=>0
def bT (P:Program) (w:World) (a:Addr) (S:Int->Bool) (n:Nat) (h:Heap):Prop:=
 ∃ o es ep t,h.get? a=some o/\o.ExactSet/\o.data= .set es ep t/\ElemsOf (intKind P w) es.toList/\(∀k,S k=true↔∃e∈es.toList,(intKind P w).is k e.2=true)/\es.size<scanBound/\t.fits es.size=true/\es.size=n/\
  M8 (w.params.followText "set-order") t/\(es.toList.map λe=>cT e.2).Nodup
section
variable{prog:Program}{w:World}{A:Around}{E:Value->Ab->Prop}{s:Ab}
theorem cI{k:Int}{v:Value}(h:(intKind prog w).is k v=true):∃t,v= .int k t:=Value.isInt_shape (k:=k) (v:=v) h
theorem wW {g:Bool->Sem Unit} (hg:∀(b:Bool) (s₁:Shared) (Q':Unit->Shared->Prop),Q' () s₁->wpAny (model prog w) A (g b) Q' E s₁)
  {a:Ac} {o:Obj} {es:Array (Int×Value)} {ep:Nat} {t:SetTable} (ho:s.heap.get? a=some o) (hex:o.ExactSet) (hd:o.data= .set es ep t)
  {es1:Array (Int×Value)} {t2:SetTable} {S':Int->Bool} (hel1:ElemsOf (intKind prog w) es1.toList) (hmem1:∀k',S' k'=true↔∃e∈es1.toList,(intKind prog w).is k' e.2=true)
  (hb1:es1.size<scanBound) (hf2:t2.fits es1.size=true) (hw2:M8 (w.params.followText "set-order") t2) (hnd:(es1.toList.map λe=>cT e.2).Nodup) {wasDummy:Bool} {R:Option Bool->Ab->Prop}
  (h:∀h',Heap.SameBut a s.heap h'->bT prog w a S' es1.size h'->R (some true) {s with heap:=h'}) :
  wpAny (model prog w) A (do
    storeSet a es1 t2
    if (!wasDummy&&t2.tooFull)=true then do
      g (relayAll t2 es1 (SetTable.grown es1.size)).2.2
      storeSet a (relayAll t2 es1 (SetTable.grown es1.size)).1 (relayAll t2 es1 (SetTable.grown es1.size)).2.1
      pure (some true)
     else pure (some true)) R E s:=by
 refine a0b (a4o ho hd ?_ (a5k hb1))
 obtain⟨ho1,hS1⟩:=a6m (knd:=intKind prog w) ho hex hd hel1 hmem1 hb1 hf2
 have hsb1:=a2v s.heap a (Obj.putSet es1 t2)
 split
 ·have hp:=relayAll_perm t2 es1 (SetTable.grown es1.size)
  have hfr:=relayAll_fits t2 es1 (SetTable.grown es1.size)
  have hwr:M8 (w.params.followText "set-order") (relayAll t2 es1 (SetTable.grown es1.size)).2.1:=D3 hw2
  generalize hRl:relayAll t2 es1 (SetTable.grown es1.size)=Rl at hp hfr hwr ⊢
  obtain⟨es2,t3,gave2⟩:=Rl
  dsimp only at hp hfr hwr ⊢
  have hel2:ElemsOf (intKind prog w) es2.toList:=hel1.perm hp
  have hmem2:∀k',S' k'=true↔∃e∈es2.toList,(intKind prog w).is k' e.2=true:=λk'=>(hmem1 k').trans ⟨λ⟨e,he,q⟩=>⟨e,hp.mem_iff.mpr he,q⟩,λ⟨e,he,q⟩=>⟨e,hp.mem_iff.mp he,q⟩⟩
  have hsz:es2.size=es1.size:=by rw[<- a0o,hp.length_eq,a0o]
  have hb2:es2.size<scanBound:=by rw[hsz];exact hb1
  refine a0b (hg _ _ _ ?_)
  refine a0b (a4o ho1 rfl ?_ (a5k hb2))
  obtain⟨ho2,_⟩:=a6m (knd:=intKind prog w) ho1 hex rfl hel2 hmem2 hb2 hfr
  exact a0e (h _ (hsb1.trans (a2v _ a _)) ⟨_,es2,_,t3,ho2,hex,rfl,hel2,hmem2,hb2,hfr,hsz,hwr,(hp.map _).nodup_iff.mpr hnd⟩)
 ·exact a0e (h _ hsb1 ⟨_,es1,_,t2,ho1,hex,rfl,hel1,hmem1,hb1,hf2,rfl,hw2,hnd⟩)
theorem lV {a:Addr} {S:Int->Bool} {n:Nat} {k:Int} {x:Value} {Q:Bool->Shared->Prop} (hkey:(intKind prog w).is k x=true) (hsc:x.scannable=true) (hS:bT prog w a S n s.heap)
  (hroom:n+1<scanBound)
  (h:∀h',Heap.SameBut a s.heap h'->bT prog w a (λk'=>S k'||decide (k'=k)) (if S k then n else n+1) h'->Q (!S k) {s with heap:=h'}) :
  wpAny (model prog w) A (setAddHashed a x ((intKind prog w).hash k)) Q E s:=by
 obtain⟨o,es,ep,t,ho,hex,hd,hel,hmem,hb,hf,hn,hwk,hnd⟩:=hS
 have hb1:es.size+1<scanBound:=by rw[hn];exact hroom
 unfold setAddHashed setAddHashedIn
 refine a1w (a0b (a3s ho hd hf ?_))
 dsimp only
 rw[byScan_of hsc hb hel]
 simp only[↓reduceIte]
 unfold setAddByScan
 refine a0b ?_
 refine a0b (a4y ?_)
 refine a0b (wpAny_setScan_of hkey ho hd hf hel ?_)
 cases hr:List.findIdx? (λe=>(intKind prog w).is k e.2) es.toList with
 | some j=>
  dsimp only
  obtain⟨hj,hpj,_⟩:=a7a.mp hr
  have hSk:S k=true:=(hmem k).mpr ⟨es.toList[j],a1k hj,hpj⟩
  refine a0e (a0e ?_)
  have e:s={s with heap:=s.heap}:=by cases s;rfl
  have:=h s.heap (a4s a s.heap) ⟨o,es,ep,t,ho,hex,hd,hel,λk'=>by
   rw[a2d,a5c,<- hmem k']
   exact⟨λhk=>hk.elim id (λe=>e▸hSk),.inl⟩,hb,hf,by rw[hSk];exact hn,hwk,hnd⟩
  rw[hSk] at this;rw[e];exact this
 | none=>
  dsimp only
  have hSk:S k=false:=by
   cases hk:S k with
   |false=>rfl
   |true=>obtain⟨e,he,hp⟩:=(hmem k).mp hk;have:=List.findIdx?_eq_none_iff.mp hr e he;rw[hp] at this;exact Bool.noConfusion this
  have hgw:∀(b:Bool) {s₁:Shared} {Q':Unit->Shared->Prop},Q' () s₁->wpAny (model prog w) A (match b with|true=>rule "set.scan.the-table-gave-way" |false=>pure ()) Q' E s₁:=
   λb s₁ Q' hq=>by cases b<;>first|exact a0e hq|exact a4y hq
  have hperm:=layNew_perm t es ((intKind prog w).hash k) x
  have hfits:=layNew_fits t es ((intKind prog w).hash k) x
  have hwk1:M8 (w.params.followText "set-order") (layNew t es ((intKind prog w).hash k) x).2.1:=KQ hwk
  generalize hL:layNew t es ((intKind prog w).hash k) x=L at hperm hfits hwk1 ⊢
  obtain⟨es1,t1,wasDummy,gave⟩:=L
  dsimp only at hperm hfits hwk1 ⊢
  rw[a7i] at hperm
  have hel1:ElemsOf (intKind prog w) es1.toList:=(hel.push hkey hsc).perm hperm
  have hmem1:∀k',(S k'||decide (k'=k))=true↔∃e∈es1.toList,(intKind prog w).is k' e.2=true:=mem_push_iff hkey hmem hperm
  have hb1':es1.size<scanBound:=by rw[<- a0o,hperm.length_eq,a1r,a0o];simpa using hb1
  have hnd1:(es1.toList.map λe=>cT e.2).Nodup:=by
   rw[(hperm.map λe=>cT e.2).nodup_iff,a1m,a7f]
   refine⟨hnd,by simp,λa ha b hb'=>?_⟩
   simp only[a0h,a5w,a5v] at hb'
   subst hb'
   obtain⟨tx,rfl⟩:=cI hkey
   obtain⟨e,he,rfl⟩:=a0p.mp ha
   obtain⟨⟨k2,hk2,_⟩,_⟩:=hel e he
   obtain⟨t2,e2⟩:=cI hk2
   rw[e2]
   intro z
   have z':k2=k:=z
   subst z'
   have:=(hmem k2).mpr ⟨e,he,hk2⟩
   rw[hSk] at this;cases this
  refine a0b (hgw _ ?_)
  have hsz1:es1.size=n+1:=by rw[<- a0o,hperm.length_eq,a1r,a0o,hn];rfl
  have hend:∀h',Heap.SameBut a s.heap h'->bT prog w a (λk'=>S k'||decide (k'=k)) es1.size h'->Q true {s with heap:=h'}:=by
   intro h' hsb hS';have:=h h' hsb;rw[hSk] at this;rw[hsz1] at hS';exact this hS'
  split
  ·refine a0b ?_
   rw[hashByValue_scannable 8 hsc]
   refine a0e ?_
   refine wW ?_ ho hex hd hel1 hmem1 hb1' ?_ ?_ hnd1 ?_
   ·intro b s₁ Q' hq;cases b<;>first|exact a0e hq|exact a4y hq
   ·split
    ·exact hfits
    ·exact SetTable.fits_plain_off hfits
   ·split
    ·exact hwk1
    ·exact hwk1.imp id λz=>⟨z.1,λq=>by cases q⟩
   ·intro h' hsb hS';dsimp only;exact a0e (hend h' hsb hS')
  ·refine a0b (a0e ?_)
   simp only[↓reduceIte]
   refine wW ?_ ho hex hd hel1 hmem1 hb1' hfits hwk1 hnd1 ?_
   ·intro b s₁ Q' hq;cases b<;>first|exact a0e hq|exact a4y hq
   ·intro h' hsb hS';dsimp only;exact a0e (hend h' hsb hS')
theorem OP {Q:Value->Shared->Prop}
  (h:∀o:Obj,bT prog w s.heap.objs.size (λ_=>false) 0 (s.heap.push o)->Q (.ref s.heap.objs.size) {s with heap:=s.heap.push o}) :
  wpAny (model prog w) A (newSet (.type "set")) Q E s:=by
 unfold newSet setsByText
 refine a0b (a0b (a4e (a0e ?_)))
 dsimp only
 simp only[newObj]
 refine a0b (wpAny_alloc (a0e (h _ ⟨_,#[],0,_,a1b _ rfl,⟨rfl,rfl,rfl⟩,rfl,λe he=>by simp at he,λk=>by simp,by decide,by rfl,rfl,?_,by simp⟩)))
 show M8 (w.params.followText "set-order") (SetTable.fresh 0 0 (!w.params.followText "set-order"))
 cases w.params.followText "set-order" with
 |true=>exact .inl rfl
 |false=>exact .inr ⟨rfl,λ_=>List.Pairwise.nil⟩
end
open PySem
theorem aZ:Slot "set_iterator" "__next__" "set_iterator.__next__":=
 .of (owner:="set_iterator") (n:="__next__") (by rw[typeLookup_type,a6v];kernel_rfl) (by decide+kernel) (by decide+kernel) (by decide+kernel)
  (by first|exact .inl (by decide+kernel)|exact .inr (by decide+kernel)) (by rw[a7j];kernel_rfl)
theorem d6:entryFor table "set_iterator.__next__"=some Builtin.«set_iterator.__next__»:=entryFor_of_fast (by kernel_rfl)
theorem dB(a:Value):argsOk "set_iterator.__next__" ⟨[a],[]⟩:=by unfold argsOk;kernel_rfl
theorem u7:entryFor table "set.__iter__"=some Builtin.«frozenset.__iter__»:=entryFor_alias (id':="frozenset.__iter__") (by kernel_rfl) rfl (by decide+kernel) (by kernel_rfl)
section
variable{prog:Program}{w:World}{A:Around}{E:Value->Ab->Prop}{s:Ab}
theorem mR{it:Addr}{o:Obj}{vs:Array Value}{Q:Array Value->Shared->Prop}(ho:s.heap.get? it=some o)(hd:o.data= .fields vs)(h:Q vs s):wpAny (model prog w) A (fieldsOf (.ref it)) Q E s:=by
 unfold fieldsOf
 refine a0b (wpAny_load ho ?_)
 rw[hd]
 exact a0e h
structure SetAt(h:Heap)(a:Addr)(es:Array (Int×Value))(ep:Nat)(t:SetTable):Prop where
 ex:∃o,h.get? a=some o/\o.ExactSet/\o.data= .set es ep t
 fit:t.fits es.size=true
theorem SetAt.state{a:Addr}{es:Array (Int×Value)}{ep:Nat}{t:SetTable}{Q:(Array (Int×Value)×Nat×SetTable)->Shared->Prop}(x:SetAt s.heap a es ep t)(h:Q (es,ep,t) s):wpAny (model prog w) A (setState a) Q E s:=by
 obtain⟨o,ho,_,hd⟩:=x.ex
 exact a3s ho hd x.fit h
theorem SetAt.keeps{h h':Heap}{a:Addr}{es:Array (Int×Value)}{ep:Nat}{t:SetTable}(x:SetAt h a es ep t)(k:∀o,h.get? a=some o->h'.get? a=some o):SetAt h' a es ep t:=by
 obtain⟨o,ho,q⟩:=x.ex
 exact⟨⟨o,k o ho,q⟩,x.fit⟩
def B2(first:Value)(i:Nat)(a:Ac)(n ep:Nat):Obj:={cls:=.type "set_iterator",data:=.fields #[first,.int i 0,.ref a,.int n 0,.int ep 0]}
theorem pN {it a:Addr} {es:Array (Int×Value)} {ep slot nx i:Nat} {t:SetTable} {x:Value} {Q:Option Value->Shared->Prop} (ho:s.heap.get? it=some (B2 (.int slot 0) i a es.size ep)) (hS:SetAt s.heap a es ep t)
  (hn:∀(E':Value->Ab->Prop) (Q:Option (Value×Nat)->Ab->Prop),Q (some (x,nx)) s->wpAny (model prog w) A.in1 (setNext a slot i ep) Q E' s)
  (hQ:∀h',Heap.SameBut it s.heap h'->h'.get? it=some (B2 (.int nx 0) (i+1) a es.size ep)->Q (some x) {s with heap:=h'}):wpAny (model prog w) A (pyNext (.ref it)) Q E s:=by
 unfold pyNext
 have hT:s.TypeIs (.ref it) "set_iterator":=⟨_,ho,rfl⟩
 refine a0b (wpAny_attempt (a4d (name:=Str.ofString "__next__") hT aZ
  (a2u aZ hT d6 ?_ (dB _))))
 unfold Builtin.«set_iterator.__next__»
 show wpAny _ A.in1 (fieldsOf (.ref it) >>=_) _ _ s
 refine a0b (mR ho rfl ?_)
 show wpAny _ A.in1 (setEntries a >>=_) _ _ s
 unfold setEntries
 refine a0b (a0b (hS.state (a0e ?_)))
 dsimp only
 rw[if_neg (by simp)]
 show wpAny _ A.in1 (setNext a _ _ _ >>=_) _ _ s
 refine a0b (hn _ _ ?_)
 dsimp only
 refine a0b (a5n ho rfl (by simp) ?_)
 have ho1:=a2b (Obj.mapFields (·.setIfInBounds 0 (rawInt nx))) ho (a5o (a3x (o:=B2 (.int slot 0) i a es.size ep) rfl _))
 refine a0b (a5n ho1 (a3x (o:=B2 (.int slot 0) i a es.size ep) rfl _) (by simp) ?_)
 have ho2:=a2b (Obj.mapFields (·.setIfInBounds 1 (rawInt (i+1)))) ho1 (a5o (a3x (a3x (o:=B2 (.int slot 0) i a es.size ep) rfl _) _))
 exact a0e ⟨x,rfl,a0e (hQ _ ((a2v ..).trans (a2v ..)) (ho2.trans rfl))⟩
theorem vM {it:Addr} {s0:Shared} {Q:Option Value->Shared->Prop} (hh:A.handled=none) (hQ:∀h',(∀b o,s.heap.get? b=some o->h'.get? b=some o)->Q none {s with heap:=h'}) :
  wpAny (model prog w) A.in1 (newExc (.type "StopIteration") [] >>=λe=>raiseNew e) (λ(fin:Fin) s'=>∃v,fin= .done (.ret v)/\wpAny (model prog w) A (pure (some v)) Q E s')
   (λe s'=>wpAny (model prog w) A (do if <- isInstance e (.type "StopIteration") then pure none else throw e) Q E s') s:=by
 refine a0b ?_
 simp only[newExc,newTuple]
 refine a0b (a1u ?_ (by size_fits))
 refine a0b (m:=firstArgMember _ _) (a6l (a:=Value.none) (by first|rfl|(simp only[firstArgMember];rfl)) ?_)
 refine a1u ?_ (by size_fits)
 simp only[raiseNew]
 refine a0b (wpAny_handled ?_)
 rw[show A.in1.handled=none from hh]
 refine a0b (a0e (wpAny_throw ?_))
 refine a0b (a6n (T:="StopIteration") (b:=true) ⟨_,a1b _ rfl,rfl⟩ isSubtype_stop ?_)
 exact a0e (hQ _ λb o e=>a0f _ (a0f _ e))
theorem rZ {it a:Addr} {es:Array (Int×Value)} {ep slot i:Nat} {t:SetTable} {Q:Option Value->Shared->Prop} (hh:A.handled=none) (ho:s.heap.get? it=some (B2 (.int slot 0) i a es.size ep)) (hS:SetAt s.heap a es ep t)
  (hn:∀(E':Value->Ab->Prop) (Q:Option (Value×Nat)->Ab->Prop),Q none s->wpAny (model prog w) A.in1 (setNext a slot i ep) Q E' s)
  (hQ:∀h',(∀b o,b≠it->s.heap.get? b=some o->h'.get? b=some o)->Q none {s with heap:=h'}):wpAny (model prog w) A (pyNext (.ref it)) Q E s:=by
 unfold pyNext
 have hT:s.TypeIs (.ref it) "set_iterator":=⟨_,ho,rfl⟩
 refine a0b (wpAny_attempt (a4d (name:=Str.ofString "__next__") hT aZ
  (a2u aZ hT d6 ?_ (dB _))))
 unfold Builtin.«set_iterator.__next__»
 show wpAny _ A.in1 (fieldsOf (.ref it) >>=_) _ _ s
 refine a0b (mR ho rfl ?_)
 show wpAny _ A.in1 (setEntries a >>=_) _ _ s
 unfold setEntries
 refine a0b (a0b (hS.state (a0e ?_)))
 dsimp only
 rw[if_neg (by simp)]
 show wpAny _ A.in1 (setNext a _ _ _ >>=_) _ _ s
 refine a0b (hn _ _ ?_)
 dsimp only
 refine a0b (a5n ho rfl (by simp) ?_)
 refine vM (it:=it) (s0:=s) hh λh' k=>hQ h' λb o hb e=>k b o ((a1x _ _ (a3b hb)).trans e)
theorem wO {it a tp:Addr} {es:Array (Int×Value)} {ep i pl:Nat} {t:SetTable} {hx:Int} {x:Value} {ps:Array Value} {tk:Tok} {Q:Option Value->Shared->Prop} (ho:s.heap.get? it=some (B2 (.ref tp) i a es.size ep)) (hS:SetAt s.heap a es ep t)
  (htp:∃o n,s.heap.get? tp=some o/\o.data= .seq ps n) (hp:ps[i]? =some (.int pl tk)) (hx':es[pl]? =some (hx,x))
  (hQ:∀h',Heap.SameBut it s.heap h'->h'.get? it=some (B2 (.ref tp) (i+1) a es.size ep)->Q (some x) {s with heap:=h'}):wpAny (model prog w) A (pyNext (.ref it)) Q E s:=by
 unfold pyNext
 have hT:s.TypeIs (.ref it) "set_iterator":=⟨_,ho,rfl⟩
 refine a0b (wpAny_attempt (a4d (name:=Str.ofString "__next__") hT aZ
  (a2u aZ hT d6 ?_ (dB _))))
 unfold Builtin.«set_iterator.__next__»
 show wpAny _ A.in1 (fieldsOf (.ref it) >>=_) _ _ s
 refine a0b (mR ho rfl ?_)
 show wpAny _ A.in1 (setEntries a >>=_) _ _ s
 unfold setEntries
 refine a0b (a0b (hS.state (a0e ?_)))
 dsimp only
 rw[if_neg (by simp)]
 obtain⟨otp,ntp,h1,h2⟩:=htp
 show wpAny _ A.in1 (seqItems? (.ref tp) >>=_) _ _ s
 refine a0b (wpAny_seqItems h1 h2 ?_)
 simp only[a1p,hp]
 show wpAny _ A.in1 (setNextDrawn a _ _ >>=_) _ _ s
 unfold setNextDrawn
 refine a0b (a0b (hS.state ?_))
 dsimp only
 rw[if_neg (by simp)]
 simp only[a1p,hx']
 refine a0e ?_
 refine a0b (a5n ho rfl (by simp) ?_)
 have ho1:=a2b (Obj.mapFields (·.setIfInBounds 1 (rawInt (i+1)))) ho (a5o (a3x (o:=B2 (.ref tp) i a es.size ep) rfl _))
 exact a0e ⟨x,rfl,a0e (hQ _ (a2v ..) (ho1.trans rfl))⟩
theorem AG {it a tp:Addr} {es:Array (Int×Value)} {ep i:Nat} {t:SetTable} {ps:Array Value} {Q:Option Value->Shared->Prop} (hh:A.handled=none) (ho:s.heap.get? it=some (B2 (.ref tp) i a es.size ep)) (hS:SetAt s.heap a es ep t)
  (htp:∃o n,s.heap.get? tp=some o/\o.data= .seq ps n) (hp:ps[i]? =none)
  (hQ:∀h',(∀b o,b≠it->s.heap.get? b=some o->h'.get? b=some o)->Q none {s with heap:=h'}):wpAny (model prog w) A (pyNext (.ref it)) Q E s:=by
 unfold pyNext
 have hT:s.TypeIs (.ref it) "set_iterator":=⟨_,ho,rfl⟩
 refine a0b (wpAny_attempt (a4d (name:=Str.ofString "__next__") hT aZ
  (a2u aZ hT d6 ?_ (dB _))))
 unfold Builtin.«set_iterator.__next__»
 show wpAny _ A.in1 (fieldsOf (.ref it) >>=_) _ _ s
 refine a0b (mR ho rfl ?_)
 show wpAny _ A.in1 (setEntries a >>=_) _ _ s
 unfold setEntries
 refine a0b (a0b (hS.state (a0e ?_)))
 dsimp only
 rw[if_neg (by simp)]
 obtain⟨otp,ntp,h1,h2⟩:=htp
 show wpAny _ A.in1 (seqItems? (.ref tp) >>=_) _ _ s
 refine a0b (wpAny_seqItems h1 h2 ?_)
 simp only[a1p,hp]
 refine a0b (a5n ho rfl (by simp) ?_)
 have ho1:=a2b (Obj.mapFields (·.setIfInBounds 0 (rawInt 0))) ho (a5o (a3x (o:=B2 (.ref tp) i a es.size ep) rfl _))
 refine a0b (a5n ho1 (a3x (o:=B2 (.ref tp) i a es.size ep) rfl _) (by simp) ?_)
 refine vM (it:=it) (s0:=s) hh λh' k=>hQ h' λb o hb e=>k b o ((a1x _ _ (a3b hb)).trans ((a1x _ _ (a3b hb)).trans e))
end
open PySem
theorem iH {α:Type}:∀ {l:List α} {i:Nat} (h:i<l.length),(l[i]::l.eraseIdx i).Perm l
 |x::xs,0,h=>.refl _
 | x::xs,i+1,h=>by
  have:=iH (l:=xs) (i:=i) (by simpa using h)
  simp only[List.getElem_cons_succ,List.eraseIdx_cons_succ]
  exact (List.Perm.swap _ _ _).trans (this.cons x)
section
variable{prog:Program}{w:World}{A:Around}{E:Value->Ab->Prop}{s:Ab}
theorem i4{Q:Bool->Shared->Prop}(h:Q (w.params.followText "set-order") s):wpAny (model prog w) A setsByText Q E s:=by
 unfold setsByText
 exact a0b (a4e (a0e h))
theorem nM {a:Addr} {es:Array (Int×Value)} {ep slot i:Nat} {t:SetTable} {Q:Option (Value×Nat)->Shared->Prop} (hS:SetAt s.heap a es ep t) (hb:w.params.followText "set-order"=false) (hd:(!t.plain&&decide (es.size>1))=false) (hl:t.led=true)
  (h:Q (match es[SetTable.below t.place slot]?,t.place[SetTable.below t.place slot]? with|some (_,x),some j=>some (x,j+1)|_,_=>none) s):wpAny (model prog w) A (setNext a slot i ep) Q E s:=by
 unfold setNext
 refine a0b (hS.state ?_)
 dsimp only
 refine a0b (i4 ?_)
 rw[hb]
 rw[if_neg a0i]
 rw[if_neg (by show ¬((!t.plain&&decide (es.size>1))=true);rw[hd];exact a0i)]
 refine a0b ?_
 show wpAny _ _ (if (!t.led&& !es.isEmpty)=true then unsupported "set:maker-not-led" else pure ()) _ _ _
 rw[if_neg (by rw[hl];simp)]
 exact a0e (a0e h)
theorem pL {a:Addr} {es:Array (Int×Value)} {ep slot i:Nat} {t:SetTable} {Q:Option (Value×Nat)->Shared->Prop} (hS:SetAt s.heap a es ep t) (hb:w.params.followText "set-order"=true)
  (h:Q (((pickOrder (w.params.setOrder a ep) es)[i]?).map λe=>(e.2,slot)) s):wpAny (model prog w) A (setNext a slot i ep) Q E s:=by
 unfold setNext
 refine a0b (hS.state ?_)
 dsimp only
 refine a0b (i4 ?_)
 rw[hb]
 rw[if_pos rfl,if_neg (by simp)]
 unfold setWalk
 refine a0b (a0b (hS.state ?_))
 dsimp only
 refine a0b (i4 ?_)
 rw[hb]
 rw[if_pos rfl]
 refine a0b (a4e (a0e (a0e h)))
theorem AT{src:Source}{n:Nat}{Q:Nat->Shared->Prop}(hn:n≠0)(h:∀(i:Nat) (d:Drawn),i<n->Q i {s with drawn:=d}):wpAny (model prog w) A (choose src n) Q E s:=λΓ p hΓ=>by
 show Sem.wp _ Γ (.choose src n .pure) _ _ p s
 rw[Sem.wp]
 exact⟨hn,h _ _ (Nat.mod_lt _ (Nat.pos_of_ne_zero hn))⟩
theorem oN {α:Type}:∀(n:Nat) (xs:List α) {Q:List α->Shared->Prop} {s:Shared},xs.length=n->(∀(ys:List α) (d:Drawn),ys.Perm xs->Q ys {s with drawn:=d})->wpAny (model prog w) A (drawOrder n xs) Q E s
 | 0,xs,Q,s,hl,h=>by
  have:xs=[]:=a3p.mp hl
  subst this
  unfold drawOrder
  exact a0e (h [] s.drawn (.refl _))
 |n+1,[],Q,s,hl,h=>by cases hl
 | n+1,x::xs,Q,s,hl,h=>by
  unfold drawOrder
  refine a0b (AT (by simp) λi d hi=>?_)
  have e:(x::xs)[i]? =some (x::xs)[i]:=a0a hi
  rw[e]
  refine a0b (oN n _ (by rw[List.length_eraseIdx_of_lt hi,hl];rfl) λys d' hp=>a0e (h _ d' ?_))
  exact (hp.cons _).trans (iH hi)
end
theorem I0 {α:Type} (next:Nat->Nat):∀(fuel k:Nat) (m3:List α) (out:Array α),m3.length=fuel->(pickOrder.go next fuel k m3 out).toList.Perm (out.toList++m3)
 | 0,k,m3,out,h=>by
  have:m3=[]:=a3p.mp h
  subst this
  rw[pickOrder.go];simp
 | fuel+1,k,m3,out,h=>by
  rw[pickOrder.go]
  have hi:next k % m3.length<m3.length:=Nat.mod_lt _ (by omega)
  rw[a0a hi]
  dsimp only
  refine (I0 next fuel (k+1) _ _ (by rw[List.length_eraseIdx_of_lt hi];omega)).trans ?_
  rw[a7i,a7h]
  exact List.Perm.append_left _ (by simpa using iH hi)
theorem f9{α:Type}(next:Nat->Nat)(xs:Array α):(pickOrder next xs).toList.Perm xs.toList:=by
 unfold pickOrder
 simpa using I0 next xs.size 0 xs.toList #[] (by simp)
def jL(t:SetTable)(i:Nat):Nat:=if i=0 then 0 else t.place.getD (i-1) 0+1
inductive WMode(w:World)(a:Addr)(es:Array (Int×Value))(ep:Nat)(t:SetTable)(vs:List Value):(Nat->Value)->Heap->Prop where
 |plain {h:Heap}:w.params.followText "set-order"=false->(!t.plain&&decide (es.size>1))=false->t.led=true->z7 t.place->vs=es.toList.map (·.2)->WMode w a es ep t vs (λi=>.int (jL t i) 0) h
 |text {h:Heap}:w.params.followText "set-order"=true->vs=(pickOrder (w.params.setOrder a ep) es).toList.map (·.2)->WMode w a es ep t vs (λ_=>.int 0 0) h
 |drawn {h:Heap} {tp:Ac} {o:Obj} {m:Nat} {ks:List Nat}:h.get? tp=some o->o.data= .seq (ks.map λ(k:Nat)=>Value.int k 0).toArray m->ks.length=es.size->vs=ks.map (λk=>(es.getD k (0,.none)).2)->(∀k∈ks,k<es.size)->WMode w a es ep t vs (λ_=>.ref tp) h
theorem WMode.keeps{w:World}{a:Addr}{es:Array (Int×Value)}{ep:Nat}{t:SetTable}{vs:List Value}{f:Nat->Value}{h h':Heap}(m:WMode w a es ep t vs f h)(k:∀tp o,f 0= .ref tp->h.get? tp=some o->h'.get? tp=some o):WMode w a es ep t vs f h':=by
 cases m with
 |plain a1 a2 a3 a4 a5=>exact .plain a1 a2 a3 a4 a5
 |text a1 a2=>exact .text a1 a2
 |drawn a1 a2 a3 a4 a5=>exact .drawn (k _ _ rfl a1) a2 a3 a4 a5
structure WSt(w:World)(I a:Addr)(es:Array (Int×Value))(ep:Nat)(t:SetTable)(vs:List Value)(f:Nat->Value)(i:Nat)(h:Heap):Prop where
 set:SetAt h a es ep t
 ne:a≠I
 ne2:∀tp,f 0= .ref tp->tp≠I
 mode:WMode w a es ep t vs f h
 it:h.get? I=some (B2 (f i) i a es.size ep)
theorem WMode.len{w:World}{a:Addr}{es:Array (Int×Value)}{ep:Nat}{t:SetTable}{vs:List Value}{f:Nat->Value}{h:Heap}(m:WMode w a es ep t vs f h):vs.length=es.size:=by
 cases m with
 |plain a1 a2 a3 a4 a5=>rw[a5];simp
 |text a1 a2=>rw[a2,a0d,(f9 _ _).length_eq,a0o]
 |drawn a1 a2 a3 a4 a5=>rw[a4,a0d,a3]
section
variable{prog:Program}{w:World}{A:Around}{E:Value->Ab->Prop}{s:Ab}{I a:Ac}{es:Array (Int×Value)}{ep:Nat}{t:SetTable}{vs:List Value}{f:Nat->Value}
theorem WSt.item {i:Nat} {x:Value} {Q:Option Value->Shared->Prop} (st:WSt w I a es ep t vs f i s.heap) (hx:vs[i]? =some x)
  (hQ:∀h',Heap.SameBut I s.heap h'->WSt w I a es ep t vs f (i+1) h'->Q (some x) {s with heap:=h'}):wpAny (model prog w) A (pyNext (.ref I)) Q E s:=by
 have next:∀h',Heap.SameBut I s.heap h'->h'.get? I=some (B2 (f (i+1)) (i+1) a es.size ep)->WSt w I a es ep t vs f (i+1) h':=λh' sb e=>
  ⟨st.set.keeps λo ho=>(sb.2 a st.ne).trans ho,st.ne,st.ne2,st.mode.keeps λtp o e ho=>(sb.2 tp (st.ne2 tp e)).trans ho,e⟩
 have hi:i<es.size:=by rw[<- st.mode.len];exact (a0j.mp hx).1
 cases m:st.mode with
 | plain a1 a2 a3 a4 a5=>
  rw[a5,a0g] at hx
  have hes:es.toList[i]? =some es[i]:=by rw[a2k];exact a0v hi
  rw[hes] at hx
  have hx:es[i].2=x:=a1j hx
  have hps:t.place.size=es.size:=by
   have:=st.set.fit
   simp only[SetTable.fits,a1g,a3t] at this
   exact this.1
  have hbe:SetTable.below t.place (jL t i)=i:=by
   unfold jL
   by_cases h0:i=0
   ·subst h0;rw[if_pos rfl];exact tV a4
   ·rw [if_neg h0]
    have hj:t.place[i-1]? =some (t.place.getD (i-1) 0):=by
     have:i-1<t.place.size:=by omega
     simp[Array.getD,this]
    rw[tT a4 hj];omega
  have hsl:jL t (i+1)=t.place[i]'(by omega)+1:=by
   unfold jL
   rw[if_neg (by omega)]
   have:i<t.place.size:=by omega
   simp[Array.getD,this]
  refine pN (nx:=jL t (i+1)) (x:=x) st.it st.set (λE' Q' q=>nM st.set a1 a2 a3 ?_) λh' sb e=>hQ h' sb (next h' sb e)
  rw[hbe,a0v hi,a0v (by omega:i<t.place.size)]
  dsimp only
  rw[<- hsl,hx];exact q
 | text a1 a2=>
  rw[a2,a0g] at hx
  refine pN (nx:=0) (x:=x) st.it st.set (λE' Q' q=>pL st.set a1 ?_) λh' sb e=>hQ h' sb (next h' sb e)
  rw[<- a2k]
  cases hp:(pickOrder (w.params.setOrder a ep) es).toList[i]? with
  |none=>rw[hp] at hx;cases hx
  |some y=>rw[hp] at hx;cases hx;exact q
 | @drawn _ tp o mm ks a1 a2 a3 a4 a5=>
  rw[a4,a0g] at hx
  cases hk:ks[i]? with
  |none=>rw[hk] at hx;cases hx
  | some k=>
   rw[hk] at hx
   have hx:(es.getD k (0,.none)).2=x:=a1j hx
   have hkl:=a5 k (a0u hk)
   refine wO (pl:=k) (tk:=0) (hx:=es[k].1) (x:=x) st.it st.set ⟨o,mm,a1,a2⟩ ?_ ?_ λh' sb e=>hQ h' sb (next h' sb e)
   ·rw[List.getElem?_toArray,a0g,hk];rfl
   ·rw[a0v hkl]
    rw[<- hx]
    simp[Array.getD,hkl]
theorem WSt.done {Q:Option Value->Shared->Prop} (hh:A.handled=none) (st:WSt w I a es ep t vs f vs.length s.heap)
  (hQ:∀h',(∀b o,b≠I->s.heap.get? b=some o->h'.get? b=some o)->Q none {s with heap:=h'}):wpAny (model prog w) A (pyNext (.ref I)) Q E s:=by
 have hl:=st.mode.len
 have hit:=st.it
 have hset:=st.set
 cases m:st.mode with
 | plain a1 a2 a3 a4 a5=>
  have hps:t.place.size=es.size:=by
   have:=st.set.fit
   simp only[SetTable.fits,a1g,a3t] at this
   exact this.1
  have hbe:es[SetTable.below t.place (jL t vs.length)]? =none:=by
   have:SetTable.below t.place (jL t vs.length)=vs.length:=by
    unfold jL
    by_cases h0:vs.length=0
    ·rw[if_pos h0,h0];exact tV a4
    ·rw [if_neg h0]
     have hj:t.place[vs.length-1]? =some (t.place.getD (vs.length-1) 0):=by
      have:vs.length-1<t.place.size:=by omega
      simp[Array.getD,this]
     rw[tT a4 hj];omega
   rw[this];exact a5b (by omega)
  refine rZ hh hit hset (λE' Q' q=>nM hset a1 a2 a3 ?_) hQ
  rw[hbe];exact q
 | text a1 a2=>
  refine rZ hh hit hset (λE' Q' q=>pL hset a1 ?_) hQ
  rw[a5b (by rw[<- a0o,(f9 _ _).length_eq,a0o];omega)]
  exact q
 | @drawn _ tp o mm ks a1 a2 a3 a4 a5=>
  refine AG hh hit hset ⟨o,mm,a1,a2⟩ ?_ hQ
  rw[List.getElem?_toArray,a0g,a2a (by omega)];rfl
end
open PySem PyProof.Rows
theorem j4:Slot "set_iterator" "__iter__" "set_iterator.__iter__":=
 .of (owner:="set_iterator") (n:="__iter__") (by rw[typeLookup_type,a6v];kernel_rfl) (by decide+kernel) (by decide+kernel) (by decide+kernel)
  (by first|exact .inl (by decide+kernel)|exact .inr (by decide+kernel)) (by rw[a7j];kernel_rfl)
theorem nV:entryFor table "set_iterator.__iter__"=some Builtin.«dict_keyiterator.__iter__»:=entryFor_alias (id':="dict_keyiterator.__iter__") (by kernel_rfl) rfl (by decide+kernel) (by kernel_rfl)
theorem oG(a:Value):argsOk "set_iterator.__iter__" ⟨[a],[]⟩:=by unfold argsOk;kernel_rfl
theorem AJ:Slot "set" "__len__" "set.__len__":=
 .of (owner:="set") (n:="__len__") (by rw[typeLookup_type,a6v];kernel_rfl) (by decide+kernel) (by decide+kernel) (by decide+kernel)
  (by first|exact .inl (by decide+kernel)|exact .inr (by decide+kernel)) (by rw[a7j];kernel_rfl)
theorem rN:∀ {vs:List Value},(∀v∈vs,∃t,v= .int (cT v) t)->IntsAre vs (vs.map cT)
 |[],_=>.nil
 | v::vs,h=>by
  obtain⟨t,e⟩:=h v a0m
  have ih:=rN λu hu=>h u (a0k _ hu)
  rw[a0h]
  generalize cT v=k at e ⊢
  subst e
  exact .cons _ _ ih
section
variable{prog:Program}{w:World}{A:Around}{E:Value->Ab->Prop}{s:Ab}{I a:Ac}{es:Array (Int×Value)}{ep:Nat}{t:SetTable}{vs:List Value}{f:Nat->Value}
theorem KI{Q:Value->Shared->Prop}{x:Value}{i n:Nat}(ho:s.heap.get? I=some (B2 x i a n ep))(h:Q (.ref I) s):wpAny (model prog w) A (pyIter (.ref I)) Q E s:=by
 have hT:s.TypeIs (.ref I) "set_iterator":=⟨_,ho,rfl⟩
 refine wpAny_pyIter_slot hT j4 (a2u j4 hT nV ?_ (oG _))
 show wpAny _ _ (ret (.ref I)) _ _ s
 exact a0e ⟨_,rfl, "set_iterator",_,hT,aZ.lookup,h⟩
def EO(I a:Ac)(f:Nat->Value):List Ac:=I::a::(match f 0 with|.ref tp=>[tp]|_=>[])
theorem LV(hh:A.handled=none):WalksS prog w A I (EO I a f) [I] (λg g'=>g'=g) vs.length (λi v=>vs[i]? =some v) (λi s=>WSt w I a es ep t vs f i s.heap) where
 sub:=λb hb=>by simp at hb;subst hb;simp[EO]
 grefl:=λ_=>rfl
 gtrans:=λ_ _ _ h1 h2=>h2.trans h1
 frame:=λi s h' tk st _ k=>⟨st.set.keeps λo=>k a (by simp[EO]) o,st.ne,st.ne2,st.mode.keeps λtp o e=>k tp (by simp[EO,e]) o,k I (by simp[EO]) _ st.it⟩
 item:=λi s Q E hi st h=>st.item (a0a hi) λh' sb st'=>h _ _ (a0a hi) st' ⟨λb o hb e=>(sb.2 b (by simpa using hb)).trans e,rfl,rfl,rfl,a0l _⟩
 done:=λs Q E st h=>st.done hh λh' k=>h _ ⟨λb o hb e=>k b o (by simpa using hb) e,rfl,rfl,rfl,a0l _⟩
 self:=λi s Q E st h=>KI st.it h
theorem O6 {S:Int->Bool} {n:Nat} {Q:Value->Shared->Prop} (hX:bT prog w a S n s.heap)
  (h:∀(I:Addr) (es:Array (Int×Value)) (ep:Nat) (t:SetTable) (vs:List Value) (f:Nat->Value) (s':Shared),s'.gens=s.gens->s'.os=s.os->s'.toks=s.toks->s.heap.objs.size<=I->(∀tp,f 0= .ref tp->s.heap.objs.size<=tp/\tp<I)->I<s'.heap.objs.size->(∀b o,s.heap.get? b=some o->s'.heap.get? b=some o)->WSt w I a es ep t vs f 0 s'.heap->
   vs.Perm (es.toList.map (·.2))->ElemsOf (intKind prog w) es.toList->(∀k,S k=true↔∃e∈es.toList,(intKind prog w).is k e.2=true)->(es.toList.map λe=>cT e.2).Nodup->es.size=n->Q (.ref I) s'):wpAny (model prog w) A (pyIter (.ref a)) Q E s:=by
 obtain⟨o,es,ep,t,ho,hex,hd,hel,hmem,hb,hf,hn,hwk,hnd⟩:=hX
 have hS:SetAt s.heap a es ep t:=⟨⟨o,ho,hex,hd⟩,hf⟩
 have hT:s.TypeIs (.ref a) "set":=⟨o,ho,hex.1⟩
 refine wpAny_pyIter_slot hT F.slot_set_iter (a2u F.slot_set_iter hT u7 ?_ (F.args_set_iter_1 _))
 unfold Builtin.«frozenset.__iter__»
 show wpAny _ A.in1 (Builtin.Frozenset.sizeOf a >>=_) _ _ s
 unfold Builtin.Frozenset.sizeOf setEntries
 refine a0b (a0b (a0b (hS.state (a0e (a0e ?_)))))
 dsimp only
 refine a0b ?_
 unfold setDrawn
 refine a0b (hS.state ?_)
 dsimp only
 refine a0b (i4 (a0e ?_))
 show wpAny _ _ (if (!w.params.followText "set-order"&&(!t.plain&&decide (es.size>1)))=true then _ else _) _ _ _
 have fin:∀(s1:Shared) (x:Value),s1.gens=s.gens->s1.os=s.os->s1.toks=s.toks->s.heap.objs.size<=s1.heap.objs.size->(∀b o,s.heap.get? b=some o->s1.heap.get? b=some o)->∀(vs:List Value) (f:Nat->Value),f 0=x->(∀tp,f 0= .ref tp->s.heap.objs.size<=tp/\tp<s1.heap.objs.size)->
   (∀h',(∀b o,s1.heap.get? b=some o->h'.get? b=some o)->WMode w a es ep t vs f h')->vs.Perm (es.toList.map (·.2))->
   wpAny (model prog w) A.in1 (setEpoch a >>=λe=>newFields "set_iterator" [x,rawInt 0,.ref a,rawInt es.size,rawInt e] >>=λr=>ret r) (λ(fin:Fin) s'=>∃v,fin= .done (.ret v)/\∃T' r,s'.TypeIs v T'/\typeLookup (.type T') "__next__"=pure (some r)/\Q v s') E s1:=by
  intro s1 x g1 g2 g3 g4 g5 vs f hf0 htp hm hp
  have hS1:=hS.keeps λo=>g5 a o
  unfold setEpoch
  refine a0b (a0b (hS1.state (a0e ?_)))
  dsimp only
  refine a0b (a1u ?_)
  have hI:(s1.heap.push (B2 x 0 a es.size ep)).get? s1.heap.objs.size=some (B2 x 0 a es.size ep):=a1b _ rfl
  refine a0e ⟨_,rfl, "set_iterator",_,⟨_,hI,rfl⟩,aZ.lookup,?_⟩
  refine h s1.heap.objs.size es ep t vs f {s1 with heap:=s1.heap.push (B2 x 0 a es.size ep)} g1 g2 g3 g4 htp (by show _<(s1.heap.push _).objs.size;rw[a3n];exact a3m _) (λb o e=>a0f _ (g5 b o e)) ⟨hS1.keeps λo e=>a0f _ e,?_,λtp e=>a0w (htp tp e).2,hm _ λb o e=>a0f _ e,?_⟩ hp hel hmem hnd hn
  ·exact a0w (a1d (a0n ho) g4)
  ·rw[hf0];exact hI
 by_cases hc:(!w.params.followText "set-order"&&(!t.plain&&decide (es.size>1)))=true
 ·rw [if_pos hc]
  refine a0b (oN es.size _ (by simp) λks d hp=>?_)
  have hkl:ks.length=es.size:=by rw[hp.length_eq];simp
  unfold newTuple
  refine a0b (a1u ?_ (by show (List.map (λ(i:Nat)=>rawInt i) ks).toArray.size<=sizeLine;rw[a0t,a0d,hkl];exact a0y (a3g hb) (by decide)))
  have hkm:∀k∈ks,k<es.size:=λk hk=>by simpa using hp.mem_iff.mp hk
  refine fin _ (.ref s.heap.objs.size) rfl rfl rfl (by show _<=(s.heap.push _).objs.size;rw[a3n];exact Nat.le_succ _) (λb o e=>a0f _ e) (ks.map λk=>(es.getD k (0,.none)).2) (λ_=>.ref s.heap.objs.size) rfl (λtp e=>?_) (λh' k=>?_) ?_
  ·cases e
   exact⟨a0l _,by show _<(s.heap.push _).objs.size;rw[a3n];exact a3m _⟩
  ·exact .drawn (k _ _ (a1b _ rfl)) rfl hkl rfl hkm
  ·have:(List.range es.size).map (λk=>(es.getD k (0,.none)).2)=es.toList.map (·.2):=by
    refine a3z (by simp) λi h1 h2=>?_
    have hi:i<es.size:=by simpa using h1
    simp[Array.getD,hi]
   rw[<- this]
   exact hp.map _
 ·rw [if_neg hc]
  refine a0b (a0e ?_)
  have e:s={s with heap:=s.heap}:=by cases s;rfl
  cases hbt:w.params.followText "set-order" with
  | true=>
   refine fin s (rawInt 0) rfl rfl rfl (a0l _) (λ_ _ e=>e) ((pickOrder (w.params.setOrder a ep) es).toList.map (·.2)) (λ_=>.int 0 0) rfl (λtp e=>by cases e) (λh' k=>.text hbt rfl) ((f9 _ _).map _)
  | false=>
   have hc':(!t.plain&&decide (es.size>1))=false:=by
    cases hq:(!t.plain&&decide (es.size>1)) with
    |false=>rfl
    |true=>rw[hbt,hq] at hc;exact absurd rfl hc
   rcases hwk with z|⟨hled,hris⟩
   ·rw[hbt] at z;cases z
   ·have hr:z7 t.place:=by
     cases hp:t.plain with
     |true=>exact hris hp
     | false=>
      rw[hp] at hc'
      have hsz:¬es.size>1:=by simpa using hc'
      have hps:t.place.size=es.size:=by
       have:=hf
       simp only[SetTable.fits,a1g,a3t] at this
       exact this.1
      unfold z7
      have:t.place.toList.length<=1:=by rw[a0o];omega
      match hl:t.place.toList,this with
      |[],_=>exact .nil
      |[x],_=>simp
    refine fin s (rawInt 0) rfl rfl rfl (a0l _) (λ_ _ e=>e) (es.toList.map (·.2)) (λi=>.int (jL t i) 0) rfl (λtp e=>by cases e) (λh' k=>.plain hbt hc' hled hr rfl) (.refl _)
theorem BE {S:Int->Bool} {n:Nat} {Q:List Value->Shared->Prop} (hh:A.handled=none) (hX:bT prog w a S n s.heap)
  (h:∀(us:List Value) (ks:List Int) (s':Ab),s'.gens=s.gens->s'.os=s.os->s.toks<=s'.toks->(∀b o,s.heap.get? b=some o->s'.heap.get? b=some o)->IntsAre us ks->ks.Nodup->(∀k,S k=true↔k∈ks)->ks.length=n->s.heap.objs.size<=s'.heap.objs.size->Q us s'):wpAny (model prog w) A (collect (.ref a)) Q E s:=by
 have hX0:=hX
 obtain⟨o,es,ep,t,ho,hex,hd,hel,hmem,hb,hf,hn,hwk,hnd⟩:=hX
 have hSI:s.heap.objs.size≠a:=a3b (a0w (a0n ho))
 have hk1:∀b o,s.heap.get? b=some o->(s.heap.push {cls:=.type "list",data:=.seq ([]:List Value).toArray}).get? b=some o:=λb o e=>a0f _ e
 unfold collect
 refine a0b (wpAny_runValue (a3o F.entry_proto_collect ?_))
 rw[a2q F.plain_proto_collect _]
 show wpAny _ A.in1 (newList [] >>=λl=>again (.builtin "list.__iadd__" ⟨[l,.ref a],[]⟩)) _ _ s
 refine a0b (a1u ?_)
 refine a0e ⟨a5f a6k _,a3o F.entry_list_iadd ?_⟩
 rw[a2q a6k _]
 show wpAny _ A.in1 (Builtin.List.listExtendWith (.ref s.heap.objs.size) (.ref a) (.ref s.heap.objs.size)) _ _ _
 unfold Builtin.List.listExtendWith
 have hT1:({s with heap:=s.heap.push {cls:=.type "list",data:=.seq ([]:List Value).toArray} }:Ab).TypeIs (.ref a) "set":=⟨o,hk1 a o ho,hex.1⟩
 refine a0b (a5y hT1 ?_)
 have h1:Builtin.List.listSameRef (.ref s.heap.objs.size) (.ref a)=false:=by simp[Builtin.List.listSameRef,hSI]
 have h2:(Value.type "set"==Value.type "list")=false:=by decide
 have h3:(Value.type "set"==Value.type "tuple")=false:=by decide
 simp only[h1,h2,h3,Bool.or_false,Bool.false_eq_true,if_false]
 have hX1:bT prog w a S n (s.heap.push {cls:=.type "list",data:=.seq ([]:List Value).toArray}):=⟨o,es,ep,t,hk1 a o ho,hex,hd,hel,hmem,hb,hf,hn,hwk,hnd⟩
 refine a0b (O6 (s:={s with heap:=s.heap.push {cls:=.type "list",data:=.seq ([]:List Value).toArray} }) hX1 λI es2 ep2 t2 vs f s2 g1 g2 g3 g4 g5 g6 g7 st hperm hel2 hmem2 hnd2 hn2=>?_)
 refine a0b (a1w ?_)
 unfold Builtin.List.listLengthHint
 have hT2:s2.TypeIs (.ref a) "set":=⟨o,g7 a o (hk1 a o ho),hex.1⟩
 refine a0b (wpAny_specialOf hT2 AJ.lookup ?_)
 wp_delta
 refine a0b (a6n (T:="set") (b:=true) hT2 (by rw[a7j];kernel_rfl) ?_)
 show wpAny _ A.in1 (typeOf (Value.ref a) >>=_) _ _ _
 refine a0b (a5y hT2 ?_)
 refine a0e ?_
 rw[if_pos (by decide)]
 refine a0b (a4y ?_)
 have hS₁:s2.heap.get? s.heap.objs.size=some {cls:=.type "list",data:=.seq ([]:List Value).toArray}:=g7 _ _ (a1b _ rfl)
 refine a0b ?_
 show wpAny _ A.in1 (updateSeq s.heap.objs.size (·.push .none) >>=λ_=>updateSeq s.heap.objs.size (·.pop)) _ _ _
 refine a0b (wpAny_updateSeq hS₁ rfl ?_)
 have hS₂:=a2b (Obj.mapSeq (·.push Value.none)) hS₁ rfl
 refine wpAny_updateSeq hS₂ rfl ?_
 have hS₃:=a2b (Obj.mapSeq (·.pop)) hS₂ rfl
 have hlt:s.heap.objs.size<(s.heap.push {cls:=.type "list",data:=.seq ([]:List Value).toArray}).objs.size:=by rw[a3n];exact a3m _
 have oth:∀b o,b≠s.heap.objs.size->s2.heap.get? b=some o->
   ((s2.heap.update s.heap.objs.size (Obj.mapSeq (·.push Value.none))).update s.heap.objs.size (Obj.mapSeq (·.pop))).get? b=some o:=
  λb o hb e=>(a1x _ _ (a3b hb)).trans ((a1x _ _ (a3b hb)).trans e)
 have hSf:s.heap.objs.size∉EO I a f:=by
  unfold EO
  intro hm
  rcases a0q.mp hm with z|z
  ·exact a0w (a1d hlt g4) z
  ·rcases a0q.mp z with z|z
   ·exact hSI z
   ·cases hf0:f 0 with
    | ref tp=>
     rw[hf0] at z
     have:s.heap.objs.size=tp:=by simpa using z
     exact a0w (a1d hlt (g5 tp hf0).1) this
    |_=>rw[hf0] at z;cases z
 have hvl:vs.length=n:=by rw[hperm.length_eq,a0d,a0o,hn2]
 have hbn:n<scanBound:=by rw[<- hn];exact hb
 have W:=LV (prog:=prog) (w:=w) (A:=A.in1) (I:=I) (a:=a) (es:=es2) (ep:=ep2) (t:=t2) (vs:=vs) (f:=f) hh
 refine a0e ⟨a5f F.plain_extend_loop _,codeAny_extend_loopS W (by rw[hvl];exact a0y (a3g hbn) (by decide)) _ hSf _ vs.length 0 _ _ _ rfl (a3c _)
  (W.frame 0 s2 _ s2.toks st (a0l _) λb hb o e=>oth b o (λz=>hSf (z▸hb)) e) hS₃ (ItemsOf.nil _) λs' acc' c' hm hS' hacc=>?_⟩
 show wpAny _ A (load s.heap.objs.size >>=_) _ _ s'
 refine a0b (wpAny_load hS' ?_)
 refine a0e (h acc'.toList (vs.map cT) s' (hm.gens.trans g1) (hm.os.trans g2) (a0y (Nat.le_of_eq g3.symm) hm.toks) (λb o e=>?_) ?_ ?_ (λk=>?_) (by rw[a0d,hvl]) (a3g (a0n hS')))
 ·have hb':b<s.heap.objs.size:=a0n e
  refine hm.heap b o (λz=>?_) (oth b o (a0w hb') (g7 b o (hk1 b o e)))
  rcases a0q.mp z with z|z
  ·exact a0w hb' z
  ·have:b=I:=by simpa using z
   exact a0w (a1d (a2t hb' hlt) g4) this
 ·have hav:acc'.toList=vs:=by
   refine a5e λi=>?_
   by_cases hi:i<acc'.size
   ·have:=hacc.2 i acc'[i] (a0v hi)
    rw[this,a2k];exact a0v hi
   ·rw[a2a (by rw[a0o];omega),a2a (by have:=hacc.1;omega)]
  rw[hav]
  have all:∀v∈vs,∃t,v= .int (cT v) t:=λv hv=>by
   obtain⟨e,he,rfl⟩:=a0p.mp (hperm.mem_iff.mp hv)
   obtain⟨⟨k,hk,_⟩,_⟩:=hel2 e he
   obtain⟨tk,e2⟩:=cI hk
   rw[e2];exact⟨tk,rfl⟩
  exact rN all
 ·have:(vs.map cT).Perm (es2.toList.map λe=>cT e.2):=by
   have:=hperm.map cT
   rwa [a2h] at this
  exact this.nodup_iff.mpr hnd2
 ·rw [hmem2 k]
  constructor
  ·rintro⟨e,he,hk⟩
   obtain⟨tk,e2⟩:=cI hk
   exact a0p.mpr ⟨e.2,hperm.mem_iff.mpr (a0p.mpr ⟨e,he,rfl⟩),by rw[e2];rfl⟩
  ·intro hk
   obtain⟨v,hv,rfl⟩:=a0p.mp hk
   obtain⟨e,he,rfl⟩:=a0p.mp (hperm.mem_iff.mp hv)
   obtain⟨⟨k,hk,_⟩,_⟩:=hel2 e he
   obtain⟨tk,e2⟩:=cI hk
   refine⟨e,he,?_⟩
   rw[e2] at hk ⊢;exact hk
theorem FX {S:Int->Bool} {n:Nat} {Q:Value->Shared->Prop} (hh:A.handled=none) (hX:bT prog w a S n s.heap) (h64:n<64)
  (h:∀(out:Array Value) (ns:List Int) (l:Ac) (m:Nat) (s':Ab),s'.gens=s.gens->s'.os=s.os->s.toks<=s'.toks->(∀b o,s.heap.get? b=some o->s'.heap.get? b=some o)->s.heap.objs.size<=l->s'.heap.get? l=some {cls:=.type "list",data:=.seq out m}->IntsAre out.toList ns->ns.Pairwise (· < ·)->(∀k,S k=true↔k∈ns)->ns.length=n->Q (.ref l) s') :
  wpAny (model prog w) A (call (.builtin "sorted") [.ref a]) Q E s:=by
 refine Calls.call_function_entry kind_sorted plain_sorted entry_sorted (args_sorted1 _) ?_
 unfold Builtin.«sorted»
 refine a0b (m:=checkCount "sorted" 1 1 _) (a0e ?_)
 refine a0b (BE hh hX λus ks s1 g1 g2 g3 g4 hI hnd hmem hkn hsz=>?_)
 have hul:us.length=n:=by rw[<- hkn];exact hI.length
 refine a0b (a1u ?_ ?_)
 ·have hoL:(s1.heap.push (seqObj "list" us.toArray 0)).get? s1.heap.objs.size=some (seqObj "list" us.toArray 0):=a1b _ rfl
  refine a0b (a1w (a2u slot_list_sort ⟨_,hoL,rfl⟩ entry_list_sort (list_sort_tree hoL hI (by omega) λout ns' a1 a2 a3=>⟨_,rfl,?_⟩) (args_list_sort _)))
  have e1:=a2b (Obj.mapSeq λ_=>#[]) hoL rfl
  have e2:=a0f (seqObj "list" #[] 0) (a0f (seqObj "tuple" us.toArray 0) e1)
  have e3:=a2b (Obj.mapSeq λ_=>out) e2 rfl
  have hlt:ks.Nodup->ns'.Pairwise (· < ·):=λhn=>by
   have hn':ns'.Nodup:=a2.nodup_iff.mpr hn
   exact (a3.and hn').imp fun {x y} ⟨h1,h2⟩=>by omega
  refine a0e ⟨_,rfl,h out ns' s1.heap.objs.size _ _ g1 g2 g3 (λb o e=>?_) hsz (e3.trans rfl) a1 (hlt hnd) (λk=>(hmem k).trans a2.mem_iff.symm) (a2.length_eq.trans hkn)⟩
  have hb:b≠s1.heap.objs.size:=a0w (a0n (g4 b o e))
  unfold sortedHeap
  refine (a1x _ _ (a3b hb)).trans (a0f _ (a0f _ ((a1x _ _ (a3b hb)).trans (a0f _ (g4 b o e)))))
 ·show us.toArray.size<=sizeLine
  rw[a0t,hul];exact a0y (a3g h64) (by decide)
end
def dN(P:Program)(w:World)(a:Ac)(S:Int->Bool)(n:Nat):HO:=.ext (bT P w a S n)
theorem bT.mono{P:Program}{w:World}{a:Addr}{S:Int->Bool}{n:Nat}{h1 h2:Heap}(x:bT P w a S n h1)(k:∀o,h1.get? a=some o->h2.get? a=some o):bT P w a S n h2:=by
 obtain⟨o,es,ep,t,ho,r⟩:=x
 exact⟨o,es,ep,t,k o ho,r⟩
theorem bT.ok{P:Program}{w:World}{H:Hp}{h:Heap}{a:Addr}{S:Int->Bool}{n:Nat}(x:bT P w a S n h):c5 P w H h a (dN P w a S n):=by
 refine⟨x,?_,λh1 h2 x1 k=>x1.mono k⟩
 obtain⟨o,es,ep,t,ho,r⟩:=x
 exact⟨o,ho⟩
section
variable{X:Cx}
theorem Inv.laidS{pins:List (Addr×Obj)}{σ:St}{H:Hp}{s s':Shared}{a:Addr}{o:HO}(I:Inv X pins σ H s)(hos:s'.os=s.os)(hg:s'.gens=s.gens)(k:∀b u,s.heap.get? b=some u->s'.heap.get? b=some u)(hp:s.heap.objs.size<=a)(new:c5 X.prog X.w (bF H a o) s'.heap a o):Inv X pins σ (bF H a o) s':=
 I.call' (s':=s') (ch:=[]) hos (Un.laid k hp (I.hok.fresh hp)) (I.hok.laid k hp new) (by rw[hg];exact⟨I.bare.1,λ_ _ e=>e⟩) (by simp)
def D2(P:Program)(w:World):List V->Hp->VK->Prop:=λxs H Q=>∃a S n,xs=[.ref a]/\H a=some (dN P w a S n)/\n<64/\
 ∀(l:Ac) (ms:List Int),H l=none->ms.Pairwise (· < ·)->(∀k,S k=true↔k∈ms)->Q (.ref l) (bF H l (.lst (List.map V.int ms)))
theorem qF(hc:X.calm=true):eD X (.builtin "sorted") (D2 X.prog X.w):=by
 intro pins s σ H xs us Q I r h
 obtain⟨p,S,n,rfl,hp,h64,q⟩:=h
 obtain⟨u,rfl,ru⟩:=j5 r
 cases ru
 obtain⟨hX,_,_⟩ : bT X.prog X.w p S n s.heap/\(∃o,s.heap.get? p=some o)/\(∀h1 h2:Heap,bT X.prog X.w p S n h1->(∀o,h1.get? p=some o->h2.get? p=some o)->bT X.prog X.w p S n h2):=I.hok p _ hp
 refine FX (I.ok.hd hc) hX h64 λout ns l m s' g1 g2 g3 g4 g5 g6 hI hlt hmem hl=>?_
 refine⟨.ref l,bF H l (.lst (List.map V.int ns)),I.laidS g2 g1 g4 g5 ⟨?_,out.toList,m,mZ hI,by simpa using g6⟩,rfl,q l ns (I.hok.fresh g5) hlt hmem⟩
 rw[a0d,hl]
 exact a0y (a3g h64) (by decide)
end
def fO (p0:Pos) (target:Expr) (ifs:List Expr) (act:Sem Unit) (e:Expr) (d:Nat) (it acc:Value) (env:Env):Sem Fin:=do
 standAt p0
 match <- pyNext it with
 |none=>pure (.done .next)
 | some v=>
  letOwnedTupleGo target it v
  assign target env v
  let mut ok:=true
  for c in ifs do
   if ok then ok <- isTrue c env (eval c env)
  if ok then
   act
  again (.compLoop e d it acc env)
def PB(Y:Cx)(m:Sem Unit)(t:TS):Prop:=∀(pins:List (Addr×Obj)) (s:Shared) (σ:St) (H:Hp) (D:Ends),Inv Y pins σ H s->t D σ H->
 wpAny (model Y.prog Y.w) Y.A m (λ_ s'=>∃σ' H',Inv Y pins σ' H' s'/\D.nx σ' H') (λ_ _=>False) s
def LP(tt:TT)(ta:TS):TS:=λD σ H=>tt σ H λb H1=>if b=true then ta D σ H1 else D.nx σ H1
inductive CompKind:Expr->Prop where
 |list (elt:Expr) (gens:List Comprehension) (scope:Scope) (pos:Pos):CompKind (.ListComp elt gens scope pos)
 |set (elt:Expr) (gens:List Comprehension) (scope:Scope) (pos:Pos):CompKind (.SetComp elt gens scope pos)
 |dict (k v:Expr) (gens:List Comprehension) (scope:Scope) (pos:Pos):CompKind (.DictComp k v gens scope pos)
theorem JU {prog:Program} {w:World} {A:Around} {R:Result->Shared->Prop} {s:Shared} {e:Expr} {d:Nat} {it acc:Value} {env:Env} {p0:Pos} {target:Expr} {ifs:List Expr} {act:Sem Unit} (heq:compTurn e d it acc env=fO p0 target ifs act e d it acc env) (hk:CompKind e) (I:Nat->Shared->Prop)
  (turn:∀n s,I n s->wpAny (model prog w) A (pyNext it) (λr s1=>match r with
   |none=>R (.ok .next) s1
   | some v=>wpAny (model prog w) A (letOwnedTupleGo target it v) (λ_ s2=>wpAny (model prog w) A (assign target env v) (λ_ s3=>
     wpAny (model prog w) A (forIn ifs true λc r=>if r=true then do let ok <- isTrue c env (eval c env);pure (ForInStep.yield ok) else pure (ForInStep.yield r)) (λok s4=>
      if ok=true then wpAny (model prog w) A act (λ_ s5=>∃m,m<n/\I m s5) (λ_ _=>False) s4
      else ∃m,m<n/\I m s4) (λ_ _=>False) s3) (λ_ _=>False) s2) (λ_ _=>False) s1) (λ_ _=>False) s)
  (n:Nat) (h:I n s):codeAny (model prog w) A (.compLoop e d it acc env) R s:=by
 refine codeAny_loop (by cases hk<;>rfl) I (λn s hI=>?_) n h
 have go:wpAny (model prog w) A ((compTurn e d it acc env).onRaise λx=>do noteFrame x env;theTreesLotGoes x) (λfin s'=>match fin with|.done f=>R (.ok f) s'|.again c'=>c'= .compLoop e d it acc env/\∃m,m<n/\I m s') (λe s'=>R (.error e) s') s:=?_
 ·cases hk<;>exact go
 refine wpAny_noted (env:=env) (m:=compTurn e d it acc env) ?_
 rw[heq]
 unfold fO
 refine a0b (a3w (a0b (a1l (turn n s hI) (λr s1 h1=>?_) λ_ _ z=>z.elim)))
 cases r with
 |none=>exact a0e h1
 | some v=>
  refine a0b (a1l h1 (λ_ s2 h2=>?_) λ_ _ z=>z.elim)
  refine a0b (a1l h2 (λ_ s3 h3=>?_) λ_ _ z=>z.elim)
  refine a0b (a1l h3 (λok s4 h4=>?_) λ_ _ z=>z.elim)
  cases ok with
  |false=>exact a0e ⟨rfl,h4⟩
  |true=>exact a0b (a1l h4 (λ_ s5 h5=>a0e ⟨rfl,h5⟩) λ_ _ z=>z.elim)
theorem tZ {Y:Cx} {e:Expr} (hk:CompKind e) (hc:Y.calm=true) (hx:Y.xe=λ_ _=>False) {d:Nat} {acc:Value} {p0:Pos} {target:Expr} {ifs:List Expr} {act:Sem Unit} {it:Addr} (heq:compTurn e d (.ref it) acc Y.env=fO p0 target ifs act e d (.ref it) acc Y.env)
  {g:TG} {tt:TT} {ta:TS} (hg:PG Y target g) (ht:M7 Y ifs tt) (ha:PB Y act ta) {pins:List (Ac×Obj)} {fp:List Ac} {tn:Nat->Heap->Prop} {J:It} {σ:St} {H:Hp} {s:Ab} {D:Ends} {R:Result->Ab->Prop}
  (T:Turn Y.prog Y.w Y.K target J fp it tn) (I:Inv Y pins σ H s) (st:tn 0 s.heap) (hf:∀b∈fp,jD Y pins H b) (body:oE J g (LP tt ta) D σ H)
  (hR:∀(i:Nat) (σ':St) (H':Hp) (s':Ab),Inv Y pins σ' H' s'->D.nx σ' H'->R (.ok .next) s'):codeAny (model Y.prog Y.w) Y.A (.compLoop e d (.ref it) acc Y.env) R s:=by
 obtain⟨W,⟨m0,w0⟩,turn⟩:=body
 have stat:∀ {H':Hp},(∀b∈fp,H' b=none)->∀b∈fp,jD Y pins H' b:=λhn b hb=>⟨hn b hb,(hf b hb).2⟩
 refine JU heq hk (λk s'=>∃i σ' H',Inv Y pins σ' H' s'/\tn i s'.heap/\(∀b∈fp,H' b=none)/\W i k σ' H') ?_ m0 ⟨0,_,_,I,st,λb hb=>(hf b hb).1,w0⟩
 rintro k s5 ⟨i,σ5,H5,I5,st5,fr5,w5⟩
 rcases turn i k σ5 H5 w5 with ⟨stop,qn⟩|⟨go,Nn,hN,step⟩
 ·refine a1l (T.done Y rfl rfl rfl hc i pins s5 σ5 H5 (λ_ _=>False) I5 (stat fr5) st5 stop) (λr s6 hr=>?_) (λ_ _ z=>z)
  obtain⟨rfl,I6⟩:=hr
  exact hR i σ5 H5 s6 I6 qn
 ·refine a1l (T.item Y rfl rfl rfl hc i pins s5 σ5 H5 (λ_ _=>False) I5 (stat fr5) st5 go) (λr s6 h6=>?_) (λ_ _ z=>z)
  obtain⟨u,rfl,h6⟩:=h6
  refine a1l h6 (λ_ s7 h7=>?_) (λ_ _ z=>z)
  obtain⟨x,H7,I7,r7,y7,st7,fr7⟩:=h7
  have I7':=I7.pinned (stat fr7) (T.obj _ _ st7)
  have again:∀ {σ':St} {H':Hp} {s':Shared},Inv Y (pins++o4 fp s7.heap) σ' H' s'->Nn σ' H'->∃m,m<k/\∃i σ' H',Inv Y pins σ' H' s'/\tn i s'.heap/\(∀b∈fp,H' b=none)/\W i m σ' H':=fun {σ' H' s'} J7 n7=>by
   obtain⟨m',hm,w7⟩:=hN σ' H' n7
   have pin:∀b∈fp,∀o,s7.heap.get? b=some o->s'.heap.get? b=some o/\H' b=none:=λb hb o e=>by
    have z:=J7.pin (b,o) (a0z _ (a0z _ (eN hb e)))
    exact⟨z.1,z.2.1⟩
   refine⟨m',hm,i+1,σ',H',J7.unpinned,T.keep _ _ _ st7 λb hb o e=>(pin b hb o e).1,λb hb=>?_,w7⟩
   obtain⟨o,e,_⟩:=T.obj _ _ st7 b hb
   exact (pin b hb o e).2
  have hg':=hg _ s7 σ5 H7 x u _ I7' r7 (step x H7 y7)
  rw[hx] at hg'
  refine a1l hg' (λ_ s8 h8=>?_) λ_ _ z=>z
  obtain⟨σ8,H8,I8,q8⟩:=h8
  have ht':=ht _ s8 σ8 H8 _ I8 q8
  rw[hx] at ht'
  refine a1l ht' (λok s9 h9=>?_) λ_ _ z=>z
  obtain⟨H9,I9,q9⟩:=h9
  cases ok with
  | false=>
   rw[if_neg a0i] at q9 ⊢
   exact again I9 q9
  | true=>
   rw[if_pos rfl] at q9 ⊢
   refine a1l (ha _ s9 σ8 H9 _ I9 q9) (λ_ s10 h10=>?_) λ_ _ z=>z
   obtain⟨σ10,H10,I10,q10⟩:=h10
   exact again I10 q10
theorem jE {prog:Program} {w:World} {A:Around} {R:Result->Shared->Prop} {s:Shared} {e:Expr} {d:Nat} {it acc:Value} {env:Env} {target iter:Expr} {ifs:List Expr} (hk:CompKind e) (hcl:(clausesOf e)[d]? =some ⟨target,iter,ifs,0⟩)
  (h0:codeAny (model prog w) A (.compLoop e d it acc env) R s) (h:wpAny (model prog w) A (pyIter it) (λit' s'=>codeAny (model prog w) A (.compLoop e d it' acc env) R s') (λ_ _=>False) s):codeAny (model prog w) A (.compStart e d it acc env) R s:=by
 have hq:(Code.compLoop e d it acc env).quiet=true:=by cases hk<;>rfl
 have hq':∀it',(Code.compLoop e d it' acc env).quiet=true:=λit'=>by cases hk<;>rfl
 have go:wpAny (model prog w) A ((compStart e d it acc env).onRaise λx=>do noteFrame x env;standAt theWindowsPlace) (λfin s'=>match fin with|.done f=>R (.ok f) s'|.again c'=>c'.quiet=true/\codeAny (model prog w) A c' R s') (λe s'=>R (.error e) s') s:=?_
 ·refine codeAny_of_tree ?_
  cases hk<;>exact go
 refine wpAny_notedAt ?_
 unfold compStart
 rw[hcl]
 rw[if_neg (by show ¬((0:Nat) !=0)=true;decide)]
 show wpAny _ _ (ask >>=_) _ _ s
 refine a0b (a4e (wpAny_ite ?_))
 split
 ·first
   |exact a0b (a0e (a0e (And.intro hq h0)))
   |exact a0e (And.intro hq h0)
 ·refine a0b (a4y ?_)
  show wpAny _ _ (standAt iter.pos >>=_) _ _ s
  exact a0b (a3w (a0b (a1l h (λit' s' h'=>a0e (And.intro (hq' it') h')) λ_ _ x=>x.elim)))
def a7H(wi:TI)(g:TG)(tt:TT)(ta:TS):TS:=λD σ H=>wi σ H λJ H1=>oE J g (LP tt ta) D σ H1
theorem a3R {Y:Cx} {e:Expr} (hk:CompKind e) (hc:Y.calm=true) (hx:Y.xe=λ_ _=>False) {acc:Value} {g0:Comprehension} {target iter:Expr} {ifs:List Expr} {act:Sem Unit} (hcl:clausesOf e=[g0,⟨target,iter,ifs,0⟩]) (heq:∀it:Value,compTurn e 1 it acc Y.env=fO iter.pos target ifs act e 1 it acc Y.env)
  {wi:TI} {g:TG} {tt:TT} {ta:TS} (hi:PI Y target iter wi) (hg:PG Y target g) (ht:M7 Y ifs tt) (ha:PB Y act ta) (hs:∀x,foldedSetIterable iter Y.env x=pure x) :
  PB Y (do let x <- eval iter Y.env;standAt iter.pos;let x <- foldedSetIterable iter Y.env x;let _ <- runOwn (.compStart e 1 (<- holding [x] (pyIter x)) acc Y.env) Y.env) (a7H wi g tt ta):=by
 intro pins s σ H D I h
 have h0:=hi pins s σ H _ I h
 rw[hx] at h0
 refine a0b (a1l h0 (λv s1 h1=>?_) λ_ _ z=>z)
 refine a0b (a3w (a0b (a6l (hs v) ?_)))
 refine a0b (a1w (a1l h1 (λitv s2 h2=>?_) λ_ _ z=>z))
 obtain⟨it,fp,tn,J,H2,rfl,I2,T,st2,f2,body⟩:=h2
 have run:∀(R:Result->Ab->Prop),(∀(i:Nat) (σ':St) (H':Hp) (s':Ab),Inv Y pins σ' H' s'->D.nx σ' H'->R (.ok .next) s')->codeAny (model Y.prog Y.w) Y.A (.compLoop e 1 (.ref it) acc Y.env) R s2:=λR hR=>tZ hk hc hx (heq _) hg ht ha T I2 st2 f2 body hR
 refine a0b (wpAny_runOwn (h:=none) ?_)
 refine jE (A:=Y.A) hk (by rw[hcl];rfl) (run _ λi σ' H' s' I' q=>?_) (T.self _ 0 _ _ _ st2 (run _ λi σ' H' s' I' q=>?_))
 ·exact a0e ⟨σ',H',I',q⟩
 ·exact a0e ⟨σ',H',I',q⟩
theorem EH {prog:Program} {w:World} {A:Around} {E:Value->Shared->Prop} {s:Shared} {a:Addr} {S:Int->Bool} {n:Nat} {k:Int} {key:Value} {Q:Value->Shared->Prop} (hkey:(intKind prog w).is k key=true) (hsc:key.scannable=true) (hS:bT prog w a S n s.heap) (hroom:n+1<scanBound)
  (h:∀h',Heap.SameBut a s.heap h'->bT prog w a (λk'=>S k'||decide (k'=k)) (if S k then n else n+1) h'->Q .none {s with heap:=h',toks:=s.toks+1}) :
  wpAny (model prog w) A (call (.builtin "set.add") [.ref a,key]) Q E s:=by
 have hT:s.TypeIs (.ref a) "set":=by
  obtain⟨o,es,ep,t,ho,hex,_⟩:=hS
  exact⟨o,ho,hex.1⟩
 refine a2u F.slot_set_add hT F.entry_set_add ?_ (F.args_set_add_2 _ _)
 unfold Builtin.«set.add» Builtin.Frozenset.oneOther
 simp only[List.isEmpty_nil,bind_assoc]
 unfold Builtin.Frozenset.addrOf setAdd
 refine a0b (a0e ?_)
 try dsimp only
 refine a0b (a0e ?_)
 try dsimp only
 refine a0b ?_
 refine a1w ?_
 refine a0b ((intKind prog w).pyHash hkey ?_)
 refine lV (s:={s with toks:=s.toks+1}) hkey hsc hS hroom λh' hsb hS'=>?_
 show wpAny _ _ (ret Value.none) _ _ _
 exact a0e ⟨_,rfl,h h' hsb hS'⟩
def a4I(P:Program)(w:World)(te:TE)(acc:Ac):TS:=λD σ H=>te σ H λv H1=>∃i S n,v= .int i/\H1 acc=some (dN P w acc S n)/\n<1000/\D.nx σ (bF H1 acc (dN P w acc (λk=>S k||decide (k=i)) (if S i then n else n+1)))
theorem a0C{Y:Cx}(hx:Y.xe=λ_ _=>False){elt:Expr}{te:TE}{acc:Addr}(he:PE Y elt te):PB Y (do let v <- eval elt Y.env;standAt elt.pos;let _ <- call (.builtin "set.add") [.ref acc,v]) (a4I Y.prog Y.w te acc):=by
 intro pins s σ H D I h
 have h0:=he pins s σ H _ I h
 rw[hx] at h0
 refine a0b (a1l h0 (λv s1 h1=>?_) λ_ _ z=>z)
 obtain⟨x,H1,I1,r1,i,S,n,rfl,ha,hn,q⟩:=h1
 obtain⟨tk,rfl⟩:=r1
 obtain⟨hX,_,_⟩ : bT Y.prog Y.w acc S n s1.heap/\(∃o,s1.heap.get? acc=some o)/\(∀h1 h2:Heap,bT Y.prog Y.w acc S n h1->(∀o,h1.get? acc=some o->h2.get? acc=some o)->bT Y.prog Y.w acc S n h2):=I1.hok acc _ ha
 refine a0b (a3w (a0b (EH (k:=i) (by simp[intKind,Value.isInt]) rfl hX (a2n (Nat.succ_le_of_lt hn) (by decide)) λh' sb hX'=>a0e ⟨σ,_,?_,q⟩)))
 refine I1.write (t':=s1.toks+1) (x:=acc) (e:=acc) (by rw[ha];trivial) (.inl rfl) (λb u hb e=>(sb.2 b hb).trans e) ?_ hX'.ok
 obtain⟨o,_,_,_,ho,_⟩:=hX'
 exact⟨o,ho⟩
def a77(P:Program)(w:World)(wi:TI)(g:TG)(tt:TT)(ta:Addr->TS)(n:Nat)(cap:List Nat):TE:=λσ H Q=>wi σ H λJ H1=>∀acc,H1 acc=none->
 oE J g (LP tt (ta acc)) {nx:=λ_ H'=>Q (.ref acc) H',rt:=λ_ _=>False} (EX n cap σ) (bF H1 acc (dN P w acc (λ_=>false) 0))
section
variable{X:Cx}{elt target iter:Expr}{ifs:List Expr}{scope:Scope}{pos:Pos}{N':List Str}{n:Nat}{cap:List Nat}{wi:TI}{g:TG}{tt:TT}{ta:Ac->TS}{gs:List Comprehension}{act:Value->Env->Sem Unit}
theorem a3W (hc:X.calm=true) (S:LcOk X.N X.env.scope scope N' n cap) (heq:∀it acc env,compTurn (.SetComp elt (⟨target,iter,ifs,0⟩::gs) scope pos) 0 it acc env=fO iter.pos target ifs (act acc env) (.SetComp elt (⟨target,iter,ifs,0⟩::gs) scope pos) 0 it acc env)
  (hi:PI X target iter wi) (hg:∀C s H fp,PG (b6 X N' scope C s H fp) target g)
  (ht:∀C s H fp,M7 (b6 X N' scope C s H fp) ifs tt) (ha:∀acc C s H fp,PB (b6 X N' scope C s H fp) (act (.ref acc) (b6 X N' scope C s H fp).env) (ta acc)) (hs:∀x,foldedSetIterable iter X.env x=pure x:=by intro _;rfl) :
  PE X (.SetComp elt (⟨target,iter,ifs,0⟩::gs) scope pos) (a77 X.prog X.w wi g tt ta n cap):=by
 intro pins s σ H Q I h
 have hfree:∀y∈scope.names,y.2= .free->∃c,X.env.cells.lookup y.1=some c:=λy hy e=>I.ok.has y.1 (.inl (S.frees y hy e))
 show wpAny _ _ (comprehension (.SetComp elt (⟨target,iter,ifs,0⟩::gs) scope pos) scope X.env (firstIterPos (⟨target,iter,ifs,0⟩::gs) pos) (newSet (.type "set")) (firstAsync (⟨target,iter,ifs,0⟩::gs)) (firstIter (⟨target,iter,ifs,0⟩::gs) X.env)) _ _ s
 refine a4z (use:=none) rfl hs (kF hfree) S.kind S.names ?_
 refine cO (hi pins s σ H _ I h) λv s1 h1=>cO h1 λitv s2 h2=>?_
 obtain⟨it,fp,tn,J,H2,rfl,I2,T,st2,f2,body⟩:=h2
 refine OP λo hX=>?_
 have hacc:H2 s2.heap.objs.size=none:=I2.fresh
 have kp:∀b u,s2.heap.get? b=some u->(s2.heap.push o).get? b=some u:=λb u e=>a0f _ e
 have I3:Inv X pins σ (bF H2 s2.heap.objs.size (dN X.prog X.w s2.heap.objs.size (λ_=>false) 0)) {s2 with heap:=s2.heap.push o}:=I2.laid (t':=s2.toks) kp (a0l _) hX.ok
 have body:=body _ hacc
 have hlt:∀b∈fp,b<s2.heap.objs.size:=λb hb=>by
  obtain⟨o,e,_⟩:=T.obj 0 _ st2 b hb
  exact a0n e
 have hf3:∀b∈fp,jD X pins (bF H2 s2.heap.objs.size (dN X.prog X.w s2.heap.objs.size (λ_=>false) 0)) b:=λb hb=>
  ⟨by rw[aH (a0w (hlt b hb))];exact (f2 b hb).1,(f2 b hb).2⟩
 refine a5t S.nocell (by intro y hy;cases hy) (λh4 ns4 sb4=>?_) S.kind
 generalize hs3:({s2 with heap:=s2.heap.push o}:Ab)=s3 at*
 have hsz:s2.heap.objs.size<s3.heap.objs.size:=by rw[<- hs3,a3n];exact a3m _
 have k4:∀b o,s3.heap.get? b=some o->h4.get? b=some o:=λb o e=>(sb4.2 b (a0w (a0n e))).trans (a0f _ e)
 generalize hH3:bF H2 s2.heap.objs.size (dN X.prog X.w s2.heap.objs.size (λ_=>false) 0)=H3 at*
 have IY:=oQ (tk:=s3.toks+([]:List (Str×Value)).length) S I3 hf3 (λb hb=>a2t (hlt b hb) hsz) ns4 k4
 have fpY:∀b∈fp,jD (b6 X N' scope s3.heap.objs.size s3 H3 fp) [] H3 b:=λb hb=>by
  obtain⟨f0,f1,f2',f3,f4,f5⟩:=hf3 b hb
  refine⟨f0,a0w (a2t (hlt b hb) hsz),λz=>?_,.inl hb,λx c e=>f4 x c (lW hfree e),λp hp=>absurd hp (by simp[b6])⟩
  rcases a0q.mp (I3.stkSub b z) with z|z
  ·exact f1 z
  ·exact f2' z
 have tn4:tn 0 h4:=T.keep 0 _ _ st2 λb hb o e=>k4 b o (by rw[<- hs3];exact a0f _ e)
 have loop:codeAny (model X.prog X.w) X.A (.compLoop (.SetComp elt (⟨target,iter,ifs,0⟩::gs) scope pos) 0 (.ref it) (.ref s2.heap.objs.size) (b6 X N' scope s3.heap.objs.size s3 H3 fp).env)
   (compPost (model X.prog X.w) X.A X.xe none (EP X pins σ Q) (.ref s2.heap.objs.size) s3.heap.objs.size) {s3 with heap:=h4,toks:=s3.toks+([]:List (Str×Value)).length}:=by
  refine tZ (Y:=b6 X N' scope s3.heap.objs.size s3 H3 fp) (.set _ _ _ _) hc rfl (heq _ _ _) (hg _ _ _ _) (ht _ _ _ _) (ha _ _ _ _ _) T IY tn4 fpY body λi σ5 H5 s6 I6 qn=>?_
  obtain⟨m,hn,_⟩:=I6.loc
  refine⟨m,hn,λh' hs'=>⟨.ref s2.heap.objs.size,H5,?_,rfl,qn⟩⟩
  have ub:=I6.base
  have ne:∀b o,s3.heap.get? b=some o->b≠s3.heap.objs.size:=λb o e=>a0w (a0n e)
  refine I3.call' (s':={s6 with heap:=h'}) (ch:=fp) I6.os ⟨λb o e z1 z2 z3=>(hs'.2 b (ne b o e)).trans (ub.keep b o e z1 z2 z3),λb o e z1 z2 z3=>?_,ub.free,λb o e z=>?_,ub.tups,ub.frzs,ub.tbls⟩ (tF I6.hok I6.free hs') I6.bare λb hb=>⟨(hf3 b hb).2.2.2.1,(hf3 b hb).2.1,(hf3 b hb).2.2.2.2.1,(hf3 b hb).2.2.2.2.2⟩
  ·obtain⟨sl,e'⟩:=ub.slot b o e z1 z2 z3
   exact⟨sl,(hs'.2 b (ne b o e)).trans e'⟩
  ·obtain⟨o',e'⟩:=ub.there b o e z
   exact⟨o',(hs'.2 b (ne b o e)).trans e'⟩
 exact jE (.set _ _ _ _) rfl loop (T.self _ 0 _ _ _ tn4 loop)
end
def aP(ks:List Int):List Int:=l8 ks.eraseDups
theorem bW{ks:List Int}{k:Int}:k∈aP ks↔k∈ks:=by
 unfold aP
 rw[(cL _).mem_iff,List.mem_eraseDups]
theorem RN(ks:List Int):(aP ks).Pairwise (·<=·):=kJ _
theorem l9:∀(n:Nat) (ks:List Int),ks.length<=n->ks.eraseDups.Nodup
 | 0,ks,h=>by
  have:ks=[]:=a3p.mp (by omega)
  subst this;simp
 |n+1,[],h=>by simp
 | n+1,k::ks,h=>by
  rw[List.eraseDups_cons,a2i]
  refine⟨λz=>?_,l9 n _ ?_⟩
  ·rw[List.mem_eraseDups,a2f] at z
   simp at z
  ·have:=a3i (λb=>!b==k) ks
   simp at h;omega
theorem gN(ks:List Int):(aP ks).Pairwise (· < ·):=by
 have h2:(aP ks).Nodup:=(cL _).nodup_iff.mpr (l9 _ ks (a0l _))
 exact ((RN ks).and h2).imp fun {x y} ⟨h1,h2⟩=>by omega
theorem KW{as bs:List Int}(ha:as.Pairwise (· < ·))(hb:bs.Pairwise (· < ·))(h:∀k,k∈as↔k∈bs):as=bs:=by
 refine nN ?_ (ha.imp λh=>by omega) (hb.imp λh=>by omega)
 exact (List.perm_ext_iff_of_nodup (ha.imp λh=>by omega) (hb.imp λh=>by omega)).mpr h
theorem vY{ks ms:List Int}(hm:ms.Pairwise (· < ·))(h:∀k,k∈ms↔k∈ks):ms=aP ks:=KW hm (gN ks) λk=>(h k).trans bW.symm
abbrev DM:=List Int->bC->(List Int->bC->Prop)->Prop
def uN(te:aY):DM:=λacc env K=>te env λv=>match v with
 |.int i=>acc.length<63/\K (acc++[i]) env
 |_=>False
def lK(g:iU)(tt:fD)(a:DM)(K:List Int->bC->Prop):List PV->List Int->bC->Prop
 |[],acc,env=>K acc env
 |x::xs,acc,env=>g x env λenv1=>tt env1 λk=>Br k (a acc env1 λacc' env2=>lK g tt a K xs acc' env2) (lK g tt a K xs acc env1)
def CB(s:n9)(g:iU)(tt:fD)(a:DM):DM:=λacc env K=>s env λitems=>lK g tt a K items acc env
def mV(s:n9)(g:iU)(tt:fD)(a:DM)(cp:bC->bC):aY:=λenv Q=>s env λitems=>lK g tt a (λacc _=>Q (.lst ((aP acc).map PV.int))) items [] (cp env)
structure SetIn(P:Program)(w:World)(acc:Addr)(H0:Hp)(W:Wd)(H:Hp)(ks:List Int):Prop where
 ex:∃S n,H acc=some (dN P w acc S n)/\(∀k,S k=true↔k∈ks)/\n<=ks.length
 few:ks.length<=63
 new:H0 acc=none
 nF:¬W.F acc
 nS:¬W.S acc
 nL:¬W.L acc
 nZ:¬W.Z acc
structure Ga(acc:Addr)(W:Wd)(H:Hp)(W':Wd)(H':Hp):Prop where
 ga:∀W1 H1,H1 acc=none->Go W1 H1 W H->Go W1 H1 W' H'
 ex:Ex W H W' H'
theorem Ga.refl{acc:Ac}{W:Wd}{H:Hp}:Ga acc W H W H:=⟨λ_ _ _ g=>g,.refl⟩
theorem Ga.trans{acc:Ac}{W W1 W2:Wd}{H H1 H2:Hp}(a:Ga acc W H W1 H1)(b:Ga acc W1 H1 W2 H2):Ga acc W H W2 H2:=⟨λV G h g=>b.ga V G h (a.ga V G h g),a.ex.trans b.ex⟩
theorem Go.toGa{acc:Ac}{W W':Wd}{H H':Hp}(g:Go W H W' H')(w:Wok W H):Ga acc W H W' H':=⟨λ_ _ _ k=>k.trans g,g.ex w⟩
theorem SetIn.go{P:Program}{w:World}{acc:Addr}{H0:Hp}{W W':Wd}{H H':Hp}{ks:List Int}(x:SetIn P w acc H0 W H ks)(g:Go W H W' H'):SetIn P w acc H0 W' H' ks:=by
 obtain⟨S,n,h1,h2,h3⟩:=x.ex
 exact⟨⟨S,n,g.kp acc _ h1 x.nS,h2,h3⟩,x.few,x.new,g.nFF h1 x.nF,g.nSS h1 x.nS,by rw[g.kl];exact x.nL,g.nZZ h1 x.nZ⟩
def OH(P:Program)(w:World)(K:PySem.W.Frag)(mb mn:List Md)(a:DM)(acc:Addr):TS:=λD σ H=>∃(env:bC) (W0:Wd) (H0:Hp) (W:Wd) (ks:List Int) (Kp:List Int->bC->Prop),Rl K mb W0 H0 W σ env H/\SetIn P w acc H0 W H ks/\a ks env Kp/\
 ∀(env':bC) (W':Wd) (σ':St) (H':Hp) (ks':List Int),Rl K mn W0 H0 W' σ' env' H'->Ga acc W H W' H'->SetIn P w acc H0 W' H' ks'->Kp ks' env'->D.nx σ' H'
structure VB(Y:Cx)(mb mn:List Md)(m:Addr->Sem Unit)(a:DM):Prop where
 h:∀acc,PB Y (m acc) (OH Y.prog Y.w Y.K mb mn a acc)
theorem PB.imp{Y:Cx}{m:Sem Unit}{t t':TS}(h:PB Y m t)(k:∀D σ H,t' D σ H->t D σ H):PB Y m t':=λpins s σ H D I q=>h pins s σ H D I (k D σ H q)
theorem a1X {Y:Cx} (hx:Y.xe=λ_ _=>False) {mb:List Md} {elt:Expr} {te:aY} (hb:l5 mb=true) (he:VE Y mb elt .bw te):VB Y mb mb (λacc=>do let v <- eval elt Y.env;standAt elt.pos;let _ <- call (.builtin "set.add") [.ref acc,v]) (uN te):=⟨λacc=>(a0C hx he.h).imp λD σ H h=>by
 obtain⟨env,W0,H0,W,ks,Kp,R,x,q,k⟩:=h
 refine⟨env,W0,H0,W,_,R,q,λv u W1 H1 g1 r1 q1=>?_⟩
 have x1:=x.go g1
 obtain⟨S,n,h1,h2,h3⟩:=x1.ex
 cases v with
 | int i=>
  have:=Rep.ofInt r1
  subst this
  have hfew:=x1.few
  refine⟨i,S,n,rfl,h1,by omega,?_⟩
  refine k env W1 σ _ (ks++[i]) ((R.step g1).tmp hb x1.new x1.nF x1.nS x1.nL x1.nZ h1 rfl (λ_ _ z=>by cases z)) ?_ ⟨⟨_,_,b5,λj=>?_,?_⟩,by have:=q1.1;simp;omega,x1.new,x1.nF,x1.nS,x1.nL,x1.nZ⟩ q1.2
  ·refine (g1.toGa R.ok).trans ⟨λV G hG g=>g.tmp hG x1.nF x1.nS x1.nZ,⟨λ_ h=>h,λb o f e=>by rw[aH (λz=>by subst z;exact x1.nF f)];exact e,λb o im e=>by rw[aH (λz=>by subst z;rw[h1] at e;cases e;cases im)];exact e⟩⟩
  ·rw[a2d,h2 j,a5c,a1a,a5v]
  ·rw[a1r]
   split
   ·exact a0y h3 (Nat.le_add_right _ _)
   ·exact Nat.succ_le_succ h3
 |_=>exact q1.elim⟩
theorem GW {P:Program} {w:World} {K:PySem.W.Frag} {mb m1 m2:List Md} {eli:El} {g:iU} {tt:fD} {a:DM} {acc:Addr} {J:It} {items:List PV} {W0 W1:Wd} {H0 H1:Hp} {Kp:List Int->bC->Prop} {D:Ends} (hle:jG m1 mb=true) (hle2:jG m2 mb=true) (sr:Src J eli H0 W1 H1 items)
  {σ:St} {env:bC} {ks:List Int} (q:lK g tt a Kp items ks env) {W2:Wd} {H2:Hp} (R:Rl K mb W0 H0 W2 σ env H2) (x12:Ex W1 H1 W2 H2) (x:SetIn P w acc H0 W2 H2 ks)
  (k:∀(env':bC) (W':Wd) (σ':St) (H':Hp) (ks':List Int),Rl K mb W0 H0 W' σ' env' H'->Ga acc W2 H2 W' H'->SetIn P w acc H0 W' H' ks'->Kp ks' env'->D.nx σ' H') :
  oE J (uK K mb m1 eli g) (LP (rO K m1 tt) (OH P w K m1 m2 a acc)) D σ H2:=by
 refine ⟨λi m σb Hb=>m=items.length-i/\i<=items.length/\∃(envb:bC) (Wb:Wd) (kb:List Int),Rl K mb W0 H0 Wb σb envb Hb/\Ga acc W2 H2 Wb Hb/\SetIn P w acc H0 Wb Hb kb/\lK g tt a Kp (items.drop i) kb envb,
  ⟨items.length,by simp,a3c _,env,W2,ks,R,.refl,x,by simpa using q⟩,?_⟩
 rintro i m σb Hb ⟨rfl,hi,envb,Wb,kb,Rb,gab,xb,qb⟩
 have exb:Ex W1 H1 Wb Hb:=x12.trans gab.ex
 by_cases hlt:i<items.length
 ·rw [a3f hlt] at qb
  refine .inr ⟨sr.go i Wb Hb exb hlt,λσ' H'=>i+1<=items.length/\∃(envb:bC) (Wb:Wd) (kb:List Int),Rl K mb W0 H0 Wb σ' envb H'/\Ga acc W2 H2 Wb H'/\SetIn P w acc H0 Wb H' kb/\lK g tt a Kp (items.drop (i+1)) kb envb,λσ' H' z=>⟨items.length-(i+1),by omega,rfl,z.1,z.2⟩,λv H3 y=>?_⟩
  obtain⟨g3,xx,ex,rx⟩:=sr.yld i Wb Hb v H3 exb Rb.ok hlt y
  rw[a0a hlt] at ex
  cases ex
  refine⟨envb,W0,H0,Wb,_,_,Rb.step g3,rx,qb,λenv' σ' R' z=>?_⟩
  refine⟨env',W0,H0,Wb,_,R',z,λkk W4 H4 g4 q4=>?_⟩
  have x4:=(xb.go g3).go g4
  have ga4:Ga acc W2 H2 W4 H4:=(gab.trans (g3.toGa Rb.ok)).trans (g4.toGa g3.ok)
  cases kk with
  | false=>
   dsimp only
   rw[if_neg a0i]
   exact⟨hlt,env',W4,kb,(R'.step g4).less hle,ga4,x4,q4⟩
  | true=>
   dsimp only
   rw[if_pos rfl]
   exact⟨env',W0,H0,W4,kb,_,R'.step g4,x4,q4,λenv5 W5 σ5 H5 k5 R5 ga5 x5 q5=>⟨hlt,env5,W5,k5,R5.less hle2,ga4.trans ga5,x5,q5⟩⟩
 ·have e:i=items.length:=by omega
  subst e
  rw[a6d] at qb
  exact .inl ⟨sr.stop Wb Hb exb,k envb Wb σb Hb kb Rb gab xb qb⟩
theorem a4U {Y:Cx} (hc:Y.calm=true) (hx:Y.xe=λ_ _=>False) {elt target0 iter0 target iter:Expr} {ifs0 ifs:List Expr} {scope:Scope} {pos:Pos} {mb m1 m2:List Md} {eli:El} {s:n9} {g:iU} {tt:fD} {a:DM}
  (hle:jG m1 mb=true) (hle2:jG m2 mb=true) (hi:VI Y mb eli target iter s) (hg:VG Y mb m1 eli target g) (ht:VTs Y m1 ifs tt) (ha:VB Y m1 m2 (λacc=>do let v <- eval elt Y.env;standAt elt.pos;let _ <- call (.builtin "set.add") [.ref acc,v]) a)
  (hs:∀x,foldedSetIterable iter Y.env x=pure x:=by intro _;rfl) :
  VB Y mb mb (λacc=>do let x <- eval iter Y.env;standAt iter.pos;let x <- foldedSetIterable iter Y.env x;let _ <- runOwn (.compStart (.SetComp elt [⟨target0,iter0,ifs0,0⟩,⟨target,iter,ifs,0⟩] scope pos) 1 (<- holding [x] (pyIter x)) (.ref acc) Y.env) Y.env) (CB s g tt a):=
 ⟨λacc=>(a3R (e:=.SetComp elt [⟨target0,iter0,ifs0,0⟩,⟨target,iter,ifs,0⟩] scope pos) (.set _ _ _ _) hc hx (act:=do let v <- eval elt Y.env;standAt elt.pos;let _ <- call (.builtin "set.add") [.ref acc,v]) rfl (λit=>rfl) hi.h hg.h ht.h (ha.h acc) hs).imp λD σ H h=>by
 obtain⟨env,W0,H0,W,ks,Kp,R,x,q,k⟩:=h
 refine⟨env,W0,H0,W,_,R,q,λitems W1 H1 J g1 sr q1=>?_⟩
 exact GW hle hle2 sr q1 (R.step g1) .refl (x.go g1) λenv' W' σ' H' ks' R' ga x' q'=>k env' W' σ' H' ks' R' ((g1.toGa R.ok).trans ga) x' q'⟩
theorem WB {P:Program} {w:World} {K:PySem.W.Frag} {md mb m2:List Md} {eli:El} {s:n9} {g:iU} {tt:fD} {a:DM} {n:Nat} {cap:List Nat} {σ:St} {H:Hp} {Q:VK} {cp:bC->bC} (hcp:∀env,cp env=qT n cap env) (hle:jG mb (fZ n cap md)=true) (hle2:jG m2 (fZ n cap md)=true)
  (h:fH K md (.o .fl) (mV s g tt a cp) σ H Q):XT (D2 P w) (DG (a77 P w (xR K md eli s) (uK K (fZ n cap md) mb eli g) (rO K mb tt) (λacc=>OH P w K mb m2 a acc) n cap) RG) σ H Q:=by
 obtain⟨env,W0,H0,W,Q',R,q,k⟩:=h
 refine⟨env,W0,H0,W,_,R,q,λitems W1 H1 J g1 sr q1=>?_⟩
 intro acc hacc
 rw[hcp] at q1
 have h0acc:H0 acc=none:=R.go.free (g1.free hacc)
 have R1:=R.step g1
 have Rb:=FS (n:=n) (cap:=cap) R1 (λa=>∃o,H1 a=some o) (λa o e=>⟨o,e⟩)
 generalize hW1b:({W1 with L:=λa=>∃o,H1 a=some o}:Wd)=W1b at Rb
 generalize hW0b:({W0 with L:=λa=>∃o,H1 a=some o}:Wd)=W0b at Rb
 have f1:W1b.F=W1.F:=by rw[<- hW1b]
 have s1:W1b.S=W1.S:=by rw[<- hW1b]
 have l1:¬W1b.L acc:=by rw[<- hW1b];rintro⟨o,e⟩;rw[hacc] at e;cases e
 have okb:Wok W1b H1:=Rb.ok
 have nF1:¬W1b.F acc:=λz=>okb.offF hacc z
 have nS1:¬W1b.S acc:=λz=>okb.offS hacc z
 have nZ1:¬W1b.Z acc:=λz=>okb.offZ hacc z
 have z1:W1b.Z=W1.Z:=by rw[<- hW1b]
 have gl:Go W1b H1 W1b (bF H1 acc (dN P w acc (λ_=>false) 0)):=Go.laid okb hacc
 have exW:Ex W1 H1 W1b (bF H1 acc (dN P w acc (λ_=>false) 0)):=by
  have x:=gl.ex okb
  exact⟨λa h=>by rw[f1];exact h,λa o h e=>x.kp a o (by rw[f1];exact h) e,x.im⟩
 refine GW hle hle2 sr q1 (Rb.step gl) exW ⟨⟨_,_,b5,λk=>by simp,a0l 0⟩,a3c _,h0acc,nF1,nS1,l1,nZ1⟩ λenvb Wb σb Hb kb Rr ga x qb=>?_
 have gb:Go W1b H1 Wb Hb:=ga.ga W1b H1 hacc gl
 have gf:Go W H {Wb with L:=W.L} Hb:=by
  have a:=g1
  refine⟨λb h=>gb.lF b (by rw[f1];exact a.lF b h),λb h=>gb.lS b (by rw[s1];exact a.lS b h),λb h=>?_,λb h=>?_,λb o e s=>?_,⟨gb.ok.fF,gb.ok.sS,gb.ok.dj,gb.ok.zZ,gb.ok.zF,gb.ok.zS⟩,?_,rfl,λb h=>gb.lZ b (by rw[z1];exact a.lZ b h),λb h=>?_⟩
  ·rcases gb.nF b h with z|z
   ·exact a.nF b (by rw[<- f1];exact z)
   ·exact .inr (a.free z)
  ·rcases gb.nS b h with z|z
   ·exact a.nS b (by rw[<- s1];exact z)
   ·exact .inr (a.free z)
  ·refine gb.kp b o (a.kp b o e s) ?_
   rw[s1];exact a.nSS e s
  ·show Wb.K=W.K
   rw[gb.kk,<- hW1b];exact a.kk
  ·rcases gb.nZ b h with z|z
   ·exact a.nZ b (by rw[<- z1];exact z)
   ·exact .inr (a.free z)
 obtain⟨S,m,h1,h2,h3⟩:=x.ex
 refine⟨acc,S,m,rfl,h1,by have:=x.few;omega,λl ms hl hlt hms=>?_⟩
 have:ms=aP kb:=vY hlt λj=>(hms j).symm.trans (h2 j)
 subst this
 exact (k.after gf).newL gf.ok hl (jZ _) qb
theorem a4T (elt target iter target2 iter2 : Expr) (ifs ifs2 : List Expr) (scope : Scope) (pos : Pos) (it acc : Value) (env : Env) :
   compTurn (.SetComp elt [⟨target,iter,ifs,0⟩,⟨target2,iter2,ifs2,0⟩] scope pos) 0 it acc env=fO iter.pos target ifs (do let x <- eval iter2 env;standAt iter2.pos;let x <- foldedSetIterable iter2 env x;let _ <- runOwn (.compStart (.SetComp elt [⟨target,iter,ifs,0⟩,⟨target2,iter2,ifs2,0⟩] scope pos) 1 (<- holding [x] (pyIter x)) acc env) env) (.SetComp elt [⟨target,iter,ifs,0⟩,⟨target2,iter2,ifs2,0⟩] scope pos) 0 it acc env:=by
  have e:compTurn (.SetComp elt [⟨target,iter,ifs,0⟩,⟨target2,iter2,ifs2,0⟩] scope pos) 0 it acc env=(do
      standAt iter.pos
      match <- pyNext it with
      |none=>pure (.done .next)
      | some v=>
        letOwnedTupleGo target it v
        assign target env v
        let mut ok:=true
        for c in ifs do
          if ok then ok <- isTrue c env (eval c env)
        if ok then
          let x <- eval iter2 env
          standAt iter2.pos
          let x <- foldedSetIterable iter2 env x
          let _ <- runOwn (.compStart (.SetComp elt [⟨target,iter,ifs,0⟩,⟨target2,iter2,ifs2,0⟩] scope pos) 1 (<- holding [x] (pyIter x)) acc env) env
        again (.compLoop (.SetComp elt [⟨target,iter,ifs,0⟩,⟨target2,iter2,ifs2,0⟩] scope pos) 0 it acc env)):=by rfl
  rw[e]
  unfold fO
  refine a7d λ_=>?_
  refine a7d λo=>?_
  cases o with
  |none=>rfl
  | some v=>
    refine a7d λ_=>?_
    refine a7d λ_=>?_
    refine a7d λok=>?_
    cases ok with
    |false=>rfl
    | true=>
      simp only[a6q,bind_assoc,pure_bind]
section
variable{X:Cx}{elt target iter target2 iter2:Expr}{ifs ifs2:List Expr}{scope:Scope}{pos p cpos:Pos}{N':List Str}{n:Nat}{cap:List Nat}{md mb m2:List Md}{el eli:El}{s:n9}{g:iU}{tt:fD}{a:DM}
theorem G3 {cp:bC->bC} (hcp:∀env,cp env=qT n cap env) (hc:X.calm=true) (S:LcOk X.N X.env.scope scope N' n cap) (hle:jG mb (fZ n cap md)=true) (hle2:jG m2 (fZ n cap md)=true)
  (hg0:X.env.scope.names.lookup ("sorted" : Str)=some .globalImplicit) (hm0:X.mg "sorted"=none) (hi:VI X md eli target iter s) (hg:∀C s H fp,VG (b6 X N' scope C s H fp) (fZ n cap md) mb eli target g)
  (ht:∀C s H fp,VTs (b6 X N' scope C s H fp) mb ifs tt)
  (ha:∀C s H fp,VB (b6 X N' scope C s H fp) mb m2 (λacc=>do let x <- eval iter2 (b6 X N' scope C s H fp).env;standAt iter2.pos;let x <- foldedSetIterable iter2 (b6 X N' scope C s H fp).env x;let _ <- runOwn (.compStart (.SetComp elt [⟨target,iter,ifs,0⟩,⟨target2,iter2,ifs2,0⟩] scope pos) 1 (<- holding [x] (pyIter x)) (.ref acc) (b6 X N' scope C s H fp).env) (b6 X N' scope C s H fp).env) a)
  (hs:∀x,foldedSetIterable iter X.env x=pure x:=by intro _;rfl)
  (he:starEach [.SetComp elt [⟨target,iter,ifs,0⟩,⟨target2,iter2,ifs2,0⟩] scope pos] X.env=(false,eval (.SetComp elt [⟨target,iter,ifs,0⟩,⟨target2,iter2,ifs2,0⟩] scope pos) X.env)::starEach [] X.env:=by rfl) (hpl:(backTo cpos (starEach [] X.env)).any (·.1)=false:=by rfl) :
  VE X md (.Call (.Name "sorted" p) [.SetComp elt [⟨target,iter,ifs,0⟩,⟨target2,iter2,ifs2,0⟩] scope pos] [] cpos) (.o .fl) (mV s g tt a cp):=
 ⟨(jX (qF hc) hg0 hm0 jP (eJ (a3W (act:=λacc env=>do let x <- eval iter2 env;standAt iter2.pos;let x <- foldedSetIterable iter2 env x;let _ <- runOwn (.compStart (.SetComp elt [⟨target,iter,ifs,0⟩,⟨target2,iter2,ifs2,0⟩] scope pos) 1 (<- holding [x] (pyIter x)) acc env) env) hc S (λit acc env=>a4T ..) hi.h (λC s H fp=>(hg C s H fp).h) (λC s H fp=>(ht C s H fp).h) (λacc C s H fp=>(ha C s H fp).h acc) hs) iN he) (by decide) (by decide) he hpl).imp λσ H Q h=>WB hcp hle hle2 h⟩
end
section
variable{X:Cx}{pins:List (Ac×Obj)}{σ:St}{H:Hp}{s:Ab}{h':Heap}
theorem Inv.turnL {t':Nat} {fp:List Addr} {a:Addr} {o:HO} (I:Inv X pins σ H s) (hf:∀b∈fp,jD X pins H b) (k:∀b u,b∉fp->s.heap.get? b=some u->h'.get? b=some u) (hp:s.heap.objs.size<=a) (new:c5 X.prog X.w (bF H a o) h' a o) :
  Inv X pins σ (bF H a o) {s with heap:=h',toks:=t'}:=by
 have hn:H a=none:=I.hok.fresh hp
 have na:∀b u,s.heap.get? b=some u->b≠a:=λb u e=>a0w (a1d (a0n e) hp)
 have nt:∀b u,H b=some u->b≠a:=λb u e z=>by rw[z,hn] at e;cases e
 have nf:∀b u,H b=some u->b∉fp:=λb u e z=>by rw[(hf b z).1] at e;cases e
 refine I.step (g':=s.gens) (d':=s.drawn) (ch:=fp) (λb hb=>?_) (λb o _ _ hc e _=>k b o hc e) (λb o _ _ hc e _=>⟨o.slots,k b o hc e⟩) (λb u _ e n=>by rw[aH (na b u e)];exact n)
  (λb o hc e=>⟨o,k b o hc e⟩) (λb _ e=>by rw[aH (nt b _ e)];exact e) (λb _ _ e=>by rw[aH (nt b _ e)];exact e) (λb e=>by rw[aH (nt b _ e)];exact e) (λm hm=>?_) (λb u e=>?_) I.bare
 ·obtain⟨f0,f1,f2,f3,f4,f5⟩:=hf b hb
  exact⟨f3,f1,f4,f5⟩
 ·obtain⟨o,es,ep,ho,r⟩:=hm
  exact⟨o,es,ep,k _ o (λz=>(hf _ z).2.1 rfl) ho,r⟩
 ·by_cases hb:b=a
  ·subst hb;rw[b5] at e;cases e;exact new
  ·rw[aH hb] at e
   refine (I.hok b u e).stay (λc v hc q=>k c v ?_ q) (λc q=>by rw[aH (nt c _ q)];exact q) λc xs q=>by rw[aH (nt c _ q)];exact q
   rcases hc with z|z
   ·rw[z];exact nf b u e
   ·exact nf c _ z
end
def a5F(K:PySem.W.Frag)(a:Addr):It:=
 ⟨λi H=>∃xs x,d9 K H a xs/\xs[i]? =some x,λi H v H'=>∃t x,H t=none/\v= .ref t/\H'=bF H t (.tup [.int i,x])/\∀xs,d9 K H a xs->xs[i]? =some x,λi H=>∃xs,d9 K H a xs/\xs.length<=i⟩
theorem LQ {P:Program} {w:World} {K:PySem.W.Frag} {elts:List Expr} {x1} {pos:Pos} (a it e:Addr) (hne:e≠it) :
  Turn P w K (.Tuple elts x1 pos) (a5F K a) [e,it] e (λi h=>(∃old,IsEnum h e it i old)/\h.IsListIter it a i) where
 mem:=by simp
 obj:=λi h st b hb=>by
  obtain⟨⟨old,he⟩,o,q,c,d⟩:=st
  simp only[a0q,a1e,a3j] at hb
  rcases hb with rfl|rfl
  ·exact⟨_,he,λv z=>by cases z⟩
  ·exact⟨o,q,λv z=>by rw[d] at z;cases z⟩
 keep:=λi h h' st k=>by
  obtain⟨⟨old,he⟩,hi⟩:=st
  exact⟨⟨old,k e (by simp) _ he⟩,hi.at λo q=>k it (by simp) o q⟩
 item:=by
  intro X hP hw hK hc i pins s σ H E I hf st hg
  subst hP hw hK
  obtain⟨⟨old,he⟩,hi⟩:=st
  obtain⟨xs,x,hq,hx⟩:=hg
  obtain⟨its,rv,p,hz⟩:=I.list hq
  obtain⟨u,hu,ru⟩:=rv.get hx
  refine wpAny_pyNext_enum_item he hi p.isList (x:=u) (by simpa using hu) hne λh1 heo hi1 ht hsz hk=>?_
  refine⟨.ref s.heap.objs.size,rfl,wpAny_letOwnedTupleGo_enum (s:={s with heap:=h1,toks:=s.toks+1}) heo λh2 he2 sb=>?_⟩
  have hes:s.heap.objs.size≠e:=a5h (a0n he)
  have hfr:H s.heap.objs.size=none:=I.hok.fresh (a0l _)
  have hf2:∀b∈[e,it],(bF H s.heap.objs.size (.tup [.int i,x])) b=none:=λb hb=>by
   have hb':b≠s.heap.objs.size:=by
    obtain⟨o,q,_⟩:=hi
    simp only[a0q,a1e,a3j] at hb
    rcases hb with rfl|rfl
    ·exact hes.symm
    ·exact a0w (a0n q)
   rw[aH hb'];exact (hf b hb).1
  refine⟨.ref s.heap.objs.size,bF H s.heap.objs.size (.tup [.int i,x]),I.turnL (t':=s.toks+1) hf (λb v hb q=>?_) (a0l _) ?_,rfl,⟨_,x,hfr,rfl,rfl,λys hy=>by rw[I.list_inj hy hq];exact hx⟩,⟨⟨_,he2⟩,?_⟩,hf2⟩
  ·simp only[a0q,a1e,a3j,not_or] at hb
   exact (sb.2 b hb.1).trans (hk b v hb.1 hb.2 q)
  ·exact⟨(by decide:2<=sizeLine),[.int i s.toks,u],.cons ⟨_,rfl⟩ (.cons ru .nil),_,(sb.2 _ hes).trans ht,rfl,_,rfl⟩
  ·exact hi1.at λo q=>(sb.2 it (a3b hne)).trans q
 done:=by
  intro X hP hw hK hc i pins s σ H E I hf st hg
  subst hP hw hK
  obtain⟨⟨old,he⟩,hi⟩:=st
  obtain⟨xs,hq,hx⟩:=hg
  obtain⟨its,rv,p,hz⟩:=I.list hq
  obtain⟨f0,f1,f2,f3,f4,f5⟩:=hf it (by simp)
  have hl:=rv.length
  exact wpAny_pyNext_enum_end (I.ok.hd hc) he hi p.isList (by simp;omega) λh' eb=>⟨rfl,I.turned (t':=s.toks) (λb o hb e=>eb b o hb e) f0 f1 f3 f4 f5⟩
 self:=λ_ _ _ _ _ st h=>by
  obtain⟨⟨old,he⟩,hi⟩:=st
  exact wpAny_pyIter_enum he h
def a37(K:Aa)(ta:TA):TI:=λσ H R=>ta σ H λvs H1=>∃a,vs=[.ref a]/\(∃xs,d9 K H1 a xs)/\R (a5F K a) H1
theorem JJ:bootBuiltins "enumerate"=some (.type "enumerate"):=by rfl
theorem VC {X:Cx} {a:Expr} {ta:TA} {elts:List Expr} {x1} {tpos p pos:Pos} (hg:Gl X "enumerate") (hm:X.mg "enumerate"=none) (ha:PA X [a] ta) (hs:starEach [a] X.env=[(false,eval a X.env)]:=by rfl) :
  PI X (.Tuple elts x1 tpos) (.Call (.Name "enumerate" p) [a] [] pos) (a37 X.K ta):=by
 intro pins s σ H R I h
 refine Call_ (qJ I hg hm JJ (a4f (cO (ha pos pins s σ H _ I h) λus s1 ⟨vs,H1,I1,r1,q1⟩=>?_) hs rfl))
 obtain⟨l,e,⟨xs,hq⟩,q⟩:=q1
 subst e
 cases r1 with
 | cons r rr=>
  cases rr
  cases r
  obtain⟨its,rv,p,hz⟩:=I1.list hq
  refine call_enumerate_list p.isList λh' he hi hsz hk=>?_
  refine wpAny_pyIter_enum he ?_
  have I2:Inv X pins σ H1 {s1 with heap:=h'}:=I1.kept (t':=s1.toks) hk
  refine⟨s1.heap.objs.size+1,[s1.heap.objs.size+1,s1.heap.objs.size],_,_,H1,rfl,I2,LQ l s1.heap.objs.size (s1.heap.objs.size+1) (Nat.succ_ne_self _),⟨⟨_,he⟩,hi⟩,λb hb=>?_,q⟩
  have hb':s1.heap.objs.size<=b:=by
   simp only[a0q,a1e,a3j] at hb
   rcases hb with rfl|rfl<;>omega
  exact I1.fpOk hb' (I1.hok.fresh hb')
def rL(xs:List PV):List PV:=xs.zipIdx.map λz=>.tup [.int (z.2:Nat),z.1]
theorem fX(xs:List PV):(rL xs).length=xs.length:=by simp[rL]
theorem lX{xs:List PV}{i:Nat}:(rL xs)[i]? =(xs[i]?).map λx=>.tup [.int i,x]:=by
 rw[rL,a0g,List.getElem?_zipIdx]
 cases xs[i]? <;>simp
def kP(a:aY):n9:=λenv Q=>a env λx=>match x with
 |.lst xs=>Q (rL xs)
 |_=>False
section
variable{X:Cx}{md:List Md}{el:El}{a b e tg:Expr}{pa pb pe:aY}{p pos:Pos}
theorem R8 {K:PySem.W.Frag} {B:Hp} {W:Wd} {H:Hp} {l:Addr} {vs:List V} {xs:List PV} (hF:W.F l) (e:H l=some (.lst vs)) (r:Reps (el.G W.F B) H vs xs):Src (a5F K l) el B W H (rL xs) where
 go:=λi W2 H2 x hi=>by
  rw[fX] at hi
  exact⟨vs,vs[i]'(by rw[r.len];exact hi),d9.of (x.kp l _ hF e),a0a _⟩
 stop:=λW2 H2 x=>⟨vs,d9.of (x.kp l _ hF e),by rw[r.len,fX];exact a0l _⟩
 yld:=λi W2 H2 v H3 x w hi y=>by
  obtain⟨t,u,ht,rfl,rfl,y⟩:=y
  have:=y vs (d9.of (x.kp l _ hF e))
  obtain⟨z,ez,rz⟩:=r.getV this
  have g:Go W2 H2 W2 (bF H2 t (.tup [.int i,u])):=Go.laid w ht
  have r2:=x.rep (G':=el.G W2.F B) (λ_ g=>El.GF g) (λ_ g=>El.up x.lF (λ_ h=>h) g) rz
  have r3:=g.rep w (G':=el.G W2.F B) (λ_ h=>El.nS w h) (λ_ h=>h) r2
  refine⟨g,.tup [.int i,z],by rw[lX,ez];rfl,.tup b5 rfl λj v x e1 e2=>?_⟩
  match j,e1,e2 with
  |0,e1,e2=>cases e1;cases e2;exact .int _
  |1,e1,e2=>cases e1;cases e2;exact r3
theorem tK {elts:List Expr} {x1} {tpos:Pos} (hg:X.env.scope.names.lookup (Str.ofString "enumerate")=some NameKind.globalImplicit) (hm:X.mg "enumerate"=none) (ha:VE X md a (.v el) pa) (hs:starEach [a] X.env=[(false,eval a X.env)]:=by rfl) :
  VI X md el (.Tuple elts x1 tpos) (.Call (.Name "enumerate" p) [a] [] pos) (kP pa):=
 ⟨(VC hg hm (a7 ha aB hs).h hs).imp λσ H R=>by
 rintro⟨env,W0,H0,W,Q,Rr,q,k⟩
 refine⟨env,W0,H0,W,λxs=>match xs with|[.lst zs]=>Q (rL zs)|_=>False,Rr,?_,λxs vs W1 H1 g1 r1 q1=>?_⟩
 ·show pa env _
  unfold kP at q
  refine (iff_of_eq (congrArg (pa env) (funext λx=>?_))).mp q
  cases x<;>rfl
 ·obtain ⟨v,x,rfl,rfl,r⟩:=r1.one
  cases x with
  | lst xs=>
   obtain⟨a,vs,rfl,g,e,rs⟩:=Rep.ofList r
   exact⟨a,rfl,⟨vs,d9.of e⟩,k _ W1 H1 _ g1 (R8 (El.GF g) e rs) q1⟩
  |_=>exact q1.elim⟩
end
section
variable{X:Cx}{elt target iter:Expr}{ifs:List Expr}{scope:Scope}{pos:Pos}{N':List Str}{n:Nat}{cap:List Nat}{wi:TI}{g:TG}{tt:TT}{te:TE}
theorem PQ {x:Str} {pos' pos2:Pos} {gg:TG} (hgx:PG X (.Name x pos') gg) (hsw:swapsWith (.ListComp elt [⟨target,iter,ifs,0⟩] scope pos) (some (.Name x pos')) pos2.line X.env=pure true) (hc:X.calm=true) (S:LcOk X.N X.env.scope scope N' n cap) (hi:PI X target iter wi) (hg:∀C s H fp,PG (b6 X N' scope C s H fp) target g)
    (ht:∀C s H fp,M7 (b6 X N' scope C s H fp) ifs tt) (he:∀C s H fp,PE (b6 X N' scope C s H fp) elt te) (hs:∀x,foldedSetIterable iter X.env x=pure x:=by intro _;rfl) :
    PS X (.Assign [.Name x pos'] (.ListComp elt [⟨target,iter,ifs,0⟩] scope pos) pos2) (DF (a6N wi g tt te n cap) gg):=by
  intro pins s σ H D I h
  have hfree:∀y∈scope.names,y.2= .free->∃c,X.env.cells.lookup y.1=some c:=λy hy e=>I.ok.has y.1 (.inl (S.frees y hy e))
  rw[exec_Assign_Name_used x pos' _ pos2 hsw]
  refine a0b (a3w (a0b ?_))
  rw[arm_evalThenUse_ListComp]
  refine a0b ?_
  refine a4z (use:=some (assign (.Name x pos') X.env)) (Q:=λ_ s'=>wpAny (model X.prog X.w) X.A (pure ()) (λ_ s'=>wpAny (model X.prog X.w) X.A (pure Flow.next) (SP X pins D) X.xe s') X.xe s') rfl hs (kF hfree) S.kind S.names ?_
  refine cO (hi pins s σ H _ I h) λv s1 h1=>cO h1 λitv s2 h2=>?_
  obtain⟨it,fp,tn,J,H2,rfl,I2,T,st2,f2,body⟩:=h2
  refine a1u ?_
  have I3:=I2.lnew (ys:=[]) (its:=[]) (t':=s2.toks) .nil (a3c _)
  have hacc:H2 s2.heap.objs.size=none:=I2.fresh
  obtain⟨W,⟨m0,w0⟩,turn⟩:=body _ hacc
  have hlt:∀b∈fp,b<s2.heap.objs.size:=λb hb=>by
    obtain⟨o,e,_⟩:=T.obj 0 _ st2 b hb
    exact a0n e
  have hf3:∀b∈fp,jD X pins (bF H2 s2.heap.objs.size (.lst [])) b:=λb hb=>
    ⟨by rw[aH (a0w (hlt b hb))];exact (f2 b hb).1,(f2 b hb).2⟩
  refine a5t S.nocell (by intro y hy;cases hy) (λh4 ns4 sb4=>?_) S.kind
  generalize hs3:({s2 with heap:=s2.heap.push {cls:=.type "list",dict:=none,data:=.seq ([]:List Value).toArray} }:Ab)=s3 at*
  have hsz:s2.heap.objs.size<s3.heap.objs.size:=by rw[<- hs3,a3n];exact a3m _
  have k4:∀b o,s3.heap.get? b=some o->h4.get? b=some o:=λb o e=>(sb4.2 b (a0w (a0n e))).trans (a0f _ e)
  generalize hH3:bF H2 s2.heap.objs.size (.lst [])=H3 at*
  have I3':Inv X pins σ H3 s3:=I3
  have IY:=oQ (tk:=s3.toks+([]:List (Str×Value)).length) S I3' hf3 (λb hb=>a2t (hlt b hb) hsz) ns4 k4
  have fpY:∀H':Hp,(∀b∈fp,H' b=none)->∀b∈fp,jD (b6 X N' scope s3.heap.objs.size s3 H3 fp) [] H' b:=λH' hn b hb=>by
    obtain⟨_,f1,f2',f3,f4,f5⟩:=hf3 b hb
    refine⟨hn b hb,a0w (a2t (hlt b hb) hsz),λz=>?_,.inl hb,λx c e=>f4 x c (lW hfree e),λp hp=>absurd hp (by simp[b6])⟩
    rcases a0q.mp (I3'.stkSub b z) with z|z
    · exact f1 z
    · exact f2' z
  have tn4:tn 0 h4:=T.keep 0 _ _ st2 λb hb o e=>k4 b o (by rw[<- hs3];exact a0f _ e)
  have loop:codeAny (model X.prog X.w) X.A (.compLoop (.ListComp elt [⟨target,iter,ifs,0⟩] scope pos) 0 (.ref it) (.ref s2.heap.objs.size) (b6 X N' scope s3.heap.objs.size s3 H3 fp).env)
      (compPost (model X.prog X.w) X.A X.xe (some (assign (.Name x pos') X.env)) (λ_ s'=>wpAny (model X.prog X.w) X.A (pure ()) (λ_ s'=>wpAny (model X.prog X.w) X.A (pure Flow.next) (SP X pins D) X.xe s') X.xe s') (.ref s2.heap.objs.size) s3.heap.objs.size) {s3 with heap:=h4,toks:=s3.toks+([]:List (Str×Value)).length}:=by
    refine HJ (λk s'=>∃i σ' H',Inv (b6 X N' scope s3.heap.objs.size s3 H3 fp) [] σ' H' s'/\tn i s'.heap/\(∀b∈fp,H' b=none)/\W i k σ' H') ?_ m0 ⟨0,_,_,IY,tn4,λb hb=>(hf3 b hb).1,w0⟩
    rintro k s5 ⟨i,σ5,H5,I5,st5,fr5,w5⟩
    rcases turn i k σ5 H5 w5 with ⟨stop,qn⟩|⟨go,Nn,hN,step⟩
    · refine a1l (T.done (b6 X N' scope s3.heap.objs.size s3 H3 fp) rfl rfl rfl hc i [] s5 σ5 H5 (λ_ _=>False) I5 (fpY H5 fr5) st5 stop) (λr s6 hr=>?_) (λ_ _ z=>z)
      obtain⟨rfl,I6⟩:=hr
      obtain⟨m,hn,_⟩:=I6.loc
      have hs':Heap.SameBut s3.heap.objs.size s6.heap s6.heap:=⟨rfl,λ_ _=>rfl⟩
      have IX:Inv X pins σ H5 s6:=by
        have ub:=I6.base
        have ne:∀b o,s3.heap.get? b=some o->b≠s3.heap.objs.size:=λb o e=>a0w (a0n e)
        refine I3'.call' (s':=s6) (ch:=fp) I6.os ⟨λb o e z1 z2 z3=>(hs'.2 b (ne b o e)).trans (ub.keep b o e z1 z2 z3),λb o e z1 z2 z3=>?_,ub.free,λb o e z=>?_,ub.tups,ub.frzs,ub.tbls⟩ (tF I6.hok I6.free hs') I6.bare λb hb=>⟨(hf3 b hb).2.2.2.1,(hf3 b hb).2.1,(hf3 b hb).2.2.2.2.1,(hf3 b hb).2.2.2.2.2⟩
        · obtain⟨sl,e'⟩:=ub.slot b o e z1 z2 z3
          exact⟨sl,(hs'.2 b (ne b o e)).trans e'⟩
        · obtain⟨o',e'⟩:=ub.there b o e z
          exact⟨o',(hs'.2 b (ne b o e)).trans e'⟩
      have fC:jD X pins H5 s3.heap.objs.size:=I3'.fpOk (a0l _) I6.free
      have IXp := IX.pinned (fp := [s3.heap.objs.size]) (fun b hb => by have e : b=s3.heap.objs.size:=by simpa using hb
                                                                        subst e;exact fC) (λb hb=>by
        have e:b=s3.heap.objs.size:=by simpa using hb
        subst e
        obtain⟨o,es,ep,ho,hd,_⟩:=hn
        exact⟨o,ho,λv z=>by rw[hd] at z;cases z⟩)
      show wpAny _ _ (assign (.Name x pos') X.env (.ref s2.heap.objs.size)) _ _ s6
      refine cO (hgx _ s6 σ H5 (.ref s2.heap.objs.size) (.ref s2.heap.objs.size) _ IXp rfl qn) λ_ s7 h7=>?_
      obtain⟨σ7,H7,I7,q7⟩:=h7
      obtain⟨o,es,ep,ho,hd⟩:=id hn
      have z:=I7.pin (s3.heap.objs.size,o) (a0z _ (a0z _ (eN (by simp) ho)))
      refine⟨m,⟨o,es,ep,z.1,hd⟩,λh' hs'=>a0e (a0e ⟨σ7,H7,?_,q7⟩)⟩
      obtain⟨f0,f1,f2,f3,f4,f5⟩:=fC
      exact I7.unpinned.turned (t':=s7.toks) (it:=s3.heap.objs.size) (λb o hb e=>(hs'.2 b hb).trans e) z.2.1 f1 f3 f4 f5
    · refine a1l (T.item (b6 X N' scope s3.heap.objs.size s3 H3 fp) rfl rfl rfl hc i [] s5 σ5 H5 (λ_ _=>False) I5 (fpY H5 fr5) st5 go) (λr s6 h6=>?_) (λ_ _ z=>z)
      obtain⟨u,rfl,h6⟩:=h6
      refine a1l h6 (λ_ s7 h7=>?_) (λ_ _ z=>z)
      obtain⟨x,H7,I7,r7,y7,st7,fr7⟩:=h7
      have I7':=I7.pinned (fpY H7 fr7) (T.obj _ _ st7)
      have again:∀ {σ':St} {H':Hp} {s':Shared},Inv (b6 X N' scope s3.heap.objs.size s3 H3 fp) ([]++o4 fp s7.heap) σ' H' s'->Nn σ' H'->
          ∃m,m<k/\∃i σ' H',Inv (b6 X N' scope s3.heap.objs.size s3 H3 fp) [] σ' H' s'/\tn i s'.heap/\(∀b∈fp,H' b=none)/\W i m σ' H':=fun {σ' H' s'} J7 n7=>by
        obtain⟨m',hm,w7⟩:=hN σ' H' n7
        have pin:∀b∈fp,∀o,s7.heap.get? b=some o->s'.heap.get? b=some o/\H' b=none:=λb hb o e=>by
          have z:=J7.pin (b,o) (a0z _ (a0z _ (eN hb e)))
          exact⟨z.1,z.2.1⟩
        refine⟨m',hm,i+1,σ',H',J7.unpinned,T.keep _ _ _ st7 λb hb o e=>(pin b hb o e).1,λb hb=>?_,w7⟩
        obtain⟨o,e,_⟩:=T.obj _ _ st7 b hb
        exact (pin b hb o e).2
      refine cO (hg _ _ _ _ _ s7 σ5 H7 x u _ I7' r7 (step x H7 y7)) λ_ s8 h8=>?_
      obtain⟨σ8,H8,I8,q8⟩:=h8
      refine cO (ht _ _ _ _ _ s8 σ8 H8 _ I8 q8) λok s9 h9=>?_
      obtain⟨H9,I9,q9⟩:=h9
      cases ok with
      | false=>
        rw[if_neg a0i] at q9 ⊢
        exact again I9 q9
      | true=>
        rw[if_pos rfl] at q9 ⊢
        refine cO (he _ _ _ _ _ s9 σ8 H9 _ I9 q9) λxv s10 h10=>?_
        obtain⟨v',H10,I10,r10,ys,ha,hl,q10⟩:=h10
        refine cO (qK (X:=b6 X N' scope s3.heap.objs.size s3 H3 fp) _ s10 σ8 H10 (.ref s2.heap.objs.size) [v'] (.ref s2.heap.objs.size) [xv] (λ_ H'=>Nn σ8 H') I10 rfl (.cons r10 .nil) ⟨_,ys,v',rfl,rfl,ha,hl,q10⟩) λ_ s11 h11=>?_
        obtain⟨_,H11,I11,_,q11⟩:=h11
        exact again I11 q11
  exact codeAny_compStart_list loop (T.self _ 0 _ _ _ tn4 loop)
end
section
variable{X:Cx}{elt target iter:Expr}{ifs:List Expr}{scope:Scope}{pos pos2 pos':Pos}{N':List Str}{n i:Nat}{x:Str}{cap:List Nat}{md mb lm:List Md}{rm:Md}{el eli:El}{s:n9}{g:iU}{tt:fD}{te:aY}
theorem S1 {cp:bC->bC} (hN:X.N.Nodup) (hix:X.N[i]? =some x) (hx:JA X.env.scope x) (hsw:swapsWith (.ListComp elt [⟨target,iter,ifs,0⟩] scope pos) (some (.Name x pos')) pos2.line X.env=pure true) (hf:X.fn x=true\/X.env.scope.names.lookup x=some .local)
  (hm:fE (md.set i (.o el))=true) (hl:i<md.length)
  (hcp:∀env,cp env=qT n cap env) (hc:X.calm=true) (S:LcOk X.N X.env.scope scope N' n cap) (hle:jG mb (fZ n cap md)=true) (hbl:l5 mb=true) (hi:VI X md eli target iter s) (hg:∀C s H fp,VG (b6 X N' scope C s H fp) (fZ n cap md) mb eli target g)
  (ht:∀C s H fp,VTs (b6 X N' scope C s H fp) mb ifs tt) (he:∀C s H fp,VE (b6 X N' scope C s H fp) mb elt (.v el) te) (hs:∀x,foldedSetIterable iter X.env x=pure x:=by intro _;rfl) :
  VS X md (md.set i (.o el)) lm rm (.Assign [.Name x pos'] (.ListComp elt [⟨target,iter,ifs,0⟩] scope pos) pos2) (bK i (qS s g tt te cp)):=
 ⟨(PQ (tI hN hix hx hf) hsw hc S hi.h (λC s H fp=>(hg C s H fp).h) (λC s H fp=>(ht C s H fp).h) (λC s H fp=>(he C s H fp).h) hs).imp λD σ H=>by
 rintro⟨env,W0,H0,W,E,R,q,l⟩
 refine HI (el:=el) hcp hle hbl ⟨env,W0,H0,W,_,R,q,λx v W1 H1 g1 r1 q1=>?_⟩
 rw[e8] at q1
 exact l.nx _ W1 _ H1 (R.set g1 r1 hm hl) (g1.ex R.ok) q1⟩
end
def L9(i j:Nat)(pa:lU):bO:=λE env=>pa env λxs=>match xs with
 |[x,y]=>E.nx (eU (eU env i (some x)) j (some y))
 |_=>False
def a6T(r:V->Hp->VK->Prop)(te tk:TE):TE:=λσ H Q=>te σ H λx H1=>tk σ H1 λk H2=>k= .int (-1)/\r x H2 Q
def a49(K:Aa):V->Hp->VK->Prop:=λx H Q=>∃a xs,x= .ref a/\d9 K H a xs/\∀p,H p=none->Q (.ref p) (bF H p (.lst xs.reverse))
theorem AO {vs:List V} {us:List Value} (r:b9 vs us):b9 vs.reverse us.reverse:=by
 induction r with
 |nil=>exact .nil
 | cons h r ih=>
  rw[List.reverse_cons,List.reverse_cons]
  exact ih.append (.cons h .nil)
theorem a0K{X:Cx}{e k:Expr}{te tk:TE}{pos p2:Pos}(he:PE X e te)(hk:PE X k tk):PE X (.Subscript e (.Slice none none (some k) p2) pos) (a6T (a49 X.K) te tk):=by
 intro pins s σ H Q I h
 refine Subscript_ (cO (he pins s σ H _ I h) λv s1 ⟨x,H1,I1,r1,q1⟩=>?_)
 refine wpAny_Slice ?_
 rw[evalPart_none]
 refine a0e (a0e ?_)
 rw[evalPart_some]
 refine cO (hk pins s1 σ H1 _ I1 q1) λvk s3 ⟨y,H3,I3,r3,q3⟩=>?_
 obtain⟨rfl,a,xs,rfl,hx,q⟩:=q3
 cases r1
 obtain⟨t,rfl⟩:=r3
 have I4:Inv X pins σ H3 {s3 with heap:=s3.heap.push {cls:=.type "slice",data:=.fields #[.none,.none,.int (-1) t]} }:=I3.kept (t':=s3.toks) λb ob q=>a0f _ q
 obtain⟨its,r,ht,hz⟩:=I4.list hx
 have hlen:=r.length
 show wpAny (model X.prog X.w) X.A (subscriptTail e (.Slice none none (some k) p2) (.ref a) (.ref s3.heap.objs.size)) (EP X pins σ Q) X.xe {s3 with heap:=s3.heap.push {cls:=.type "slice",data:=.fields #[.none,.none,.int (-1) t]} }
 refine tail_any (ops:=[.ref a,.ref s3.heap.objs.size]) ht.isList.typeIs slot_list_getitem.lookup ?_ (by with_unfolding_all rfl)
 refine wpAny_getItem_list_slice (st:=some (-1)) ht.isList (Heap.IsSliceOf.new ..) .none .none (.int (-1) t) (by decide) ?_ (by rw[a0t]<;>omega)
 rw[PySem.W.krv_pick]
 refine⟨.ref _,_,I4.laid (t':=s3.toks) (o:=.lst xs.reverse) (λb ob q=>a0f _ q) (a0l _) ?_,rfl,q _ (I4.hok.fresh (a0l _))⟩
 exact⟨by rw[a4q];exact hz,_,0,AO r,a1b _ rfl⟩
def P7(a k:aY):aY:=λenv Q=>a env λx=>k env λy=>match x,y with
 |.lst xs,.int i=>i=-1/\Q (.lst xs.reverse)
 |_,_=>False
theorem Reps.rev{G:Addr->Prop}{H:Hp}{vs:List V}{xs:List PV}(r:Reps G H vs xs):Reps G H vs.reverse xs.reverse:=by
 refine⟨by rw[a4q,a4q];exact r.len,λi v x e1 e2=>?_⟩
 have hi:=(a0j.mp e2).1
 rw[a4q] at hi
 rw[List.getElem?_reverse hi] at e2
 rw[List.getElem?_reverse (by rw[r.len];exact hi),r.len] at e1
 exact r.at_ _ _ _ e1 e2
theorem a21 {X:Cx} {md:List Md} {e k:Expr} {pe pk:aY} {el:El} {pos p2:Pos} (he:VE X md e (.p el) pe) (hk:VE X md k .bw pk):VE X md (.Subscript e (.Slice none none (some k) p2) pos) (.o el) (P7 pe pk):=
 ⟨(a0K he.h hk.h).imp λσ H K=>by
  rintro⟨env,W0,H0,W,Q,R,q,kk⟩
  refine⟨env,W0,H0,W,_,R,q,λx v W1 H1 g1 r1 q1=>⟨env,W0,H0,W1,_,R.step g1,q1,λy u W2 H2 g2 r2 q2=>?_⟩⟩
  have k2:=kk.after (g1.trans g2)
  have r1':RepP (el.G W2.F H0) W2.S H2 v x:=ResE.go (m:=.p el) r1 g1.ok g2
  cases x with
  | lst xs=>cases y with
   | int n=>
    obtain⟨a,vs,rfl,e,rs⟩:=r1'.ofList
    have hu:=Rep.ofInt r2
    subst hu
    obtain⟨rfl,q2⟩:=q2
    exact⟨rfl,a,vs,rfl,d9.of e,λp hp=>k2.newL g2.ok hp rs.rev q2⟩
   |_=>exact q2.elim
  |_=>exact q2.elim⟩
section
variable{κ:Type}[DecidableEq κ]
def pR(kvs:List (κ×V))(k:κ):Option V:=(kvs.find? λkv=>decide (kv.1=k)).map (·.2)
def o5(kvs:List (κ×V))(k:κ)(v:V):List (κ×V):=
 if (kvs.any λkv=>decide (kv.1=k))=true then kvs.map (λkv=>if kv.1=k then (kv.1,v) else kv) else kvs++[(k,v)]
def u6(kvs:List (κ×V))(k:κ):List (κ×V):=kvs.filter λkv=>decide (kv.1≠k)
theorem pT{p:κ×V}{r:List (κ×V)}{k:κ}(e:p.1=k):pR (p::r) k=some p.2:=by simp[pR,a2p,e]
theorem pS{p:κ×V}{r:List (κ×V)}{k:κ}(e:¬p.1=k):pR (p::r) k=pR r k:=by simp[pR,a2p,e]
theorem DH (k:κ):∀kvs:List (κ×V),(kvs.any λkv=>decide (kv.1=k))=(pR kvs k).isSome
 |[]=>rfl
 | p::r=>by
  rw[a5m]
  by_cases e:p.1=k
  ·simp only[pT e,a1v e,Bool.true_or,Option.isSome_some]
  ·rw[pS e,a1c e,Bool.false_or];exact DH k r
theorem m4(kvs:List (κ×V))(k:κ)(v:V):(o5 kvs k v).length<=kvs.length+1:=by
 unfold o5
 split
 ·rw[a0d];omega
 ·rw[a1r,a2c,List.length_nil];omega
theorem sJ.isSome_eq {o:Option V} {u:Option Value} (r:sJ o u):o.isSome=u.isSome:=by
 cases o with
 | none=>cases u with
  |none=>rfl
  |some _=>exact (show False from r).elim
 | some _=>cases u with
  |none=>exact (show False from r).elim
  |some _=>rfl
theorem KV.val {kvs:List (κ×V)} {vs:List (κ×Value)} (r:KV kvs vs) (k:κ):sJ (pR kvs k) (valueAt vs k):=by
 unfold KV at r
 induction r with
 |nil=>exact True.intro
 | @cons p q ps qs h t ih=>
  obtain⟨h1,h2⟩:=h
  by_cases e:p.1=k
  ·have e':q.1=k:=h1.symm.trans e
   have b:valueAt (q::qs) k=some q.2:=by simp[valueAt,a2p,e']
   rw[pT e,b];exact h2
  ·have e':¬q.1=k:=λz=>e (h1.trans z)
   have b:valueAt (q::qs) k=valueAt qs k:=by simp[valueAt,a2p,e']
   rw[pS e,b];exact ih
theorem KV.any{kvs:List (κ×V)}{vs:List (κ×Value)}(r:KV kvs vs)(k:κ):(kvs.any λkv=>decide (kv.1=k))=vs.any λkv=>decide (kv.1=k):=by
 unfold KV at r
 induction r with
 |nil=>rfl
 |cons h t ih=>rw[a5m,a5m,ih,h.1]
theorem KV.repl {kvs:List (κ×V)} {vs:List (κ×Value)} (r:KV kvs vs) (k:κ) {y:V} {u:Value} (ry:bD y u) :
  KV (kvs.map λkv=>if kv.1=k then (kv.1,y) else kv) (vs.map λkv=>if kv.1=k then (kv.1,u) else kv):=by
 unfold KV at r ⊢
 induction r with
 |nil=>exact .nil
 | @cons p q ps qs h t ih=>
  rw[a0h,a0h]
  refine .cons ?_ ih
  obtain⟨h1,h2⟩:=h
  by_cases e:p.1=k
  ·rw[if_pos e,if_pos (h1.symm.trans e)];exact⟨h1,ry⟩
  ·rw[if_neg e,if_neg (λz=>e (h1.trans z))];exact⟨h1,h2⟩
theorem KV.put{kvs:List (κ×V)}{vs:List (κ×Value)}(r:KV kvs vs)(k:κ){y:V}{u:Value}(ry:bD y u):KV (o5 kvs k y) (stored vs k u):=by
 unfold o5 stored
 rw[r.any k]
 by_cases e:(vs.any λkv=>decide (kv.1=k))=true
 ·rw[if_pos e,if_pos e];exact r.repl k ry
 ·rw[if_neg e,if_neg e];exact Paired.snoc r ⟨rfl,ry⟩
theorem KV.drop {kvs:List (κ×V)} {vs:List (κ×Value)} (r:KV kvs vs) (k:κ):KV (u6 kvs k) (without vs k):=by
 unfold KV at r ⊢
 unfold u6 without
 induction r with
 |nil=>exact .nil
 | @cons p q ps qs h t ih=>
  obtain⟨h1,h2⟩:=h
  rw[a1t,a1t]
  by_cases e:p.1=k
  ·have a:¬decide (p.1≠k)=true:=by simp[e]
   have b:¬decide (q.1≠k)=true:=by simp[h1.symm.trans e]
   rw[if_neg a,if_neg b];exact ih
  ·have e':¬q.1=k:=λz=>e (h1.trans z)
   have a:decide (p.1≠k)=true:=by simp[e]
   have b:decide (q.1≠k)=true:=by simp[e']
   rw[if_pos a,if_pos b];exact .cons ⟨h1,h2⟩ ih
theorem KV.length{kvs:List (κ×V)}{vs:List (κ×Value)}(r:KV kvs vs):kvs.length=vs.length:=a5g r
theorem NF(kvs:List (κ×V))(k:κ):(u6 kvs k).length<=kvs.length:=a3i _ _
end
theorem xN{P:Program}{w:World}{k:bA}{u:Value}(r:bD (kV k) u):(bH P w).is k u=true:=by
 cases k with
 |inl i=>obtain⟨t,e⟩:=(show ∃t,u=Value.int i t from r);subst e;exact C0 P w i t
 |inr x=>obtain⟨t,e⟩:=(show ∃t,u=Value.str x t from r);subst e;exact C1 P w x t
theorem xK {P:Program} {w:World}:∀ {ks:List bA} {us:List Value},b9 (ks.map kV) us->ItemsAre (bH P w) ks us
 |[],_,r=>by rw[a5w] at r;cases r;exact .nil
 | k::ks,_,r=>by
  rw[a0h] at r
  cases r with
  |cons h t=>exact .cons (xN h) (xK t)
abbrev KT(H:Hp):List (List bA×V)->List (List bA×Ac×Value)->Prop:=Paired λp q=>p.1=q.1/\H q.2.1=some (.tup (p.1.map kV))/\bD p.2 q.2.2
theorem KT.val {H:Hp} {kvs:List (List bA×V)} {xs:List (List bA×Addr×Value)} (r:KT H kvs xs) (k:List bA):sJ (pR kvs k) ((atKey xs k).map (·.2)):=by
 induction r with
 |nil=>exact True.intro
 | @cons p q ps qs h t ih=>
  obtain⟨h1,_,h2⟩:=h
  by_cases e:p.1=k
  ·have e':q.1=k:=h1.symm.trans e
   have b:atKey (q::qs) k=some q.2:=by simp[atKey,a2p,e']
   rw[pT e,b];exact h2
  ·have e':¬q.1=k:=λz=>e (h1.trans z)
   have b:atKey (q::qs) k=atKey qs k:=by simp[atKey,a2p,e']
   rw[pS e,b];exact ih
theorem KT.repl {H:Hp} {kvs:List (List bA×V)} {xs:List (List bA×Addr×Value)} (r:KT H kvs xs) (k:List bA) {y:V} {u:Value} (ry:bD y u) :
  KT H (kvs.map λkv=>if kv.1=k then (kv.1,y) else kv) (xs.map (putAt k u)):=by
 induction r with
 |nil=>exact .nil
 | @cons p q ps qs h t ih=>
  rw[a0h,a0h]
  refine .cons ?_ ih
  obtain⟨h1,h2,h3⟩:=h
  unfold putAt
  by_cases e:p.1=k
  ·rw[if_pos e,if_pos (h1.symm.trans e)];exact⟨h1,h2,ry⟩
  ·rw[if_neg e,if_neg (λz=>e (h1.trans z))];exact⟨h1,h2,h3⟩
theorem KT.put {H:Hp} {kvs:List (List bA×V)} {xs:List (List bA×Addr×Value)} (r:KT H kvs xs) (k:List bA) {b:Addr} {y:V} {u:Value} (hb:H b=some (.tup (k.map kV))) (ry:bD y u) :
  KT H (o5 kvs k y) (storedH xs k b u):=by
 have e:(kvs.any λkv=>decide (kv.1=k))=(atKey xs k).isSome:=by
  rw[DH,(r.val k).isSome_eq,Option.isSome_map]
 unfold o5 storedH
 rw[e]
 by_cases q:(atKey xs k).isSome=true
 ·rw[if_pos q,if_pos q];exact r.repl k ry
 ·rw[if_neg q,if_neg q];exact Paired.snoc r ⟨rfl,hb,ry⟩
theorem KT.keeps{H H':Hp}{kvs:List (List bA×V)}{xs:List (List bA×Addr×Value)}(r:KT H kvs xs)(ht:∀b ys,H b=some (.tup ys)->H' b=some (.tup ys)):KT H' kvs xs:=
 Paired.mapP r λ_ _ z=>⟨z.1,ht _ _ z.2.1,z.2.2⟩
section
variable{P:Program}{w:World}{H:Hp}{h:Heap}{a:Ac}
theorem XR{u:HO}(ok:mP P w H h)(e:Rd H a u):c5 P w H h a u:=e.ok ok
theorem GR{kvs:List (bA×V)}(ok:mP P w H h)(e:Rd H a (.dK kvs)):kvs.length<=sizeLine/\(a==sysModules)=false/\∃vs,KV kvs vs/\h.DictOf (bH P w) a vs:=
 show c5 P w H h a (.dK kvs) from XR ok e
theorem NE{kvs:List (bA×V)}(ok:mP P w H h)(e:H a=some (.dK kvs)):kvs.length<=sizeLine/\(a==sysModules)=false/\∃vs,KV kvs vs/\h.DictOf (bH P w) a vs:=GR ok (.inl e)
theorem EV{ks:List bA}(ok:mP P w H h)(e:H a=some (.tup (ks.map kV))):(tupleKind (bH P w)).is h ks a:=by
 obtain⟨_,its,r,o,h1,h2,n,h3⟩:=(show c5 P w H h a (.tup (ks.map kV)) from ok a _ e)
 exact⟨o,its.toArray,n,h1,h2,h3,by simpa using xK r⟩
theorem NG {kvs:List (List bA×V)} (ok:mP P w H h) (e:Rd H a (.dT kvs)):kvs.length<=sizeLine/\(a==sysModules)=false/\
  ∃xs,KT H kvs xs/\h.DictOfH (tupleKind (bH P w)) a xs:=by
 obtain⟨z,y,xs,r,o,es,ep,h1,h2,h3,h4,h5⟩:=(show c5 P w H h a (.dT kvs) from XR ok e)
 refine⟨z,y,xs,r,o,es,ep,h1,h2,h3,h4,λx hx=>?_,h5⟩
 have all:∀ {l:List (List bA×V)} {m:List (List bA×Addr×Value)},KT H l m->∀x∈m,(tupleKind (bH P w)).is h x.1 x.2.1:=by
  intro l m q
  induction q with
  |nil=>intro x hx;exact nomatch hx
  | @cons p q ps qs hq t ih=>
   intro x hx
   rcases a0q.mp hx with e|hx
   ·subst e
    exact EV ok (by rw[<- hq.1];exact hq.2.1)
   ·exact ih x hx
 exact all r x hx
theorem a2U {kvs:List (List bA×V)} (ok:mP P w H h) (e:H a=some (.dT kvs)):kvs.length<=sizeLine/\(a==sysModules)=false/\
  ∃xs,KT H kvs xs/\h.DictOfH (tupleKind (bH P w)) a xs:=NG ok (.inl e)
end
def J9(H:Hp)(a:Addr)(y:V)(r:Option V):Prop:=
 (∃kvs k,Rd H a (.dK kvs)/\y=kV k/\r=pR kvs k)\/∃kvs k b,Rd H a (.dT kvs)/\y= .ref b/\H b=some (.tup (k.map kV))/\r=pR kvs k
def ME(H:Hp)(a:Addr)(y v:V)(H':Hp):Prop:=
 (∃kvs k,H a=some (.dK kvs)/\y=kV k/\kvs.length<sizeLine/\H'=bF H a (.dK (o5 kvs k v)))\/
 ∃kvs k b,H a=some (.dT kvs)/\y= .ref b/\H b=some (.tup (k.map kV))/\kvs.length<sizeLine/\H'=bF H a (.dT (o5 kvs k v))
theorem J9.k{H:Hp}{a:Ac}{kvs:List (bA×V)}{k:bA}(e:H a=some (.dK kvs)):J9 H a (kV k) (pR kvs k):=.inl ⟨kvs,k,.inl e,rfl,rfl⟩
theorem ME.k{H:Hp}{a:Ac}{kvs:List (bA×V)}{k:bA}{v:V}(e:H a=some (.dK kvs))(hl:kvs.length<sizeLine):ME H a (kV k) v (bF H a (.dK (o5 kvs k v))):=.inl ⟨kvs,k,e,rfl,hl,rfl⟩
section
variable{X:Cx}{pins:List (Ac×Obj)}{σ:St}{H:Hp}{s:Ab}{a:Ac}{y v:V}{u r:Value}{o:Option V}{A:Around}{E:Value->Ab->Prop}
theorem Inv.big(I:Inv X pins σ H s):sysModules<s.heap.objs.size:=by
 have h:mainGlobals<s.heap.objs.size:=(I.mod.glob.keeps I.bk).lt
 exact a2t (by decide) h
theorem JW {Q:Value->Shared->Prop} (hu:A.units+1<cLine) (I:Inv X pins σ H s) (g:J9 H a y (some v)) (ry:bD y u) (h:∀w' s',Inv X pins σ H s'->bD v w'->Q w' s') :
  wpAny (model X.prog X.w) A (getItem (.ref a) u) Q E s:=by
 rcases g with ⟨kvs,k,e,ey,l⟩|⟨kvs,k,b,e,ey,eb,l⟩
 ·subst ey
  obtain⟨z,hd,vs,rel,dd⟩:=GR I.hok e
  obtain⟨w',hw,rw'⟩:=sJ.some_of (v:=v) (o:=valueAt vs k) (by rw[l];exact rel.val k)
  exact wpAny_getItem_of (xN ry) dd.mapOf hw (h w' _ (I.tok _) rw')
 ·subst ey
  cases (show u=Value.ref b from ry)
  obtain⟨z,hd,xs,rel,dd⟩:=NG I.hok e
  obtain⟨w',hw,rw'⟩:=sJ.some_of (v:=v) (o:=(atKey xs k).map (·.2)) (by rw[l];exact rel.val k)
  obtain⟨p,hp,hp2⟩:=a0r.mp hw
  refine wpAny_getItem_heap (tupleKind_room_in1 hu) (EV I.hok eb) dd hp ?_
  rw[hp2]
  exact h w' _ (I.tok _) rw'
theorem tE {h':Heap} {t':Nat} {ob:HO} (I:Inv X pins σ H s) (mu:a2F (H a)) (hs:Heap.SameBut a s.heap h') (he:∃q,h'.get? a=some q) (new:c5 X.prog X.w (bF H a ob) h' a ob) :
  Inv X pins σ (bF H a ob) {s with heap:=h',toks:=t'}:=
 I.write (x:=a) (e:=a) mu (.inl rfl) (λb q hb z=>(hs.2 b hb).trans z) he new
theorem zL {P:Program} {w:World} {H':Hp} {h':Heap} {kvs:List (bA×V)} {vs:List (bA×Value)} (z:kvs.length<=sizeLine) (hd:(a==sysModules)=false) (rel:KV kvs vs) (dd:h'.DictOf (bH P w) a vs) :
  c5 P w H' h' a (.dK kvs):=⟨z,hd,vs,rel,dd⟩
theorem JX {H':Hp} {Q:Unit->Shared->Prop} (hu:A.units+1<cLine) (I:Inv X pins σ H s) (g:ME H a y v H') (ry:bD y u) (rv:bD v r) (h:∀s',Inv X pins σ H' s'->Q () s') :
  wpAny (model X.prog X.w) A (setItem (.ref a) u r) Q E s:=by
 rcases g with ⟨kvs,k,e,ey,l,eH⟩|⟨kvs,k,b,e,ey,eb,l,eH⟩
 ·subst ey eH
  obtain⟨z,hd,vs,rel,dd⟩:=NE I.hok e
  have hz:vs.length<=sizeLine:=by rw[<- rel.length];exact z
  have hl:(o5 kvs k v).length<=sizeLine:=by have:=m4 kvs k v;omega
  refine wpAny_setItem_pairs (hsz:=hz) (xN ry) dd λh' dd' hs=>h _ ?_
  have he:∃q,h'.get? a=some q:=let ⟨q,_,_,hq,_⟩:=dd';⟨q,hq⟩
  exact tE I (by rw[e];exact True.intro) hs he (zL hl hd (rel.put k rv) dd')
 ·subst ey eH
  cases (show u=Value.ref b from ry)
  obtain⟨z,hd,xs,rel,dd⟩:=a2U I.hok e
  have hz:xs.length<=sizeLine:=by rw[<- a5g rel];exact z
  have hl:(o5 kvs k v).length<=sizeLine:=by have:=m4 kvs k v;omega
  refine wpAny_setItem_heap (hsz:=hz) (tupleKind_room_in1 hu) (EV I.hok eb) dd λh' dd' hs=>h _ ?_
  obtain⟨q,es,ep,hq,h2,h3,h4,_,h5⟩:=dd'
  refine tE I (by rw[e];exact True.intro) hs ⟨q,hq⟩ ⟨hl,hd,_,(rel.put k eb rv).keeps λc ys ec=>?_,q,es,ep,hq,h2,h3,h4,h5⟩
  rw[aH (a3G ec e (λz=>nomatch z))]
  exact ec
end
section
variable{X:Cx}{pins:List (Ac×Obj)}{σ:St}{H:Hp}{s:Ab}{a:Ac}{kvs:List (bA×V)}{k:bA}{u:Value}{A:Around}{E:Value->Ab->Prop}
theorem a2Q {v:V} {more:List Value} {Q:Value->Shared->Prop} (I:Inv X pins σ H s) (e:H a=some (.dK kvs)) (ry:bD (kV k) u) (l:pR kvs k=some v) (hm:more=[]\/∃x,more=[x])
  (h:∀w' s',Inv X pins σ (bF H a (.dK (u6 kvs k))) s'->bD v w'->Q w' s'):wpAny (model X.prog X.w) A (call (.builtin "dict.pop") (.ref a::u::more)) Q E s:=by
 obtain⟨z,hd,vs,rel,dd⟩:=NE I.hok e
 obtain⟨w',hw,rw'⟩:=sJ.some_of (v:=v) (o:=valueAt vs k) (by rw[<- l];exact rel.val k)
 have hp:(keyPart u).isSome=true:=by
  cases k with
  |inl i=>obtain⟨t,q⟩:=(show ∃t,u=Value.int i t from ry);subst q;rfl
  |inr x=>obtain⟨t,q⟩:=(show ∃t,u=Value.str x t from ry);subst q;rfl
 have ha:argsOk "dict.pop" ⟨.ref a::u::more,[]⟩:=by
  rcases hm with q|⟨x,q⟩
  ·subst q;exact PySem.F.args_dict_pop_2 _ _
  ·subst q;exact PySem.F.args_dict_pop_3 _ _ _
 refine call_meetsIn PySem.F.slot_dict_pop dd.typeIs PySem.F.entry_dict_pop ha (meets_dict_pop_there (bH X.prog X.w) a (xN ry) more hm hp)
  ⟨vs,w',dd,by rw[<- rel.length];exact z,hw,λh' dd' hs=>h w' _ ?_ rw'⟩
 have he:∃q,h'.get? a=some q:=let ⟨q,_,_,hq,_⟩:=dd';⟨q,hq⟩
 exact tE I (by rw[e];exact True.intro) hs he (zL (a0y (NF kvs k) z) hd (rel.drop k) dd')
end
def XY(i:Expr):Prop:=∀ov iv,subscripted i false ov iv=operate [ov,iv] (getItem ov iv)
theorem WJ {prog:Program} {w:World} {A:Around} {E:Value->Shared->Prop} {s:Shared} {env:Env} {value slice:Expr} {pos:Pos} {T id:String} {Q:Value->Shared->Prop}
  (hl:typeLookup (.type T) "__getitem__"=pure (some (.builtin id))) (hs:XY slice)
  (h:wpAny (model prog w) A (eval value env) (λo s₁=>wpAny (model prog w) A (eval slice env) (λi s₂=>s₂.TypeIs o T/\wpAny (model prog w) A (getItem o i) Q E s₂) E s₁) E s) :
  wpAny (model prog w) A (eval (.Subscript value slice pos) env) Q E s:=by
 refine Subscript_ (a1l h (λo s₁ h₁=>a1l h₁ (λi s₂ h₂=>?_) λ_ _ x=>x) λ_ _ x=>x)
 obtain⟨hT,h₂⟩:=h₂
 unfold subscriptTail
 refine a0b ?_
 rw[getitemInPython_of_ne hT.not_modules]
 refine a0b (wpAny_specialOf hT hl ?_)
 have fin:wpAny (model prog w) A (subscripted slice false o i) (λr s₃=>wpAny (model prog w) A (letTemporaryGo value o r >>=λ_=>pure r) Q E s₃) E s₂:=by
  rw[hs o i]
  exact wpAny_operating (a1l h₂ (λr s₃ h₃=>a0b (wpAny_letTemporaryGo (a0e h₃))) λ_ _ x=>x)
 first
  |exact a0e (a0b fin)
  |exact a0b (a0e (a0b fin))
  |exact a0b fin
theorem BH {X:Cx} {pins:List (Addr×Obj)} {σ:St} {H:Hp} {s:Shared} {a:Addr} {y:V} {o:Option V} (I:Inv X pins σ H s) (g:J9 H a y o):s.TypeIs (.ref a) "dict":=by
 rcases g with ⟨kvs,k,e,_,_⟩|⟨kvs,k,b,e,_,_,_⟩
 ·obtain⟨_,_,vs,_,dd⟩:=GR I.hok e
  exact dd.typeIs
 ·obtain⟨_,_,xs,_,dd⟩:=NG I.hok e
  exact dd.typeIs
def a4L(td ty:TE):TE:=λσ H Q=>td σ H λx H1=>ty σ H1 λy H2=>∃a v,x= .ref a/\J9 H2 a y (some v)/\Q v H2
def a4G(td ty tv:TE):TS:=λD σ H=>tv σ H λv H1=>td σ H1 λx H2=>ty σ H2 λy H3=>∃a H4,x= .ref a/\ME H3 a y v H4/\D.nx σ H4
section
variable{X:Cx}{o i e value:Expr}{pos pos' tpos:Pos}{td ty tv:TE}
theorem V9(hu:X.A.units+1<cLine)(ho:PE X o td)(hi:PE X i ty)(hs:XY i):PE X (.Subscript o i pos) (a4L td ty):=by
 intro pins s σ H Q I h
 refine WJ PySem.F.slot_dict_getitem.lookup hs (cO (ho pins s σ H _ I h) λu s1 ⟨x,H1,I1,rx,q1⟩=>cO (hi pins s1 σ H1 _ I1 q1) λiv s2 ⟨y,H2,I2,ry,a,v,ex,g,q2⟩=>?_)
 subst ex
 obtain rfl:u=Value.ref a:=rx
 exact⟨BH I2 g,JW hu I2 g ry λw' s3 I3 rw'=>⟨v,H2,I3,rw',q2⟩⟩
theorem VJ (hu:X.A.units+1<cLine) (ho:PE X o td) (hi:PE X i ty) (hv:PE X value tv) (hs:swapsWith value (some (.Subscript o i pos')) pos.line X.env=pure false) :
  PS X (.Assign [.Subscript o i pos'] value pos) (a4G td ty tv):=by
 intro pins s σ H D I h
 refine wpAny_Assign_Subscript (cO (hv pins s σ H _ I h) λr s1 ⟨v,H1,I1,rv,q1⟩=>cO (ho pins s1 σ H1 _ I1 q1) λu s2 ⟨x,H2,I2,rx,q2⟩=>cO (hi pins s2 σ H2 _ I2 q2) λiv s3 ⟨y,H3,I3,ry,a,H4,ex,g,q3⟩=>?_) hs
 subst ex
 obtain rfl:u=Value.ref a:=rx
 exact JX hu I3 g ry rv λs4 I4=>⟨σ,H4,I4,q3⟩
end
theorem BI{P:Program}{w:World}{H:Hp}(h:Heap)(hb:sysModules<h.objs.size):c5 P w H (h.push {cls:=.type "dict",data:=.dict #[]}) h.objs.size (.dK []):=
 ⟨a3c _,a6r.mpr (a3b (a0w hb)),[],.nil,Heap.DictOf.new h⟩
def a1L:TE:=λ_ H Q=>∀p,H p=none->Q (.ref p) (bF H p (.dK []))
section
variable{X:Cx}{pos:Pos}
theorem PJ:PE X (.Dict [] [] pos) a1L:=λpins s σ H Q I h=>
 wpAny_Dict_empty ⟨.ref s.heap.objs.size,_,I.laid (a:=s.heap.objs.size) (o:=.dK []) (t':=s.toks) (λ_ _ q=>a0f _ q) (a0l _) (BI s.heap I.big),rfl,h _ (I.hok.fresh (a0l _))⟩
end
abbrev KJ:PV->Option bA
 |.int i=>some (.inl i)
 |.str s=>some (.inr s)
 |_=>none
def kIn(ks:List bA)(k:bA):Bool:=ks.any λa=>decide (a=k)
def K1(ks:List bA)(k:bA):List bA:=match kIn ks k with
 |true=>ks
 |false=>ks++[k]
def DO{α:Type}(ks:List bA)(xs:List α)(k:bA)(v:α):List α:=match kIn ks k with
 |true=>(ks.zip xs).map λp=>if p.1=k then v else p.2
 |false=>xs++[v]
def DN{α:Type}(ks:List bA)(xs:List α)(k:bA):Option α:=((ks.zip xs).find? λp=>decide (p.1=k)).map (·.2)
theorem X5 {α:Type} {ks:List bA} {xs:List α} (h:ks.length=xs.length) (k:bA):((ks.zip xs).any λp=>decide (p.1=k))=kIn ks k:=by
 unfold kIn
 induction ks generalizing xs with
 |nil=>rfl
 | cons a ks ih=>cases xs with
  |nil=>cases h
  |cons x xs=>rw[a2x,a5m,a5m,ih (by simpa using h)]
theorem IE {ks:List bA} {vs:List V} (h:ks.length=vs.length) (k:bA) (v:V):o5 (ks.zip vs) k v=(K1 ks k).zip (DO ks vs k v):=by
 unfold o5 K1 DO
 rw[X5 h]
 cases kIn ks k with
 | true=>
  rw[if_pos rfl]
  dsimp only
  induction ks generalizing vs with
  |nil=>rfl
  | cons a ks ih=>cases vs with
   |nil=>cases h
   | cons x vs=>
    simp only[a2x,a0h]
    rw[ih (by simpa using h)]
    congr 1
    split<;>rfl
 | false=>
  rw[if_neg a0i]
  dsimp only
  rw[List.zip_append h];rfl
theorem GS{α:Type}{ks:List bA}{xs:List α}(h:ks.length=xs.length)(k:bA)(v:α):(K1 ks k).length=(DO ks xs k v).length:=by
 unfold K1 DO
 split<;>simp[h]
section
variable{G:Ac->Prop}{H:Hp}{vs:List V}{xs:List PV}{ks:List bA}
theorem Reps.zipMap(r:Reps G H vs xs)(k:bA){v:V}{x:PV}(rx:Rep G H v x):Reps G H ((ks.zip vs).map λp=>if p.1=k then v else p.2) ((ks.zip xs).map λp=>if p.1=k then x else p.2):=by
 refine⟨by simp[r.len],λi u y e1 e2=>?_⟩
 rw[a0g,a0r] at e1 e2
 obtain⟨p,hp,rfl⟩:=e1
 obtain⟨p',hp',rfl⟩:=e2
 rw[a3e] at hp hp'
 have e:p.1=p'.1:=a1j (hp.1.symm.trans hp'.1)
 rw[e]
 split
 ·exact rx
 ·exact r.at_ i _ _ hp.2 hp'.2
theorem Reps.dput(r:Reps G H vs xs)(k:bA){v:V}{x:PV}(rx:Rep G H v x):Reps G H (DO ks vs k v) (DO ks xs k x):=by
 unfold DO
 cases kIn ks k with
 |true=>exact r.zipMap k rx
 |false=>exact r.append (.cons rx .nil)
theorem Reps.dget:∀ {ks:List bA} {vs:List V} {xs:List PV},Reps G H vs xs->∀ {k:bA} {x:PV},DN ks xs k=some x->∃v,pR (ks.zip vs) k=some v/\Rep G H v x:=by
 intro ks
 induction ks with
 |nil=>intro vs xs r k x e;cases e
 | cons a ks ih=>
  intro vs xs r k x e
  cases xs with
  |nil=>cases e
  | cons y xs=>
   cases vs with
   |nil=>have:=r.len;cases this
   | cons v vs=>
    unfold DN at e
    rw[a2x,a2p] at e
    rw[a2x]
    by_cases h:a=k
    ·rw[a1v h] at e
     cases e
     exact⟨v,pT (p:=(a,v)) h,r.at_ 0 _ _ rfl rfl⟩
    ·rw[a1c h] at e
     rw[pS (p:=(a,v)) h]
     refine ih (xs:=xs) ⟨by have:=r.len;simpa using this,λi u z e1 e2=>r.at_ (i+1) u z (by simpa using e1) (by simpa using e2)⟩ e
end
theorem HH{G S:Addr->Prop}{H:Hp}{z:PV}{u:V}{k:bA}(e:KJ z=some k)(r:Rep G H u z):u=kV k:=by
 cases z with
 |int i=>cases e;exact Rep.ofInt r
 |str x=>cases e;exact RepP.ofStr (S:=λ_=>True) (.inl r)
 |_=>cases e
section
variable{X:Cx}{md lm:List Md}{rm:Md}{o i e:Expr}{pe pj pa pb:aY}{el:El}{pos p:Pos}{n:Nat}
theorem WY:VE X md (.Dict [] [] pos) (.o .fl) (pC (.dic [] [])):=⟨PJ.imp λσ H K=>by
 rintro⟨env,W0,H0,W,Q,R,q,k⟩
 intro a ha
 exact k.newB R.ok ha (Body.dic (ks:=[]) (vs:=[]) rfl .nil) q⟩
def rR (n:Nat) (pe pj:aY):bO:=λE env=>pe env λy=>match k9 env n with
 | some (some (.dic ks xs))=>pj env λj=>(match KJ j with
  |some k=>ks.length<1000/\E.nx (eU env n (some (.dic (K1 ks k) (DO ks xs k y))))
  |none=>False)
 |_=>False
theorem tL {j:Expr} (hu:X.A.units+64<cLine) (ho:QE X o (eV n)) (hi:md.getD n .no= .o el) (he:VE X md e (.v el) pe) (hj:VE X md j .bw pj)
  (hs:swapsWith e (some (.Subscript o j p)) pos.line X.env=pure false:=by rfl):VS X md md lm rm (.Assign [.Subscript o j p] e pos) (rR n pe pj):=⟨(VJ (by omega) ho.h hj.h he.h hs).imp λD σ H=>by
 rintro⟨env,W0,H0,W,E,R,q,l⟩
 refine⟨env,W0,H0,W,_,R,q,λy v W1 H1 g1 r1 q1=>?_⟩
 have R1:=R.step g1
 rw[jH] at q1
 cases ev:env[n]? with
 |none=>rw[ev] at q1;exact q1.elim
 | some ox=>
  cases ox with
  |none=>rw[ev] at q1;exact q1.elim
  | some x=>
   rw[ev] at q1
   cases x with
   | dic ks xs=>
    obtain⟨a,ob,sv,oq⟩:=R1.ownAt hi ev
    refine⟨.ref a,sv,env,W0,H0,W1,_,R1,q1,λjv u W2 H2 g2 r2 q2=>?_⟩
    have R2:=R1.step g2
    obtain⟨a2,o2,sv2,oq2⟩:=R2.ownAt hi ev
    rw[sv] at sv2;cases sv2
    cases hk:KJ jv with
    |none=>rw[hk] at q2;exact q2.elim
    | some k=>
     rw[hk] at q2
     have b:=oq2.its
     have oq3:=oq2
     have hat:=oq2.at_
     generalize o2=oo at b hat oq3
     cases b with
     | @dic _ us _ hl h=>
      have r1':Rep (el.G W2.F H0) H2 v y:=ResE.go (m:=.v el) r1 g1.ok g2
      have hu:u=kV k:=HH (S:=λ_=>True) hk r2
      subst hu
      obtain⟨hlt,q2⟩:=q2
      refine⟨a,_,rfl,ME.k hat (by rw[a5p,<- hl,Nat.min_self];exact a2t hlt (by decide)),?_⟩
      rw[e8] at q2
      rw[IE hl]
      exact l.nx _ W2 σ _ (R2.put hi ev sv (.dic (GS hl k v) (h.dput k r1')) rfl) (((g1.trans g2).ex R.ok).trans (A7 (K:=X.K) (md:=md) (W0:=W0) (σ:=σ) (env:=env) (i:=n) oq3)) q2
   |_=>exact q1.elim⟩
def jT:P2:=λx y Q=>match x,KJ y with
 | .dic ks xs,some k=>(match DN ks xs k with
  |some z=>Q z
  |none=>False)
 |_,_=>False
theorem n4 (hu:X.A.units+64<cLine) (ha:VE X md o (.p el) pa) (hb:VE X md i .bw pb) (hs:XY i):VE X md (.Subscript o i pos) (.v el) (aQ jT pa pb):=
 ⟨(V9 (by omega) ha.h hb.h hs).imp λσ H K=>by
  rintro⟨env,W0,H0,W,Q,R,q,k⟩
  refine⟨env,W0,H0,W,_,R,q,λx v W1 H1 g1 r1 q1=>⟨env,W0,H0,W1,_,R.step g1,q1,λy u W2 H2 g2 r2 q2=>?_⟩⟩
  have k2:=k.after (g1.trans g2)
  have r1':RepP (el.G W2.F H0) W2.S H2 v x:=ResE.go (m:=.p el) r1 g1.ok g2
  unfold jT at q2
  cases x with
  | dic ks xs=>
   cases hk:KJ y with
   |none=>rw[hk] at q2;exact q2.elim
   | some kk=>
    rw[hk] at q2
    dsimp only at q2
    cases hg:DN ks xs kk with
    |none=>rw[hg] at q2;exact q2.elim
    | some z=>
     rw[hg] at q2
     obtain⟨a,vs,rfl,e,hl,rs⟩:=r1'.ofDic
     have hu:u=kV kk:=HH (S:=λ_=>True) hk r2
     subst hu
     obtain⟨w,e1,e2⟩:=rs.dget hg
     exact⟨a,w,rfl,by have:=J9.k (k:=kk) e;rw[e1] at this;exact this,k2.val g2.ok e2 q2⟩
  |_=>cases hk:KJ y<;>(rw[hk] at q2;exact q2.elim)⟩
end
def uG:List bA->Option (List Int)
 |[]=>some []
 |.inl i::ks=>(uG ks).map (i::·)
 |.inr _::_=>none
theorem BU:∀ {ks:List bA} {ns:List Int},uG ks=some ns->ks=ns.map Sum.inl
 |[],ns,h=>by cases h;rfl
 | .inl i::ks,ns,h=>by
  unfold uG at h
  rw[a0r] at h
  obtain⟨ms,h1,rfl⟩:=h
  rw[BU h1];rfl
theorem KN(ns:List Int):uG (ns.map Sum.inl)=some ns:=by
 induction ns with
 |nil=>rfl
 |cons n ns ih=>rw[a0h,uG,ih];rfl
section
variable{prog:Program}{w:World}{A:Around}{E:Value->Ab->Prop}{s:Ab}{a:Ac}
theorem zH {vs:List (bA×Value)} {Q:List Value->Shared->Prop} (hh:A.handled=none) (lo:(a==sysModules)=false) (dd:s.heap.DictOf (bH prog w) a vs) (hz:vs.length<=sizeLine)
  (k:∀(g:Heap) (t:Nat) (us:Array Value),(∀b o,s.heap.get? b=some o->g.get? b=some o)->s.heap.objs.size<g.objs.size->ItemsOf (λi v=>∃k x,vs[i]? =some (k,x)/\(bH prog w).is k v=true) us vs.length->Q us.toList {s with heap:=g,toks:=t}) :
  wpAny (model prog w) A (collect (.ref a)) Q E s:=by
 obtain⟨ep,hat⟩:=dd.dictAt
 have S0:=PySem.W.kdl_dict (prog:=prog) (w:=w) (d:=a) (knd:=bH prog w) (kvs:=vs) (ep:=ep) lo
 have there:=(S0.there _ hat).1
 unfold collect
 refine a0b (wpAny_runValue (a3o F.entry_proto_collect ?_))
 rw[a2q F.plain_proto_collect _]
 show wpAny _ A.in1 (newList [] >>=λq=>again (.builtin "list.__iadd__" ⟨[q,.ref a],[]⟩)) _ _ s
 refine a0b (a1u (a0e ⟨a5f a6k _,a3o F.entry_list_iadd ?_⟩))
 rw[a2q a6k _]
 generalize hg0:s.heap.push {cls:=.type "list",data:=.seq ([]:List Value).toArray}=g0
 have at0:g0.get? s.heap.objs.size=some {cls:=.type "list",data:=.seq #[]}:=by rw[<- hg0];exact a1b _ rfl
 have kp0:∀b o,s.heap.get? b=some o->g0.get? b=some o:=λb o e=>by rw[<- hg0];exact a0f _ e
 have fin:=PySem.W.kdl_extend (A:=A) (s:={s with heap:=g0}) (R:=λq s'=>∃g t us c,q= .ok (.ret (.ref s.heap.objs.size))/\s'={s with heap:=g,toks:=t}/\(∀b o,s.heap.get? b=some o->g.get? b=some o)/\
   g.get? s.heap.objs.size=some {cls:=.type "list",dict:=none,data:=.seq us c,slots:=#[]}/\ItemsOf (λi v=>∃k x,vs[i]? =some (k,x)/\(bH prog w).is k v=true) us vs.length)
  S0 hh (S0.keep _ _ hat λb _ o e=>kp0 b o e) s.heap.objs.size (a5h there) (a5h there) (.ref s.heap.objs.size) 0 at0
  (λg t us c kp ag it=>⟨g,t,us,c,rfl,rfl,λb o e=>kp b o (a0w (a0n e)) (kp0 b o e),ag,it⟩) hz
 refine a1l fin (λf s2 x=>?_) λe s2 x=>?_
 ·cases f with
  | done f=>
   obtain⟨g,t,us,c,e,rfl,kp,ag,it⟩:=x
   cases e
   show wpAny _ A (load s.heap.objs.size >>=_) _ _ _
   exact a0b (wpAny_load ag (a0e (k g t us kp (a0n ag) it)))
  | again c1=>
   refine⟨x.1,a5z x.2 λq s3 y=>?_⟩
   obtain⟨g,t,us,c,rfl,rfl,kp,ag,it⟩:=y
   show wpAny _ A (load s.heap.objs.size >>=_) _ _ _
   exact a0b (wpAny_load ag (a0e (k g t us kp (a0n ag) it)))
 ·obtain⟨_,_,_,_,z,_⟩:=x
  cases z
theorem DB {vs:List (bA×Value)} {ns:List Int} {Q:Value->Shared->Prop} (hh:A.handled=none) (lo:(a==sysModules)=false) (dd:s.heap.DictOf (bH prog w) a vs) (hns:vs.map (·.1)=ns.map Sum.inl) (h64:ns.length<64)
  (h:∀(out:Array Value) (ms:List Int) (l:Ac) (m:Nat) (s':Ab),s'.gens=s.gens->s'.os=s.os->(∀b o,s.heap.get? b=some o->s'.heap.get? b=some o)->s.heap.objs.size<=l->s'.heap.get? l=some {cls:=.type "list",data:=.seq out m}->IntsAre out.toList ms->ms.Perm ns->ms.Pairwise (·<=·)->Q (.ref l) s') :
  wpAny (model prog w) A (call (.builtin "sorted") [.ref a]) Q E s:=by
 have hvl:vs.length=ns.length:=by have:=congrArg List.length hns;simpa using this
 refine Calls.call_function_entry kind_sorted plain_sorted entry_sorted (args_sorted1 _) ?_
 unfold Builtin.«sorted»
 refine a0b (m:=checkCount "sorted" 1 1 _) (a0e ?_)
 refine a0b (zH (A:=A.in1) hh lo dd (by rw[hvl];exact a0y (a3g h64) (by decide)) λh1 tk acc hk hlt hacc=>?_)
 have hal:acc.toList.length=ns.length:=by rw[a0o,hacc.1,hvl]
 have hI:IntsAre acc.toList ns:=by
  have go:∀(us:List Value) (ms:List Int),us.length=ms.length->(∀(j:Nat) (u:Value),us[j]? =some u->∃i t,ms[j]? =some i/\u= .int i t)->IntsAre us ms:=by
   intro us
   induction us with
   | nil=>intro ms hl _;cases ms with
    |nil=>exact .nil
    |cons m ms=>cases hl
   | cons u us ih=>intro ms hl hh;cases ms with
    |nil=>cases hl
    | cons m ms=>
     obtain⟨i,t,e,rfl⟩:=hh 0 u rfl
     cases e
     exact .cons m t (ih ms (by simpa using hl) λj u hj=>by simpa using hh (j+1) u (by simpa using hj))
  refine go _ _ hal λj u hj=>?_
  obtain⟨k,x,hx,hkk⟩:=hacc.2 j u (by rw[<- a2k];exact hj)
  have e1:(vs.map (·.1))[j]? =some k:=by rw[a0g,hx];rfl
  rw[hns,a0g,a0r] at e1
  obtain⟨i,hi,rfl⟩:=e1
  obtain⟨t,rfl⟩ : ∃t,u= .int i t:=cI (prog:=prog) (w:=w) hkk
  exact⟨i,t,hi,rfl⟩
 refine a0b (a1u ?_ ?_)
 ·have hoL:(h1.push (seqObj "list" acc.toList.toArray 0)).get? h1.objs.size=some (seqObj "list" acc.toList.toArray 0):=a1b _ rfl
  refine a0b (a1w (a2u slot_list_sort ⟨_,hoL,rfl⟩ entry_list_sort (list_sort_tree hoL hI (by omega) λout ns' a1 a2 a3=>⟨_,rfl,?_⟩) (args_list_sort _)))
  have e1:=a2b (Obj.mapSeq λ_=>#[]) hoL rfl
  have e2:=a0f (seqObj "list" #[] 0) (a0f (seqObj "tuple" acc.toList.toArray 0) e1)
  have e3:=a2b (Obj.mapSeq λ_=>out) e2 rfl
  refine a0e ⟨_,rfl,h out ns' h1.objs.size _ _ rfl rfl (λb o e=>?_) (a3g hlt) (e3.trans rfl) a1 a2 a3⟩
  have hb:b≠h1.objs.size:=a0w (a0n (hk b o e))
  unfold sortedHeap
  refine (a1x _ _ (a3b hb)).trans (a0f _ (a0f _ ((a1x _ _ (a3b hb)).trans (a0f _ (hk b o e)))))
 ·show acc.toList.toArray.size<=sizeLine
  rw[a0t,hal];exact a0y (a3g h64) (by decide)
end
section
variable{X:Cx}
def vL:List V->Hp->VK->Prop:=λxs H Q=>∃(a:Addr) (ns:List Int) (vs:List V),xs=[.ref a]/\Rd H a (.dK ((ns.map Sum.inl).zip vs))/\ns.length=vs.length/\ns.length<64/\
 ∀(l:Ac) (ms:List Int),H l=none->ms.Perm ns->ms.Pairwise (·<=·)->Q (.ref l) (bF H l (.lst (List.map V.int ms)))
theorem JO (hc:X.calm=true):eD X (.builtin "sorted") vL:=by
 intro pins s σ H xs us Q I r h
 obtain⟨a,ns,vs,rfl,hp,hl,h64,q⟩:=h
 obtain⟨u,rfl,ru⟩:=j5 r
 cases ru
 obtain⟨z,hd,ws,rel,dd⟩:=GR I.hok hp
 have hw:ws.map (·.1)=ns.map Sum.inl:=by
  have:((ns.map Sum.inl).zip vs).map (·.1)=ws.map (·.1):=by
   clear dd
   unfold KV at rel
   generalize ((ns.map Sum.inl).zip vs:List (bA×V))=kvs at rel
   induction rel with
   |nil=>rfl
   |cons h t ih=>rw[a0h,a0h,ih,h.1]
  rw[<- this]
  exact a6b (by rw[a0d];omega)
 refine DB (I.ok.hd hc) hd dd hw h64 λout ms l m s' g1 g2 g4 g5 g6 hI hp hs=>?_
 refine⟨.ref l,bF H l (.lst (List.map V.int ms)),I.laidS g2 g1 g4 g5 ⟨?_,out.toList,m,mZ hI,by simpa using g6⟩,rfl,q l ms (I.hok.fresh g5) hp hs⟩
 rw[a0d,hp.length_eq]
 exact a0y (a3g h64) (by decide)
theorem vJ(hc:X.calm=true):QC X (.builtin "sorted") vL:=⟨JO hc⟩
def iM:PN:=λxs Q=>match xs with
 | [.dic ks _]=>(match uG ks with
  |some ns=>ns.length<64/\Q (.lst ((l8 ns).map PV.int))
  |none=>False)
 |_=>False
theorem sA {el:El}:SimC vL [.p el] (.o .fl) iM:=⟨λB H0 W H vs xs Q K w r q k=>by
 obtain⟨v,x,rfl,rfl,r1⟩:=r.one
 unfold iM at q
 cases x with
 | dic ks ys=>
  dsimp only at q
  cases h:uG ks with
  |none=>rw[h] at q;exact q.elim
  | some ns=>
   rw[h] at q
   have hks:=BU h
   subst hks
   have r2:RepP (el.G W.F B) W.S H v (.dic (ns.map Sum.inl) ys):=r1
   obtain⟨a,us,rfl,e,hl,rs⟩:=r2.ofDic
   refine⟨a,ns,us,rfl,.inl e,by rw[<- hl,a0d],q.1,λl ms hl hp hs=>?_⟩
   have:ms=l8 ns:=nN (hp.trans (cL ns).symm) hs (kJ ns)
   subst this
   exact k.newL w hl (jZ _) q.2
 |_=>exact q.elim⟩
end
theorem Inv.turnedF {X:Cx} {pins:List (Addr×Obj)} {σ:St} {H:Hp} {s:Shared} {h':Heap} {t':Nat} {fp:List Addr} (I:Inv X pins σ H s) (hf:∀b∈fp,jD X pins H b) (k:∀b u,b∉fp->s.heap.get? b=some u->h'.get? b=some u) :
  Inv X pins σ H {s with heap:=h',toks:=t'}:=by
 have nf:∀b u,H b=some u->b∉fp:=λb u e z=>by rw[(hf b z).1] at e;cases e
 refine I.step (g':=s.gens) (d':=s.drawn) (ch:=fp) (λb hb=>?_) (λb o _ _ hc e _=>k b o hc e) (λb o _ _ hc e _=>⟨o.slots,k b o hc e⟩) (λb u _ e n=>n)
  (λb o hc e=>⟨o,k b o hc e⟩) (λb _ e=>e) (λb _ _ e=>e) (λb e=>e) (λm hm=>?_) (λb u e=>?_) I.bare
 ·obtain⟨f0,f1,f2,f3,f4,f5⟩:=hf b hb
  exact⟨f3,f1,f4,f5⟩
 ·obtain⟨o,es,ep,ho,r⟩:=hm
  exact⟨o,es,ep,k _ o (λz=>(hf _ z).2.1 rfl) ho,r⟩
 ·refine (I.hok b u e).stay (λc v hc q=>k c v ?_ q) (λ_ q=>q) λ_ _ q=>q
  rcases hc with z|z
  ·rw[z];exact nf b u e
  ·exact nf c _ z
def a5I (K:PySem.W.Frag) (a b:Addr):It:=
  ⟨fun i H=>∃xs ys x y, d9 K H a xs∧d9 K H b ys∧xs[i]? =some x∧ys[i]? =some y,
   λi H v H'=>∃t x y,H t=none/\v= .ref t/\H'=bF H t (.tup [x,y])/\(∀xs,d9 K H a xs->xs[i]? =some x)/\∀ys,d9 K H b ys->ys[i]? =some y,
   λi H=>∃xs ys,d9 K H a xs/\d9 K H b ys/\(xs.length<=i\/ys.length<=i)⟩
structure ZAp(z TI TO i1 i2:Addr):Prop where
 TIz:TI≠z
 TOz:TO≠z
 i1z:i1≠z
 i2z:i2≠z
 TITO:TI≠TO
 TIi1:TI≠i1
 TIi2:TI≠i2
 TOi1:TO≠i1
 TOi2:TO≠i2
 i12:i1≠i2
def a71(z TI TO i1 i2 a b:Ac)(i:Nat)(h:Heap):Prop:=IsZip h z TI TO .none/\IsPair h TI (.ref i1) (.ref i2)/\(∃x y,IsPair h TO x y)/\h.IsListIter i1 a i/\h.IsListIter i2 b i
theorem iZ{h:Heap}{a c:Addr}{xs:Array Value}{o:Obj}(hl:h.IsList a xs)(e:h.get? c=some o)(hc:o.cls≠ .type "list"):a≠c:=by
 rintro rfl
 obtain⟨o',e',c',_⟩:=hl
 rw[e] at e';cases e'
 exact hc c'
theorem ZAp.full {z TI TO i1 i2 a b:Addr} (D:ZAp z TI TO i1 i2) {h:Heap} {i:Nat} (st:a71 z TI TO i1 i2 a b i h) {xs ys:Array Value} (ha:h.IsList a xs) (hb:h.IsList b ys):ZipApart z TI TO i1 i2 a b:=by
 obtain⟨hz,hTI,⟨x,y,hTO⟩,⟨o1,e1,c1,d1⟩,⟨o2,e2,c2,d2⟩⟩:=st
 have nl:∀ {o:Obj},o.cls= .type "list_iterator"->o.cls≠ .type "list":=λe z=>by rw[e] at z;exact absurd z (by decide)
 exact ⟨D.TIz,D.TOz,D.i1z,D.i2z,D.TITO,D.TIi1,D.TIi2,D.TOi1,D.TOi2,D.i12,iZ ha hz (show (Value.type "zip")≠ .type "list" by decide),iZ ha hTO (show (Value.type "tuple")≠ .type "list" by decide),iZ ha e1 (nl c1),iZ ha e2 (nl c2),
  iZ hb hz (show (Value.type "zip")≠ .type "list" by decide),iZ hb hTO (show (Value.type "tuple")≠ .type "list" by decide),iZ hb e1 (nl c1),iZ hb e2 (nl c2)⟩
theorem RI {P:Program} {w:World} {K:PySem.W.Frag} {elts:List Expr} {x1} {pos:Pos} (a b z TI TO i1 i2:Addr) (D:ZAp z TI TO i1 i2) :
  Turn P w K (.Tuple elts x1 pos) (a5I K a b) [z,TI,TO,i1,i2] z (a71 z TI TO i1 i2 a b) where
 mem:=by simp
 obj:=λi h st c hc=>by
  obtain⟨hz,hTI,⟨x,y,hTO⟩,⟨o1,e1,c1,d1⟩,⟨o2,e2,c2,d2⟩⟩:=st
  simp only[a0q,a1e,a3j] at hc
  rcases hc with rfl|rfl|rfl|rfl|rfl
  ·exact⟨_,hz,λv q=>by cases q⟩
  ·exact⟨_,hTI,λv q=>by cases q⟩
  ·exact⟨_,hTO,λv q=>by cases q⟩
  ·exact⟨_,e1,λv q=>by rw[d1] at q;cases q⟩
  ·exact⟨_,e2,λv q=>by rw[d2] at q;cases q⟩
 keep:=λi h h' st k=>by
  obtain⟨hz,hTI,⟨x,y,hTO⟩,h1,h2⟩:=st
  exact⟨k z (by simp) _ hz,k TI (by simp) _ hTI,⟨x,y,k TO (by simp) _ hTO⟩,h1.at λo e=>k i1 (by simp) o e,h2.at λo e=>k i2 (by simp) o e⟩
 item:=by
  intro X hP hw hK hc i pins s σ H E I hf st hg
  subst hP hw hK
  obtain⟨xs,ys,x,y,hq,hq2,hx,hy⟩:=hg
  obtain⟨its,rv,p,hz0⟩:=I.list hq
  obtain⟨its2,rv2,p2,hz2⟩:=I.list hq2
  obtain⟨u,hu,ru⟩:=rv.get hx
  obtain⟨u2,hu2,ru2⟩:=rv2.get hy
  have DD:=D.full st p.isList p2.isList
  have st0:=st
  obtain⟨hz,hTI,⟨va,vb,hTO⟩,h1,h2⟩:=st
  refine wpAny_pyNext_zip_item DD hz hTI hTO h1 h2 p.isList p2.isList (x:=u) (y:=u2) (by simpa using hu) (by simpa using hu2) λh' a1 a2 a3 a4 a5 a6 hk=>?_
  refine⟨.ref s.heap.objs.size,rfl,wpAny_letOwnedTupleGo_zip (s:={s with heap:=h'}) a1 λh'' b1 sb=>?_⟩
  have hfr:H s.heap.objs.size=none:=I.hok.fresh (a0l _)
  have lt:∀c∈[z,TI,TO,i1,i2],c<s.heap.objs.size:=λc hc=>by
   obtain⟨_,_,_,⟨o1,e1,_⟩,⟨o2,e2,_⟩⟩:=st0
   simp only[a0q,a1e,a3j] at hc
   rcases hc with rfl|rfl|rfl|rfl|rfl
   ·exact a0n hz
   ·exact a0n hTI
   ·exact a0n hTO
   ·exact a0n e1
   ·exact a0n e2
  have nz:s.heap.objs.size≠z:=a5h (lt z (by simp))
  have hf2:∀c∈[z,TI,TO,i1,i2],(bF H s.heap.objs.size (.tup [x,y])) c=none:=λc hc=>by
   rw[aH (a0w (lt c hc))];exact (hf c hc).1
  refine⟨.ref s.heap.objs.size,bF H s.heap.objs.size (.tup [x,y]),I.turnL (t':=s.toks) hf (λc v hc q=>?_) (a0l _) ?_,rfl,⟨_,x,y,hfr,rfl,rfl,λzs hz=>by rw[I.list_inj hz hq];exact hx,λzs hz=>by rw[I.list_inj hz hq2];exact hy⟩,?_,hf2⟩
  ·simp only[a0q,a1e,a3j,not_or] at hc
   exact (sb.2 c hc.1).trans (hk c v hc.1 hc.2.2.1 hc.2.2.2.1 hc.2.2.2.2 q)
  ·exact⟨(by decide:2<=sizeLine),[u,u2],.cons ru (.cons ru2 .nil),_,(sb.2 _ nz).trans a5,rfl,_,rfl⟩
  ·refine⟨b1,(sb.2 _ D.TIz).trans (hk TI _ D.TIz D.TITO D.TIi1 D.TIi2 hTI),⟨_,_,(sb.2 _ D.TOz).trans a2⟩,a3.at λo q=>(sb.2 _ D.i1z).trans q,a4.at λo q=>(sb.2 _ D.i2z).trans q⟩
 done:=by
  intro X hP hw hK hc i pins s σ H E I hf st hg
  subst hP hw hK
  obtain⟨xs,ys,hq,hq2,hx⟩:=hg
  obtain⟨its,rv,p,hz0⟩:=I.list hq
  obtain⟨its2,rv2,p2,hz2⟩:=I.list hq2
  have DD:=D.full st p.isList p2.isList
  obtain⟨hz,hTI,⟨va,vb,hTO⟩,h1,h2⟩:=st
  have l1:=rv.length
  have l2:=rv2.length
  have he:its.toArray[i]? =none\/its2.toArray[i]? =none:=by
   rcases hx with z|z
   ·exact .inl (by simp;omega)
   ·exact .inr (by simp;omega)
  refine wpAny_pyNext_zip_end (I.ok.hd hc) DD hz hTI hTO h1 h2 p.isList p2.isList he λh' hk=>⟨rfl,?_⟩
  exact I.turnedF (t':=s.toks) hf λc v hc q=>by
   simp only[a0q,a1e,a3j,not_or] at hc
   exact hk c v hc.1 hc.2.2.1 hc.2.2.2.1 hc.2.2.2.2 q
 self:=λ_ _ _ _ _ st h=>wpAny_pyIter_zip st.1 h
def a5X(K:Aa)(ta:TA):TI:=λσ H R=>ta σ H λvs H1=>∃a b,vs=[.ref a,.ref b]/\(∃xs,d9 K H1 a xs)/\(∃ys,d9 K H1 b ys)/\R (a5I K a b) H1
theorem MV:bootBuiltins "zip"=some (.type "zip"):=by rfl
theorem a0P {X:Cx} {a b:Expr} {ta:TA} {elts:List Expr} {x1} {tpos p pos:Pos} (hg:Gl X "zip") (hm:X.mg "zip"=none) (ha:PA X [a,b] ta) (hs:starEach [a,b] X.env=[(false,eval a X.env),(false,eval b X.env)]) (hs1:starEach [b] X.env=[(false,eval b X.env)]) :
  PI X (.Tuple elts x1 tpos) (.Call (.Name "zip" p) [a,b] [] pos) (a5X X.K ta):=by
 intro pins s σ H R I h
 refine Call_ (qJ I hg hm MV (a4f (cO (ha pos pins s σ H _ I h) λus s1 ⟨vs,H1,I1,r1,q1⟩=>?_) (hs.trans (by rw[hs1])) (by rw[hs1];rfl)))
 obtain⟨l,l2,e,⟨xs,hq⟩,⟨ys,hq2⟩,q⟩:=q1
 subst e
 cases r1 with
 | cons r rr=>
  cases rr with
  | cons r2 rr=>
   cases rr
   cases r
   cases r2
   obtain⟨its,rv,p,hz⟩:=I1.list hq
   obtain⟨its2,rv2,p2,hz2⟩:=I1.list hq2
   refine call_zip_2 p.isList p2.isList λh' z1 z2 z3 z4 z5 z6 hk=>?_
   refine wpAny_pyIter_zip z1 ?_
   have I2:Inv X pins σ H1 {s1 with heap:=h'}:=I1.kept (t':=s1.toks) hk
   have D:ZAp (s1.heap.objs.size+4) (s1.heap.objs.size+2) (s1.heap.objs.size+3) s1.heap.objs.size (s1.heap.objs.size+1):=by
    have n:∀ {x y:Nat},x<y\/y<x->x≠y:=λh=>by omega
    exact⟨n (by omega),n (by omega),n (by omega),n (by omega),n (by omega),n (by omega),n (by omega),n (by omega),n (by omega),n (by omega)⟩
   refine⟨s1.heap.objs.size+4,[s1.heap.objs.size+4,s1.heap.objs.size+2,s1.heap.objs.size+3,s1.heap.objs.size,s1.heap.objs.size+1],_,_,H1,rfl,I2,RI l l2 _ _ _ _ _ D,⟨z1,z2,⟨_,_,z3⟩,z4,z5⟩,λb hb=>?_,q⟩
   have hb':s1.heap.objs.size<=b:=by
    simp only[a0q,a1e,a3j] at hb
    rcases hb with rfl|rfl|rfl|rfl|rfl<;>omega
   exact I1.fpOk hb' (I1.hok.fresh hb')
def wR(xs ys:List PV):List PV:=(xs.zip ys).map λz=>.tup [z.1,z.2]
theorem k8(xs ys:List PV):(wR xs ys).length=min xs.length ys.length:=by simp[wR]
theorem B0 {xs ys:List PV} {i:Nat} {z:PV}:(wR xs ys)[i]? =some z↔∃x y,xs[i]? =some x/\ys[i]? =some y/\z= .tup [x,y]:=by
 rw[wR,a0g,a0r]
 constructor
 ·rintro⟨⟨x,y⟩,h,rfl⟩
  have:=a3e.mp h
  exact⟨x,y,this.1,this.2,rfl⟩
 ·rintro⟨x,y,h1,h2,rfl⟩
  exact⟨(x,y),a3e.mpr ⟨h1,h2⟩,rfl⟩
def v7(a b:aY):n9:=λenv Q=>a env λx=>b env λy=>match x,y with
 |.lst xs,.lst ys=>Q (wR xs ys)
 |_,_=>False
section
variable{X:Cx}{md:List Md}{el:El}{a b e tg:Expr}{pa pb pe:aY}{p pos:Pos}
theorem WH {K:PySem.W.Frag} {B:Hp} {W:Wd} {H:Hp} {l l2:Addr} {vs vs2:List V} {xs ys:List PV} (hF:W.F l) (e:H l=some (.lst vs)) (r:Reps (el.G W.F B) H vs xs) (hF2:W.F l2) (e2:H l2=some (.lst vs2)) (r2:Reps (el.G W.F B) H vs2 ys):Src (a5I K l l2) el B W H (wR xs ys) where
 go:=λi W2 H2 x hi=>by
  rw[k8] at hi
  exact⟨vs,vs2,vs[i]'(by rw[r.len];omega),vs2[i]'(by rw[r2.len];omega),d9.of (x.kp l _ hF e),d9.of (x.kp l2 _ hF2 e2),a0a _,a0a _⟩
 stop:=λW2 H2 x=>⟨vs,vs2,d9.of (x.kp l _ hF e),d9.of (x.kp l2 _ hF2 e2),by rw[r.len,r2.len,k8];omega⟩
 yld:=λi W2 H2 v H3 x w hi y=>by
  obtain⟨t,u,u2,ht,rfl,rfl,y,y2⟩:=y
  have h1:=y vs (d9.of (x.kp l _ hF e))
  have h2:=y2 vs2 (d9.of (x.kp l2 _ hF2 e2))
  obtain⟨z,ez,rz⟩:=r.getV h1
  obtain⟨z2,ez2,rz2⟩:=r2.getV h2
  have g:Go W2 H2 W2 (bF H2 t (.tup [u,u2])):=Go.laid w ht
  have q1:=g.rep w (G':=el.G W2.F B) (λ_ h=>El.nS w h) (λ_ h=>h) (x.rep (G':=el.G W2.F B) (λ_ g=>El.GF g) (λ_ g=>El.up x.lF (λ_ h=>h) g) rz)
  have q2:=g.rep w (G':=el.G W2.F B) (λ_ h=>El.nS w h) (λ_ h=>h) (x.rep (G':=el.G W2.F B) (λ_ g=>El.GF g) (λ_ g=>El.up x.lF (λ_ h=>h) g) rz2)
  refine⟨g,.tup [z,z2],B0.mpr ⟨z,z2,ez,ez2,rfl⟩,.tup b5 rfl λj v x e1 e2=>?_⟩
  match j,e1,e2 with
  |0,e1,e2=>cases e1;cases e2;exact q1
  |1,e1,e2=>cases e1;cases e2;exact q2
theorem RX {elts:List Expr} {x1} {tpos:Pos} (hg:X.env.scope.names.lookup (Str.ofString "zip")=some NameKind.globalImplicit) (hm:X.mg "zip"=none) (ha:VE X md a (.v el) pa) (hb:VE X md b (.v el) pb) (hs:starEach [a,b] X.env=[(false,eval a X.env),(false,eval b X.env)]:=by rfl) (hs1:starEach [b] X.env=[(false,eval b X.env)]:=by rfl) :
  VI X md el (.Tuple elts x1 tpos) (.Call (.Name "zip" p) [a,b] [] pos) (v7 pa pb):=
 ⟨(a0P hg hm (a7 ha (a7 hb aB hs1) (by rw[hs,hs1])).h hs hs1).imp λσ H R=>by
 rintro⟨env,W0,H0,W,Q,Rr,q,k⟩
 refine⟨env,W0,H0,W,λxs=>match xs with|[.lst zs,.lst ws]=>Q (wR zs ws)|_=>False,Rr,?_,λxs vs W1 H1 g1 r1 q1=>?_⟩
 ·show pa env λx=>pb env λy=>_
  unfold v7 at q
  refine (iff_of_eq (congrArg (pa env) (funext λx=>congrArg (pb env) (funext λy=>?_)))).mp q
  cases x<;>cases y<;>rfl
 ·cases r1 with
  | cons r ra=>cases ra with
   | cons r2 ra=>cases ra with
    | nil=>
     rename_i v x v2 x2
     cases x with
     | lst xs=>cases x2 with
      | lst ys=>
       obtain⟨a,vs,rfl,g,e,rs⟩:=Rep.ofList r
       obtain⟨a2,vs2,rfl,g2,e2,rs2⟩:=Rep.ofList r2
       exact⟨a,a2,rfl,⟨vs,d9.of e⟩,⟨vs2,d9.of e2⟩,k _ W1 H1 _ g1 (WH (El.GF g) e rs (El.GF g2) e2 rs2) q1⟩
      |_=>exact q1.elim
     |_=>exact q1.elim⟩
end
theorem J5 {X:Cx} {md lm:List Md} {rm:Md} {i j:Nat} {x y:Str} {a b:Expr} {pa pb:aY} {m1 m2:Md} {px py pt pos:Pos} {kt k2 pt2} (hc:X.calm=true) (hN:X.N.Nodup) (hi:X.N[i]? =some x) (hj:X.N[j]? =some y) (hij:i≠j)
  (hx:X.env.scope.names.lookup x=some .local) (hy:X.env.scope.names.lookup y=some .local) (ha:VE X md a m1 pa) (hb:VE X md b m2 pb)
  (hw:swappedStores [.Tuple [.Name x px,.Name y py] kt pt] (.Tuple [a,b] k2 pt2) X.env=pure (some [x,y]))
  (hs:swapsWithSole [.Tuple [.Name x px,.Name y py] kt pt] (.Tuple [a,b] k2 pt2) pos.line X.env=pure false)
  (h1:fE (md.set i m1)=true) (l1:i<md.length) (h2:fE ((md.set i m1).set j m2)=true) (l2:j<md.length)
  (hs1:starEach [b] X.env=(false,eval b X.env)::starEach [] X.env:=by rfl) (hs2:starEach [a,b] X.env=(false,eval a X.env)::starEach [b] X.env:=by rfl) :
  VS X md ((md.set i m1).set j m2) lm rm (.Assign [.Tuple [.Name x px,.Name y py] kt pt] (.Tuple [a,b] k2 pt2) pos) (L9 i j (a8 pa (a8 pb aF))):=
 ⟨(a0S hc hN hi hj hij hx hy (eJ ha.h (eJ hb.h iN hs1) hs2) hw hs).imp λD σ H=>by
  rintro⟨env,W0,H0,W,E,R,q,l⟩
  refine⟨env,W0,H0,W,_,R,q,λx v W1 H1 g1 r1 q1=>⟨env,W0,H0,W1,_,R.step g1,q1,λy u W2 H2 g2 r2 q2=>?_⟩⟩
  refine⟨v,u,rfl,?_⟩
  dsimp only[aF] at q2
  rw[e8,e8] at q2
  exact l.nx _ W2 _ H2 ((R.set g1 r1 h1 l1).set g2 r2 h2 (by rw[a6h];exact l2)) ((g1.trans g2).ex R.ok) q2⟩
def a6Q(K:Aa)(ta tb:TE):TE:=λσ H Q=>ta σ H λx H1=>∃k,a2H K x H1 k/\if k=true then Q x H1 else tb σ H1 Q
theorem a0J{X:Cx}{a b:Expr}{rest:List Expr}{ta tb:TE}{pos:Pos}(ha:PE X a ta)(hb:PE X (.BoolOp .Or (b::rest) pos) tb):PE X (.BoolOp .Or (a::b::rest) pos) (a6Q X.K ta tb):=by
 intro pins s σ H Q I h
 refine BoolOp_or (cO (ha pins s σ H _ I h) λv s1 ⟨x,H1,I1,r1,q1⟩=>?_)
 obtain⟨k,t,q1⟩:=q1
 refine cO (a1R pins s1 σ H1 x v (λk' H2=>k'=k/\H2=H1) I1 r1 ⟨k,t,rfl,rfl⟩) λk' s2 ⟨H2,I2,e⟩=>?_
 obtain⟨rfl,rfl⟩:=e
 cases k' with
 |true=>exact⟨x,H2,I2,r1,q1⟩
 |false=>exact hb pins s2 σ H2 Q I2 q1
def P4(a b:aY):aY:=λenv Q=>a env λx=>match x with
 |.lst xs=>Br (!xs.isEmpty) (Q (.lst xs)) (b env Q)
 |_=>False
theorem a20 {X:Cx} {md:List Md} {el:El} {a b:Expr} {rest:List Expr} {pa pb:aY} {pos:Pos} (ha:VE X md a (.o el) pa) (hb:VE X md (.BoolOp .Or (b::rest) pos) (.o el) pb):VE X md (.BoolOp .Or (a::b::rest) pos) (.o el) (P4 pa pb):=⟨(a0J ha.h hb.h).imp λσ H K=>by
 rintro⟨env,W0,H0,W,Q,R,q,k⟩
 refine⟨env,W0,H0,W,_,R,q,λx v W1 H1 g1 r1 q1=>?_⟩
 cases x with
 | lst xs=>
  have r0:=r1
  obtain⟨a,o,rfl,oq⟩:=r1
  have b:=oq.its
  have hat:=oq.at_
  cases b with
  | @lst us _ h=>
   have he:(!us.isEmpty)= !xs.isEmpty:=by
    have:=h.len
    cases us<;>cases xs<;>simp at this ⊢
   refine⟨!us.isEmpty,.inl ⟨us,d9.of hat,rfl⟩,?_⟩
   rw[he]
   dsimp only at q1
   cases hb':(!xs.isEmpty) with
   |true=>rw[hb'] at q1;rw[if_pos rfl];exact k _ _ W1 H1 g1 r0 q1
   |false=>rw[hb'] at q1;rw[if_neg a0i];exact⟨env,W0,H0,W1,Q,R.step g1,q1,k.after g1⟩
 |_=>exact q1.elim⟩
def kO (i:Nat) (y:PV) (pj:aY) (Kp:bC->Prop) (env:bC):Prop:=match k9 env i with
 | some (some (.lst xs))=>pj env λj=>(match j with
  | .int k=>(match sR xs.length k with
   |some n=>Kp (eU env i (some (.lst (xs.set n y))))
   |none=>False)
  |_=>False)
 |_=>False
def xW(i i':Nat)(pe pj pj':aY):bO:=λE env=>pe env λt=>match t with
 |.tup [y,z]=>kO i y pj (λenv1=>kO i' z pj' E.nx env1) env
 |_=>False
section
variable{X:Cx}{md lm:List Md}{rm:Md}{i i':Nat}{el el':El}{e o o' j j':Expr}{pe pj pj':aY}{p p' pt pos:Pos}
theorem PY {W0 W1:Wd} {H0 H1:Hp} {σ:St} {env:bC} {v:V} {y:PV} {Kp:bC->Prop} {Q:St->Hp->Prop} (hi:md.getD i .no= .o el) (R1:Rl X.K md W0 H0 W1 σ env H1) (r1:Rep (λ_=>False) H1 v y) (q1:kO i y pj Kp env)
  (k:∀env' W2 H2,Rl X.K md W0 H0 W2 σ env' H2->Ex W1 H1 W2 H2->Kp env'->Q σ H2):O1 (eV i) (fH X.K md .bw pj) yO v σ H1 Q:=by
 unfold kO at q1
 rw[jH] at q1
 cases ev:env[i]? with
 |none=>rw[ev] at q1;exact q1.elim
 | some ox=>
  cases ox with
  |none=>rw[ev] at q1;exact q1.elim
  | some x=>
   rw[ev] at q1
   cases x with
   | lst xs=>
    obtain⟨a,ob,sv,oq⟩:=R1.ownAt hi ev
    refine⟨.ref a,sv,env,W0,H0,W1,_,R1,q1,λjv u W2 H2 g2 r2 q2=>?_⟩
    have R2:=R1.step g2
    obtain⟨a2,o2,sv2,oq2⟩:=R2.ownAt hi ev
    rw[sv] at sv2;cases sv2
    cases jv with
    | int k'=>
     dsimp only at q2
     cases hn:sR xs.length k' with
     |none=>rw[hn] at q2;exact q2.elim
     | some n=>
      rw[hn] at q2
      have b:=oq2.its
      have oq3:=oq2
      have hat:=oq2.at_
      generalize o2=oo at b hat oq3
      cases b with
      | @lst us _ h=>
       have r1':Rep (el.G W2.F H0) H2 v y:=(r1.mono (G':=λ_=>False) (λ_ z=>z) λa o z e=>(g2.ex R1.ok).im a o (z.elim (λz=>z.elim) λz=>z) e).weak λ_ z=>z.elim
       refine⟨a,us,k',n,rfl,Rep.ofInt r2,hat,by rw[h.len];exact hn,?_⟩
       have q2:Kp (eU env i (some (PV.lst (xs.set n y)))):=q2
       rw[e8] at q2
       exact k _ W2 _ (R2.put hi ev sv (.lst (h.set r1' n)) rfl) ((g2.ex R1.ok).trans (A7 (K:=X.K) (md:=md) (W0:=W0) (σ:=σ) (env:=env) (i:=i) oq3)) q2
    |_=>exact q2.elim
   |_=>exact q1.elim
theorem X2 {kt:Nat} (hc:X.calm=true) (ho:QE X o (eV i)) (hi:md.getD i .no= .o el) (ho':QE X o' (eV i')) (hi':md.getD i' .no= .o el') (he:VE X md e (.v .fl) pe) (hj:VE X md j .bw pj) (hj':VE X md j' .bw pj')
  (ha:∀v,assign (.Subscript o j p) X.env v=(do
   let ov <- holding [v] (eval o X.env)
   let iv <- holding [v,ov] (eval j X.env)
   standAt p
   holding [v,ov,iv] (setItem ov iv v)
   release [v,ov,iv] []):=by intro _;rfl)
  (ha':∀v,assign (.Subscript o' j' p') X.env v=(do
   let ov <- holding [v] (eval o' X.env)
   let iv <- holding [v,ov] (eval j' X.env)
   standAt p'
   holding [v,ov,iv] (setItem ov iv v)
   release [v,ov,iv] []):=by intro _;rfl)
  (hg1:(assignEach [.Subscript o j p,.Subscript o' j' p'] X.env).map (·.2)=assign (.Subscript o j p) X.env::(assignEach [.Subscript o' j' p'] X.env).map (·.2):=by rfl)
  (hg2:(assignEach [.Subscript o' j' p'] X.env).map (·.2)=assign (.Subscript o' j' p') X.env::(assignEach [] X.env).map (·.2):=by rfl)
  (hn:(assignEach [.Subscript o j p,.Subscript o' j' p'] X.env).length=2:=by rfl) (hst:(assignEach [.Subscript o j p,.Subscript o' j' p'] X.env).findIdx? (·.1)=none:=by rfl)
  (hs:swapsWithSole [.Tuple [.Subscript o j p,.Subscript o' j' p'] kt pt] e pos.line X.env=pure false:=by rfl) (hw:swappedStores [.Tuple [.Subscript o j p,.Subscript o' j' p'] kt pt] e X.env=pure none:=by rfl)
  (h1:(assignEach [.Tuple [.Subscript o j p,.Subscript o' j' p'] kt pt] X.env).map (·.2)=[assign (.Tuple [.Subscript o j p,.Subscript o' j' p'] kt pt) X.env]:=by rfl) :
  VS X md md lm rm (.Assign [.Tuple [.Subscript o j p,.Subscript o' j' p'] kt pt] e pos) (xW i i' pe pj pj'):=
 ⟨(A6 he.h (PM hc (v6 (A4 ho.h hj.h pM ha) (v6 (A4 ho'.h hj'.h pM ha') HY hg2) hg1) hn hst) hs hw h1).imp λD σ H=>by
 rintro⟨env,W0,H0,W,E,R,q,l⟩
 refine⟨env,W0,H0,W,_,R,q,λt v W1 H1 g1 r1 q1=>?_⟩
 match t,r1,q1 with
 | .tup [y,z],r1,q1=>
  have r1':Rep (λ_=>False) H1 v (.tup [y,z]):=r1
  obtain⟨a,vs,rfl,e,rs⟩:=r1'.ofTup
  match vs,rs,e with
  | [v1,v2],rs,e=>
   refine⟨a,[v1,v2],rfl,dQ.of e,rfl,v1,[v2],rfl,?_⟩
   refine PY hi (R.step g1) (rs.at_ 0 v1 y rfl rfl) q1 λenv' W2 H2 R2 x2 q2=>?_
   refine⟨v2,[],rfl,?_⟩
   have r2:Rep (λ_=>False) H2 v2 z:=(rs.at_ 1 v2 z rfl rfl).mono (λ_ z=>z) λa o z e=>x2.im a o (z.elim (λz=>z.elim) λz=>z) e
   refine PY hi' R2 r2 q2 λenv3 W3 H3 R3 x3 q3=>⟨rfl,?_⟩
   exact l.nx env3 W3 σ H3 R3 (((g1.ex R.ok).trans x2).trans x3) q3
  |[],rs,e=>have:=rs.len;simp at this
  |[_],rs,e=>have:=rs.len;simp at this
  |_::_::_::_,rs,e=>have:=rs.len;simp at this⟩
end
def RE(tk tv:TE)(acc:Ac):TS:=λD σ H=>tk σ H λx H1=>tv σ H1 λy H2=>∃k kvs,x=kV k/\H2 acc=some (.dK kvs)/\kvs.length<sizeLine/\D.nx σ (bF H2 acc (.dK (o5 kvs k y)))
def NB (k v:Expr) (acc:Value) (env:Env):Sem Unit:=do
 let kv <- eval k env
 let vv <- holding [kv] (eval v env)
 match acc with
 | .ref d=>do
  standAt {k.pos with endLine:=v.pos.endLine,endCol:=v.pos.endCol}
  holding [kv,vv] (dictSet d kv vv)
 |_=>unsupported "internal:dictcomp"
theorem V6{Y:Cx}(hx:Y.xe=λ_ _=>False){k v:Expr}{tk tv:TE}{acc:Addr}(hk:PE Y k tk)(hv:PE Y v tv):PB Y (NB k v (.ref acc) Y.env) (RE tk tv acc):=by
 intro pins s σ H D I h
 have h0:=hk pins s σ H _ I h
 rw[hx] at h0
 unfold NB
 refine a0b (a1l h0 (λkv s1 h1=>?_) λ_ _ z=>z)
 obtain⟨x,H1,I1,r1,q1⟩:=h1
 have h1:=hv pins s1 σ H1 _ I1 q1
 rw[hx] at h1
 refine a0b (a1w (a1l h1 (λvv s2 h2=>?_) λ_ _ z=>z))
 obtain⟨y,H2,I2,r2,kk,kvs,rfl,ha,hl,q2⟩:=h2
 refine a0b (a3w (a1w ?_))
 obtain⟨z,hd,vs,rel,dd⟩:=NE I2.hok ha
 have hz:vs.length<=sizeLine:=by rw[<- rel.length];exact z
 have hl2:(o5 kvs kk y).length<=sizeLine:=by have:=m4 kvs kk y;omega
 refine wpAny_dictSet_pairs (hsz:=hz) (xN r1) dd λh' dd' hs=>⟨σ,_,?_,q2⟩
 have he:∃q,h'.get? acc=some q:=let ⟨q,_,_,hq,_⟩:=dd';⟨q,hq⟩
 exact tE I2 (by rw[ha];exact True.intro) hs he (zL hl2 hd (rel.put kk r2) dd')
def a76(wi:TI)(g:TG)(tt:TT)(tk tv:TE)(n:Nat)(cap:List Nat):TE:=λσ H Q=>wi σ H λJ H1=>∀acc,H1 acc=none->
 oE J g (LP tt (RE tk tv acc)) {nx:=λ_ H'=>Q (.ref acc) H',rt:=λ_ _=>False} (EX n cap σ) (bF H1 acc (.dK []))
section
variable{X:Cx}{kx vx target iter:Expr}{ifs:List Expr}{scope:Scope}{pos:Pos}{N':List Str}{n:Nat}{cap:List Nat}{wi:TI}{g:TG}{tt:TT}{tk tv:TE}
theorem PP {x:Str} {pos' pos2:Pos} {gg:TG} (hgx:PG X (.Name x pos') gg) (hsw:swapsWith (.DictComp kx vx [⟨target,iter,ifs,0⟩] scope pos) (some (.Name x pos')) pos2.line X.env=pure true) (hc:X.calm=true) (S:LcOk X.N X.env.scope scope N' n cap) (hi:PI X target iter wi) (hg:∀C s H fp,PG (b6 X N' scope C s H fp) target g)
    (ht:∀C s H fp,M7 (b6 X N' scope C s H fp) ifs tt) (hk:∀C s H fp,PE (b6 X N' scope C s H fp) kx tk) (hv:∀C s H fp,PE (b6 X N' scope C s H fp) vx tv) (hs:∀x,foldedSetIterable iter X.env x=pure x:=by intro _;rfl) :
    PS X (.Assign [.Name x pos'] (.DictComp kx vx [⟨target,iter,ifs,0⟩] scope pos) pos2) (DF (a76 wi g tt tk tv n cap) gg):=by
  intro pins s σ H D I h
  have hfree:∀y∈scope.names,y.2= .free->∃c,X.env.cells.lookup y.1=some c:=λy hy e=>I.ok.has y.1 (.inl (S.frees y hy e))
  rw[exec_Assign_Name_used x pos' _ pos2 hsw]
  refine a0b (a3w (a0b ?_))
  rw[arm_evalThenUse_DictComp]
  refine a0b ?_
  refine a4z (use:=some (assign (.Name x pos') X.env)) (Q:=λ_ s'=>wpAny (model X.prog X.w) X.A (pure ()) (λ_ s'=>wpAny (model X.prog X.w) X.A (pure Flow.next) (SP X pins D) X.xe s') X.xe s') rfl hs (kF hfree) S.kind S.names ?_
  refine cO (hi pins s σ H _ I h) λv s1 h1=>cO h1 λitv s2 h2=>?_
  obtain⟨it,fp,tn,J,H2,rfl,I2,T,st2,f2,body⟩:=h2
  refine a1u ?_
  have I3:Inv X pins σ (bF H2 s2.heap.objs.size (.dK [])) {s2 with heap:=s2.heap.push {cls:=.type "dict",dict:=none,data:=.dict #[]} }:=I2.laid (a:=s2.heap.objs.size) (o:=.dK []) (t':=s2.toks) (λ_ _ q=>a0f _ q) (a0l _) (BI s2.heap I2.big)
  have hacc:H2 s2.heap.objs.size=none:=I2.fresh
  have body:=body _ hacc
  have hlt:∀b∈fp,b<s2.heap.objs.size:=λb hb=>by
    obtain⟨o,e,_⟩:=T.obj 0 _ st2 b hb
    exact a0n e
  have hf3:∀b∈fp,jD X pins (bF H2 s2.heap.objs.size (.dK [])) b:=λb hb=>
    ⟨by rw[aH (a0w (hlt b hb))];exact (f2 b hb).1,(f2 b hb).2⟩
  refine a5t S.nocell (by intro y hy;cases hy) (λh4 ns4 sb4=>?_) S.kind
  generalize hs3:({s2 with heap:=s2.heap.push {cls:=.type "dict",dict:=none,data:=.dict #[]} }:Ab)=s3 at*
  have hsz:s2.heap.objs.size<s3.heap.objs.size:=by rw[<- hs3,a3n];exact a3m _
  have k4:∀b o,s3.heap.get? b=some o->h4.get? b=some o:=λb o e=>(sb4.2 b (a0w (a0n e))).trans (a0f _ e)
  generalize hH3:bF H2 s2.heap.objs.size (.dK [])=H3 at*
  have I3':Inv X pins σ H3 s3:=I3
  have IY:=oQ (tk:=s3.toks+([]:List (Str×Value)).length) S I3' hf3 (λb hb=>a2t (hlt b hb) hsz) ns4 k4
  have fpY:∀b∈fp,jD (b6 X N' scope s3.heap.objs.size s3 H3 fp) [] H3 b:=λb hb=>by
    obtain⟨f0,f1,f2',f3,f4,f5⟩:=hf3 b hb
    refine⟨f0,a0w (a2t (hlt b hb) hsz),λz=>?_,.inl hb,λx c e=>f4 x c (lW hfree e),λp hp=>absurd hp (by simp[b6])⟩
    rcases a0q.mp (I3'.stkSub b z) with z|z
    · exact f1 z
    · exact f2' z
  have tn4:tn 0 h4:=T.keep 0 _ _ st2 λb hb o e=>k4 b o (by rw[<- hs3];exact a0f _ e)
  have loop:codeAny (model X.prog X.w) X.A (.compLoop (.DictComp kx vx [⟨target,iter,ifs,0⟩] scope pos) 0 (.ref it) (.ref s2.heap.objs.size) (b6 X N' scope s3.heap.objs.size s3 H3 fp).env)
      (compPost (model X.prog X.w) X.A X.xe (some (assign (.Name x pos') X.env)) (λ_ s'=>wpAny (model X.prog X.w) X.A (pure ()) (λ_ s'=>wpAny (model X.prog X.w) X.A (pure Flow.next) (SP X pins D) X.xe s') X.xe s') (.ref s2.heap.objs.size) s3.heap.objs.size) {s3 with heap:=h4,toks:=s3.toks+([]:List (Str×Value)).length}:=by
    refine tZ (Y:=b6 X N' scope s3.heap.objs.size s3 H3 fp) (act:=NB kx vx (.ref s2.heap.objs.size) (b6 X N' scope s3.heap.objs.size s3 H3 fp).env) (.dict _ _ _ _ _) hc rfl rfl (hg _ _ _ _) (ht _ _ _ _) (V6 rfl (hk _ _ _ _) (hv _ _ _ _)) T IY tn4 fpY body λi σ5 H5 s6 I6 qn=>?_
    obtain⟨m,hn,_⟩:=I6.loc
    have hs':Heap.SameBut s3.heap.objs.size s6.heap s6.heap:=⟨rfl,λ_ _=>rfl⟩
    have IX:Inv X pins σ H5 s6:=by
      have ub:=I6.base
      have ne:∀b o,s3.heap.get? b=some o->b≠s3.heap.objs.size:=λb o e=>a0w (a0n e)
      refine I3'.call' (s':=s6) (ch:=fp) I6.os ⟨λb o e z1 z2 z3=>(hs'.2 b (ne b o e)).trans (ub.keep b o e z1 z2 z3),λb o e z1 z2 z3=>?_,ub.free,λb o e z=>?_,ub.tups,ub.frzs,ub.tbls⟩ (tF I6.hok I6.free hs') I6.bare λb hb=>⟨(hf3 b hb).2.2.2.1,(hf3 b hb).2.1,(hf3 b hb).2.2.2.2.1,(hf3 b hb).2.2.2.2.2⟩
      · obtain⟨sl,e'⟩:=ub.slot b o e z1 z2 z3
        exact⟨sl,(hs'.2 b (ne b o e)).trans e'⟩
      · obtain⟨o',e'⟩:=ub.there b o e z
        exact⟨o',(hs'.2 b (ne b o e)).trans e'⟩
    have fC:jD X pins H5 s3.heap.objs.size:=I3'.fpOk (a0l _) I6.free
    have IXp := IX.pinned (fp := [s3.heap.objs.size]) (fun b hb => by have e : b=s3.heap.objs.size:=by simpa using hb
                                                                      subst e;exact fC) (λb hb=>by
      have e:b=s3.heap.objs.size:=by simpa using hb
      subst e
      obtain⟨o,es,ep,ho,hd,_⟩:=hn
      exact⟨o,ho,λv z=>by rw[hd] at z;cases z⟩)
    show wpAny _ _ (assign (.Name x pos') X.env (.ref s2.heap.objs.size)) _ _ s6
    refine cO (hgx _ s6 σ H5 (.ref s2.heap.objs.size) (.ref s2.heap.objs.size) _ IXp rfl qn) λ_ s7 h7=>?_
    obtain⟨σ7,H7,I7,q7⟩:=h7
    obtain⟨o,es,ep,ho,hd⟩:=id hn
    have z:=I7.pin (s3.heap.objs.size,o) (a0z _ (a0z _ (eN (by simp) ho)))
    refine⟨m,⟨o,es,ep,z.1,hd⟩,λh' hs'=>a0e (a0e ⟨σ7,H7,?_,q7⟩)⟩
    obtain⟨f0,f1,f2,f3,f4,f5⟩:=fC
    exact I7.unpinned.turned (t':=s7.toks) (it:=s3.heap.objs.size) (λb o hb e=>(hs'.2 b hb).trans e) z.2.1 f1 f3 f4 f5
  exact jE (.dict _ _ _ _ _) rfl loop (T.self _ 0 _ _ _ tn4 loop)
end
def wK (g:iU) (tt:fD) (tk tv:aY) (Q:PV->Prop):List PV->List bA->List PV->bC->Prop
 |[],ks,xs,_=>Q (.dic ks xs)
 | i::r,ks,xs,env=>g i env λenv1=>tt env1 λb=>Br b (tk env1 λx=>tv env1 λy=>match KJ x with
   |some k=>ks.length<1000/\wK g tt tk tv Q r (K1 ks k) (DO ks xs k y) env1
   |none=>False) (wK g tt tk tv Q r ks xs env1)
def a29(s:n9)(g:iU)(tt:fD)(tk tv:aY)(cp:bC->bC):aY:=λenv Q=>s env λitems=>wK g tt tk tv Q items [] [] (cp env)
structure DicIn(acc:Addr)(H0:Hp)(W:Wd)(H:Hp)(ks:List bA)(xs:List PV):Prop where
 ex:∃vs,H acc=some (.dK (ks.zip vs))/\ks.length=vs.length/\Reps (λ_=>False) H vs xs
 new:H0 acc=none
 nF:¬W.F acc
 nS:¬W.S acc
 nL:¬W.L acc
 nZ:¬W.Z acc
theorem DicIn.go{acc:Addr}{H0:Hp}{W W':Wd}{H H':Hp}{ks:List bA}{xs:List PV}(x:DicIn acc H0 W H ks xs)(w:Wok W H)(g:Go W H W' H'):DicIn acc H0 W' H' ks xs:=by
 obtain⟨vs,h1,h2,h3⟩:=x.ex
 exact⟨⟨vs,g.kp acc _ h1 x.nS,h2,h3.mono (λ_ z=>z) λa o z e=>g.kp a o e (w.imm e (z.elim (λz=>z.elim) λz=>z))⟩,x.new,g.nFF h1 x.nF,g.nSS h1 x.nS,by rw[g.kl];exact x.nL,g.nZZ h1 x.nZ⟩
theorem T6 {K:PySem.W.Frag} {mb m1:List Md} {eli:El} {g:iU} {tt:fD} {tk tv:aY} {acc:Addr} {J:It} {items:List PV} {W0 W1:Wd} {H0 H1:Hp} {Q:PV->Prop} {D:Ends} (hle:jG m1 mb=true) (hbl:l5 m1=true) (sr:Src J eli H0 W1 H1 items)
  {σ:St} {env:bC} {ks:List bA} {xs:List PV} (q:wK g tt tk tv Q items ks xs env) {W2:Wd} {H2:Hp} (R:Rl K mb W0 H0 W2 σ env H2) (x12:Ex W1 H1 W2 H2) (x:DicIn acc H0 W2 H2 ks xs)
  (k:∀(env':bC) (W':Wd) (σ':St) (H':Hp) (ks':List bA) (xs':List PV),Rl K mb W0 H0 W' σ' env' H'->Ga acc W2 H2 W' H'->DicIn acc H0 W' H' ks' xs'->Q (.dic ks' xs')->D.nx σ' H') :
  oE J (uK K mb m1 eli g) (LP (rO K m1 tt) (RE (fH K m1 .bw tk) (fH K m1 (.v .fl) tv) acc)) D σ H2:=by
 refine ⟨λi m σb Hb=>m=items.length-i/\i<=items.length/\∃(envb:bC) (Wb:Wd) (kb:List bA) (xb:List PV),Rl K mb W0 H0 Wb σb envb Hb/\Ga acc W2 H2 Wb Hb/\DicIn acc H0 Wb Hb kb xb/\wK g tt tk tv Q (items.drop i) kb xb envb,
  ⟨items.length,by simp,a3c _,env,W2,ks,xs,R,.refl,x,by simpa using q⟩,?_⟩
 rintro i m σb Hb ⟨rfl,hi,envb,Wb,kb,xb,Rb,gab,ib,qb⟩
 have exb:Ex W1 H1 Wb Hb:=x12.trans gab.ex
 by_cases hlt:i<items.length
 ·rw [a3f hlt] at qb
  refine .inr ⟨sr.go i Wb Hb exb hlt,λσ' H'=>i+1<=items.length/\∃(envb:bC) (Wb:Wd) (kb:List bA) (xb:List PV),Rl K mb W0 H0 Wb σ' envb H'/\Ga acc W2 H2 Wb H'/\DicIn acc H0 Wb H' kb xb/\wK g tt tk tv Q (items.drop (i+1)) kb xb envb,λσ' H' z=>⟨items.length-(i+1),by omega,rfl,z.1,z.2⟩,λv H3 y=>?_⟩
  obtain⟨g3,xx,ex,rx⟩:=sr.yld i Wb Hb v H3 exb Rb.ok hlt y
  rw[a0a hlt] at ex
  cases ex
  refine⟨envb,W0,H0,Wb,_,_,Rb.step g3,rx,qb,λenv' σ' R' z=>?_⟩
  refine⟨env',W0,H0,Wb,_,R',z,λkk W4 H4 g4 q4=>?_⟩
  have x4:=(ib.go Rb.ok g3).go g3.ok g4
  have ga4:Ga acc W2 H2 W4 H4:=(gab.trans (g3.toGa Rb.ok)).trans (g4.toGa g3.ok)
  cases kk with
  | false=>
   dsimp only
   rw[if_neg a0i]
   exact⟨hlt,env',W4,kb,xb,(R'.step g4).less hle,ga4,x4,q4⟩
  | true=>
   dsimp only
   rw[if_pos rfl]
   have R4:=R'.step g4
   refine⟨env',W0,H0,W4,_,R4,q4,λkp u W5 H5 g5 r5 q5=>⟨env',W0,H0,W5,_,R4.step g5,q5,λyp u2 W6 H6 g6 r6 q6=>?_⟩⟩
   cases hk:KJ kp with
   |none=>rw[hk] at q6;exact q6.elim
   | some kk=>
    rw[hk] at q6
    obtain⟨hlen,q6⟩:=q6
    have hu:u=kV kk:=HH (S:=λ_=>True) hk r5
    subst hu
    have x6:=(x4.go R4.ok g5).go g5.ok g6
    obtain⟨vs,h1,h2,h3⟩:=x6.ex
    refine⟨kk,_,rfl,h1,by rw[a5p,<- h2,Nat.min_self];exact a2t hlen (by decide),hlt,env',W6,K1 kb kk,DO kb xb kk yp,?_⟩
    rw[IE h2]
    have R6:=(R4.step g5).step g6
    have keep:∀a o,(False\/o.imm=true)->H6 a=some o->(bF H6 acc (.dK ((K1 kb kk).zip (DO kb vs kk u2)))) a=some o:=λa o z e=>by
     rw[aH (λz2=>by subst z2;rw[h1] at e;cases e;exact z.elim (λz=>z) λz=>by cases z)];exact e
    refine⟨(R6.tmp hbl x6.new x6.nF x6.nS x6.nL x6.nZ h1 rfl (λ_ _ z=>by cases z)).less hle,?_,⟨⟨_,b5,GS h2 kk u2,?_⟩,x6.new,x6.nF,x6.nS,x6.nL,x6.nZ⟩,q6⟩
    ·refine (ga4.trans ((g5.trans g6).toGa R4.ok)).trans ⟨λV G hG g=>g.tmp hG x6.nF x6.nS x6.nZ,⟨λ_ h=>h,λb o f e=>by rw[aH (λz=>by subst z;exact x6.nF f)];exact e,λb o im e=>keep b o (.inr im) e⟩⟩
    ·exact (h3.dput kk r6).mono (λ_ z=>z) λa o z e=>keep a o z e
 ·have e:i=items.length:=by omega
  subst e
  rw[a6d] at qb
  exact .inl ⟨sr.stop Wb Hb exb,k envb Wb σb Hb kb xb Rb gab ib qb⟩
theorem T5 {K:PySem.W.Frag} {md mb:List Md} {eli:El} {s:n9} {g:iU} {tt:fD} {tk tv:aY} {n:Nat} {cap:List Nat} {σ:St} {H:Hp} {Q:VK} {cp:bC->bC} (hcp:∀env,cp env=qT n cap env) (hle:jG mb (fZ n cap md)=true) (hbl:l5 mb=true)
  (h:fH K md (.o .fl) (a29 s g tt tk tv cp) σ H Q):a76 (xR K md eli s) (uK K (fZ n cap md) mb eli g) (rO K mb tt) (fH K mb .bw tk) (fH K mb (.v .fl) tv) n cap σ H Q:=by
 obtain⟨env,W0,H0,W,Q',R,q,k⟩:=h
 refine⟨env,W0,H0,W,_,R,q,λitems W1 H1 J g1 sr q1=>?_⟩
 intro acc hacc
 rw[hcp] at q1
 have h0acc:H0 acc=none:=R.go.free (g1.free hacc)
 have R1:=R.step g1
 have Rb:=FS (n:=n) (cap:=cap) R1 (λa=>∃o,H1 a=some o) (λa o e=>⟨o,e⟩)
 generalize hW1b:({W1 with L:=λa=>∃o,H1 a=some o}:Wd)=W1b at Rb
 generalize hW0b:({W0 with L:=λa=>∃o,H1 a=some o}:Wd)=W0b at Rb
 have f1:W1b.F=W1.F:=by rw[<- hW1b]
 have s1:W1b.S=W1.S:=by rw[<- hW1b]
 have l1:¬W1b.L acc:=by rw[<- hW1b];rintro⟨o,e⟩;rw[hacc] at e;cases e
 have okb:Wok W1b H1:=Rb.ok
 have nF1:¬W1b.F acc:=λz=>okb.offF hacc z
 have nS1:¬W1b.S acc:=λz=>okb.offS hacc z
 have nZ1:¬W1b.Z acc:=λz=>okb.offZ hacc z
 have z1:W1b.Z=W1.Z:=by rw[<- hW1b]
 have gl:Go W1b H1 W1b (bF H1 acc (.dK [])):=Go.laid okb hacc
 have exW:Ex W1 H1 W1b (bF H1 acc (.dK [])):=by
  have x:=gl.ex okb
  exact⟨λa h=>by rw[f1];exact h,λa o h e=>x.kp a o (by rw[f1];exact h) e,x.im⟩
 refine T6 hle hbl sr q1 (Rb.step gl) exW ⟨⟨[],b5,rfl,.nil⟩,h0acc,nF1,nS1,l1,nZ1⟩ λenvb Wb σb Hb kb xb Rr ga x qb=>?_
 have gb:Go W1b H1 Wb Hb:=ga.ga W1b H1 hacc gl
 have gf:Go W H {Wb with L:=W.L} Hb:=by
  have a:=g1
  refine⟨λb h=>gb.lF b (by rw[f1];exact a.lF b h),λb h=>gb.lS b (by rw[s1];exact a.lS b h),λb h=>?_,λb h=>?_,λb o e s=>?_,⟨gb.ok.fF,gb.ok.sS,gb.ok.dj,gb.ok.zZ,gb.ok.zF,gb.ok.zS⟩,?_,rfl,λb h=>gb.lZ b (by rw[z1];exact a.lZ b h),λb h=>?_⟩
  ·rcases gb.nF b h with z|z
   ·exact a.nF b (by rw[<- f1];exact z)
   ·exact .inr (a.free z)
  ·rcases gb.nS b h with z|z
   ·exact a.nS b (by rw[<- s1];exact z)
   ·exact .inr (a.free z)
  ·refine gb.kp b o (a.kp b o e s) ?_
   rw[s1];exact a.nSS e s
  ·show Wb.K=W.K
   rw[gb.kk,<- hW1b];exact a.kk
  ·rcases gb.nZ b h with z|z
   ·exact a.nZ b (by rw[<- z1];exact z)
   ·exact .inr (a.free z)
 obtain⟨vs,h1,h2,h3⟩:=x.ex
 refine k _ (.ref acc) {Wb with L:=W.L} Hb gf ⟨acc,.dK (kb.zip vs),rfl,?_⟩ qb
 exact⟨g1.free hacc,x.nF,x.nS,h1,.dic h2 (h3.weak λ_ z=>z.elim),x.nZ⟩
section
variable{X:Cx}{kx vx target iter:Expr}{ifs:List Expr}{scope:Scope}{pos pos2 pos':Pos}{N':List Str}{n i:Nat}{x:Str}{cap:List Nat}{md mb lm:List Md}{rm:Md}{eli:El}{s:n9}{g:iU}{tt:fD}{tk tv:aY}
theorem RZ {cp:bC->bC} (hN:X.N.Nodup) (hix:X.N[i]? =some x) (hx:JA X.env.scope x) (hsw:swapsWith (.DictComp kx vx [⟨target,iter,ifs,0⟩] scope pos) (some (.Name x pos')) pos2.line X.env=pure true) (hf:X.fn x=true\/X.env.scope.names.lookup x=some .local)
  (hm:fE (md.set i (.o .fl))=true) (hl:i<md.length)
  (hcp:∀env,cp env=qT n cap env) (hc:X.calm=true) (S:LcOk X.N X.env.scope scope N' n cap) (hle:jG mb (fZ n cap md)=true) (hbl:l5 mb=true) (hi:VI X md eli target iter s) (hg:∀C s H fp,VG (b6 X N' scope C s H fp) (fZ n cap md) mb eli target g)
  (ht:∀C s H fp,VTs (b6 X N' scope C s H fp) mb ifs tt) (hk:∀C s H fp,VE (b6 X N' scope C s H fp) mb kx .bw tk) (hv:∀C s H fp,VE (b6 X N' scope C s H fp) mb vx (.v .fl) tv) (hs:∀x,foldedSetIterable iter X.env x=pure x:=by intro _;rfl) :
  VS X md (md.set i (.o .fl)) lm rm (.Assign [.Name x pos'] (.DictComp kx vx [⟨target,iter,ifs,0⟩] scope pos) pos2) (bK i (a29 s g tt tk tv cp)):=
 ⟨(PP (tI hN hix hx hf) hsw hc S hi.h (λC s H fp=>(hg C s H fp).h) (λC s H fp=>(ht C s H fp).h) (λC s H fp=>(hk C s H fp).h) (λC s H fp=>(hv C s H fp).h) hs).imp λD σ H=>by
 rintro⟨env,W0,H0,W,E,R,q,l⟩
 refine T5 hcp hle hbl ⟨env,W0,H0,W,_,R,q,λx v W1 H1 g1 r1 q1=>?_⟩
 rw[e8] at q1
 exact l.nx _ W1 _ H1 (R.set g1 r1 hm hl) (g1.ex R.ok) q1⟩
end
section
variable{prog:Program}{w:World}{A:Around}{E:Value->Ab->Prop}{s:Ab}
abbrev bB(w:World):Obj:={cls:=.type "set",dict:=none,data:=.set #[] 0 (.fresh 0 0 (!w.params.followText "set-order"))}
theorem HC{h:Heap}{a:Addr}(e:h.get? a=some (bB w)):bT prog w a (λ_=>false) 0 h:=by
 refine⟨_,#[],0,_,e,⟨rfl,rfl,rfl⟩,rfl,λe he=>by simp at he,λk=>by simp,by decide,by rfl,rfl,?_,by simp⟩
 cases w.params.followText "set-order" with
 |true=>exact .inl rfl
 |false=>exact .inr ⟨rfl,λ_=>List.Pairwise.nil⟩
theorem tY (a:Value) {Q₁:Value->Shared->Prop}
  (h:Q₁ (.ref s.heap.objs.size) {s with heap:=s.heap.push (bB w)}) :
  codeAny (model prog w) A (.call (.builtin "set.__new__") ⟨[.type "set",a],[]⟩) (wants Q₁ E) s:=by
 refine codeAny_of_tree ?_
 show wpAny _ A.in1 (do checkBuiltinCall "set.__new__" ⟨[.type "set",a],[]⟩;again (.builtin "set.__new__" ⟨[.type "set",a],[]⟩)) _ _ s
 refine a0b (a6l (F.newCall_set_1 a) (a0e ⟨a5f F.plain_set_new _,a3o F.entry_set_new ?_⟩))
 rw[a2q F.plain_set_new _]
 unfold Builtin.«set.__new__» Builtin.Frozenset.newClass
 have hsub:=sub_set_self
 obtain⟨hp,g,d,tk,os⟩:=s
 dsimp only
 wp_walk
 refine a4e (a0e ?_)
 dsimp only
 simp only[newObj]
 refine a0b (wpAny_alloc (a0e ?_))
 exact a0e h
section
variable{R:Result->Ab->Prop}{I:Ac}{fp wr:List Ac}{G:Array GenState->Array GenState->Prop}{n:Nat}{P:Nat->Value->Prop}{St:Nat->Ab->Prop}
theorem bT.congr{a:Addr}{S S':Int->Bool}{n n':Nat}{h:Heap}(x:bT prog w a S n h)(e:∀k,S k=S' k)(en:n=n'):bT prog w a S' n' h:=by
 have:S=S':=funext e
 subst this;subst en;exact x
theorem AN (W:WalksS prog w A.in1 I fp wr G n P St) (S:Addr) (hSf:S∉fp)
  (val:Nat->Int) (hval:∀i v,P i v->∃t,v= .int (val i) t) (hb:n+1<scanBound) :
  ∀ (k i:Nat) (s:Shared),n-i=k->i<=n->St i s->
   bT prog w S (λk'=>(firstMet val i).any (·==k')) (firstMet val i).length s.heap->
   (∀s',Moved (S::wr) G s s'->bT prog w S (λk'=>(firstMet val n).any (·==k')) (firstMet val n).length s'.heap->R (.ok (.ret .none)) s')->
   codeAny (model prog w) A (.builtin "set.update.loop" ⟨[.ref S,.ref I],[]⟩) R s:=by
 have hSw:S∉wr:=λh=>hSf (W.sub _ h)
 have hsub:∀b∈wr,b∈S::wr:=λb hb=>a0k _ hb
 intro k
 induction k with
 | zero=>
  intro i s hk hi hst hS hR
  have hin:i=n:=by omega
  subst hin
  refine a3o F.entry_set_update_loop ?_
  rw[a2q a7k _]
  show wpAny _ A.in1 (pyNext (.ref I) >>=_) _ _ s
  refine a0b (W.done s _ _ hst λs' hm=>?_)
  show wpAny _ A.in1 (ret Value.none) _ _ s'
  exact a0e (hR s' (hm.mono hsub) (hS.mono λo e=>hm.heap S _ hSw e))
 | succ k ih=>
  intro i s hk hi hst hS hR
  have hlt:i<n:=by omega
  refine a3o F.entry_set_update_loop ?_
  rw[a2q a7k _]
  show wpAny _ A.in1 (pyNext (.ref I) >>=_) _ _ s
  refine a0b (W.item i s _ _ hlt hst λv s' hP hst' hm=>?_)
  obtain⟨t,rfl⟩:=hval i v hP
  have hS':bT prog w S (λk'=>(firstMet val i).any (·==k')) (firstMet val i).length s'.heap:=hS.mono λo e=>hm.heap S _ hSw e
  show wpAny _ A.in1 (holding [Value.int (val i) t] (setAdd S (.int (val i) t)) >>=_) _ _ s'
  refine a0b (a1w ?_)
  unfold setAdd
  refine a1w ?_
  refine a0b ((intKind prog w).pyHash (k:=val i) (intKind_is _ _ _ _) ?_)
  have hroom:(firstMet val i).length+1<scanBound:=by have:=firstMet_length_le val i;omega
  refine lV (s:={s' with toks:=s'.toks+1}) (intKind_is _ _ _ _) rfl hS' hroom λh' hsb hS2=>?_
  have hSi:bT prog w S (λk'=>(firstMet val (i+1)).any (·==k')) (firstMet val (i+1)).length h':=
   hS2.congr (λk'=>by rw[firstMet_succ,step_any]) (by rw[firstMet_succ,step_length])
  refine a0e ⟨a5f a7k _,ih (i+1) _ (by omega) hlt (W.frame _ s' _ _ hst' (Nat.le_succ _) λb hb o e=>?_) hSi λs'' hm'' hS''=>?_⟩
  ·rw[hsb.2 b (λh:b=S=>hSf (by rw[<- h];exact hb))];exact e
  ·refine hR s'' (Moved.trans W.gtrans ((hm.mono hsub).then_heap (Nat.le_succ _) λb o hb e=>?_) hm'') hS''
   rw[hsb.2 b (λh:b=S=>hb (by rw[h];exact a0m))];exact e
end
end
end L2
namespace PySem
section
variable{prog:Program}{w:World}{A:Around}{E:Value->Ab->Prop}{s:Ab}
set_option maxHeartbeats 3200000 in
theorem call_set_list_x {l:Addr} {items:Array Value} {ns:List Int} {Q:Value->Shared->Prop}
  (hh:A.handled=none) (hl:s.heap.IsList l items) (hi:PyProof.Rows.IntsAre items.toList ns) (hb:items.size+1<scanBound)
  (h:∀(h':Heap) (tk:Nat),L2.bT prog w s.heap.objs.size (λk'=>(PyProof.Rows.firstMet (λi=>ns.getD i 0) items.size).any (·==k')) (PyProof.Rows.firstMet (λi=>ns.getD i 0) items.size).length h'->
   (∀b o,b<s.heap.objs.size->s.heap.get? b=some o->h'.get? b=some o)->Q (.ref s.heap.objs.size) {s with heap:=h',toks:=tk}) :
  wpAny (model prog w) A (call (.type "set") [.ref l]) Q E s:=by
 obtain⟨c,tl,hmro⟩:=a5a.mro
 have hmade:=a5a.made
 have hsub:=a5a.sub
 refine wpAny_call (codeAny_of_tree ?_)
 show wpAny _ _ (callAny (.type "set") _) _ _ _
 refine a0e ⟨Code.quiet_builtin _ (by decide+kernel),a3o F.entry_type_call ?_⟩
 rw[Around.under_plain (weight_type_call_type "set" [.ref l] []) rfl]
 have h1:=a5a.notType
 have h2:=a5a.canCreate
 have hct:=F.typeCall_set_1 (.ref l)
 repeat (any_goals (first|assumption|wp_step))
 refine a5z (L2.tY (w:=w) (.ref l) (E:=E) (Q₁:=λobj s₁=>obj= .ref s.heap.objs.size/\s₁={s with heap:=s.heap.push (L2.bB w)}) ⟨rfl,rfl⟩) λr s₁ hr=>?_
 cases r with
 |error e=>exact hr
 | ok fl=>
  cases fl with
  | ret obj=>
   obtain⟨rfl,rfl⟩:=hr
   have hS:(s.heap.push (L2.bB w)).get? s.heap.objs.size=some (L2.bB w):=a1b _ rfl
   have hT:Shared.TypeIs {s with heap:=s.heap.push (L2.bB w)} (.ref s.heap.objs.size) "set":=⟨_,hS,rfl⟩
   have hli:=a5a.init.lookup
   have hbi:=a5a.init.bind (.ref s.heap.objs.size)
   repeat (any_goals (first|assumption|wp_step))
   refine a5z (codeAny_call_builtin (R:=wants (λr s₂=>r= .none/\∃h' tk,s₂={s with heap:=h',toks:=tk}/\
     L2.bT prog w s.heap.objs.size (λk'=>(PyProof.Rows.firstMet (λi=>ns.getD i 0) items.size).any (·==k')) (PyProof.Rows.firstMet (λi=>ns.getD i 0) items.size).length h'/\
     (∀b o,b<s.heap.objs.size->s.heap.get? b=some o->h'.get? b=some o)) E) a5a.init.plain F.entry_set_init (check_set_init_1 hT ?_)) λr₂ s₂ hr₂=>?_
   ·obtain ⟨ol,hol,hcl,nl,hdl⟩:=hl
    obtain⟨ocls,odict,odata,oslots⟩:=ol
    simp only at hcl hdl
    subst hcl;subst hdl
    have hol':(s.heap.push (L2.bB w)).get? l=some {cls:=.type "list",dict:=odict,data:=.seq items nl,slots:=oslots}:=a0f _ hol
    have hsls:=F.sub_list_set
    have hslf:=F.sub_list_frozenset
    have hne:(Value.type "list"==Value.type "dict")=false:=by decide
    have hl1:(s.heap.push (L2.bB w)).IsList l items:=⟨_,hol',rfl,nl,rfl⟩
    unfold Builtin.«set.__init__» noKeywords Builtin.Frozenset.updateFrom
    generalize hPI:pyIter=PI
    wp_walk
    subst hPI
    refine wpAny_pyIter_list hl1 ?_
    refine a0b (wpAny_runValue ?_)
    have hlS:l<s.heap.objs.size:=a0n hol
    have hh3:A.in1.in1.in1.handled=none:=by simp[hh]
    have hneI:l≠(s.heap.push (L2.bB w)).objs.size:=by
     rw[a3n];exact a0w (Nat.lt_succ_of_lt hlS)
    have hSf:s.heap.objs.size∉[(s.heap.push (L2.bB w)).objs.size,l]:=by
     rw[a3n];simp only[a0q,a5v,a1e,a3j,not_or]
     exact⟨a0w (a3m _),a5h hlS⟩
    have hval:∀(i:Nat) (v:Value),items[i]? =some v->∃t,v= .int ((λi=>ns.getD i 0) i) t:=λi v hv=>
     PyProof.Rows.IntsAre.int_at hi i v (by rw[a2k];exact hv)
    refine L2.AN ((Walks.list hh3 _ l hneI items).toS) s.heap.objs.size
     hSf (λi=>ns.getD i 0) hval hb (items.size-0) 0 _ (by omega) (a3c _)
     ⟨⟨_,a1b _ rfl,rfl,rfl⟩,(hl1.push _)⟩ ?hS0 ?hR
    case hS0=>
     have hget:((s.heap.push (L2.bB w)).push {cls:=.type "list_iterator",data:=.fields #[.ref l,.int 0 0]}).get? s.heap.objs.size
       =some (L2.bB w):=a0f _ hS
     exact (L2.HC hget).congr (λ_=>rfl) rfl
    case hR=>
     intro s' hm hS'
     obtain⟨h',g',d',tk',os'⟩:=s'
     have eg:g'=s.gens:=hm.gens
     have ed:d'=s.drawn:=hm.drawn
     have eo:os'=s.os:=hm.os
     subst eg;subst ed;subst eo
     show wpAny _ _ _ _ _ _
     refine a0e ?_
     show wpAny _ _ (ret Value.none) _ _ _
     refine a0e ⟨rfl,h',tk',rfl,hS',λb o hb e=>?_⟩
     have hb1:b≠s.heap.objs.size:=a0w hb
     have hb2:b≠(s.heap.push (L2.bB w)).objs.size:=by
      rw[a3n];exact a0w (Nat.lt_succ_of_lt hb)
     exact hm.heap b o (by simp only[a0q,a5v,a1e,a3j,not_or];exact⟨hb1,hb2⟩) (a0f _ (a0f _ e))
   ·cases r₂ with
    |error e=>exact hr₂
    | ok fl₂=>
     cases fl₂ with
     | ret r=>
      obtain⟨rfl,h',tk,rfl,hS',hk'⟩:=hr₂
      repeat (any_goals (first|assumption|wp_step))
      exact h _ _ hS' hk'
     |_=>exact hr₂.elim
  |_=>exact hr.elim
end
end PySem
namespace L2
open PySem PySem.Spec PyProof.Rows
theorem BN{α β:Type}{f f':α->Option β}:∀ {l:List α},(∀a∈l,f' a=f a)->l.filterMap f'=l.filterMap f
 |[],_=>rfl
 |a::l,h=>by rw[a1n,a1n,h a a0m,BN λb hb=>h b (a0k _ hb)]
theorem HA {α β:Type} {a:α} {x:β} {f f':α->Option β} (h1:f a=none) (h2:f' a=some x):∀ {l:List α},l.Nodup->a∈l->(∀b∈l,b≠a->f' b=f b)->(l.filterMap f').Perm (x::l.filterMap f)
 |[],_,h,_=>by cases h
 | b::l,nd,h,h3=>by
  have nd':=a2i.mp nd
  by_cases e:b=a
  ·subst e
   have same:l.filterMap f'=l.filterMap f:=BN λc hc=>h3 c (a0k _ hc) λz=>nd'.1 (z▸hc)
   rw[a1n,a1n,h1,h2,same]
  ·have hm:a∈l:=(a0q.mp h).resolve_left λz=>e z.symm
   have ih:=HA h1 h2 nd'.2 hm λc hc=>h3 c (a0k _ hc)
   rw[a1n,a1n,h3 b a0m e]
   cases f b with
   |none=>exact ih
   |some y=>exact (ih.cons y).trans (List.Perm.swap x y _)
theorem NW {α β:Type} {f:α->Option β}:∀ {l:List α},(∀a∈l,(f a).isSome=true)->(l.filterMap f).length=l.length
 |[],_=>rfl
 | a::l,h=>by
  have:=h a a0m
  rw[a1n]
  cases e:f a with
  |none=>rw[e] at this;cases this
  |some y=>simp[NW λb hb=>h b (a0k _ hb)]
def lv(M:Nat)(owner:Array (Option Nat)):List (Nat×Nat):=(List.range M).filterMap λj=>(owner.getD j none).map (j,·)
theorem ZU {M j k:Nat} {owner:Array (Option Nat)} (hs:owner.size=M) (hj:j<M) (hn:owner.getD j none=none):((lv M (owner.setIfInBounds j (some k))).map (·.2)).Perm (k::(lv M owner).map (·.2)):=by
 have get:∀b,(owner.setIfInBounds j (some k)).getD b none=if b=j then some k else owner.getD b none:=λb=>by
  rw[a2y,a2y,Array.getElem?_setIfInBounds]
  by_cases e:b=j
  ·subst e;simp[hs,hj]
  ·have e':¬j=b:=λz=>e z.symm
   simp[e,e']
 have:=HA (a:=j) (x:=(j,k)) (f:=λi=>(owner.getD i none).map (i,·)) (f':=λi=>((owner.setIfInBounds j (some k)).getD i none).map (i,·)) (by rw[hn];rfl) (by rw[get,if_pos rfl];rfl) (l:=List.range M) List.nodup_range (a1s.mpr hj) λb _ hb=>by rw[get,if_neg hb]
 exact this.map (·.2)
theorem UZ {M:Nat} {owner:Array (Option Nat)} (h:(lv M owner).length<M):∃j,j<M/\owner.getD j none=none:=by
 refine Classical.byContradiction λhc=>?_
 have:(lv M owner).length=(List.range M).length:=NW λj hj=>by
  cases e:owner.getD j none with
  |none=>exact absurd ⟨j,a1s.mp hj,e⟩ hc
  |some y=>rfl
 rw[a4j] at this
 omega
def lp(mask:Nat):Nat->Nat->Nat->Nat×Nat
 |0,i,p=>(i,p)
 |t+1,i,p=>lp mask t (SetTable.leap mask i p).1 (SetTable.leap mask i p).2
theorem OJ(mask:Nat):∀(a b i p:Nat),lp mask (a+b) i p=lp mask b (lp mask a i p).1 (lp mask a i p).2
 |0,b,i,p=>by rw[a5u];rfl
 |a+1,b,i,p=>by rw[Nat.succ_add];exact OJ mask a b _ _
theorem a3E (mask:Nat):∀(t i p:Nat),(lp mask t i p).2=p / 32^t
 |0,i,p=>by simp[lp]
 | t+1,i,p=>by
  rw[lp,a3E mask t]
  show (p / 32) / 32^t=_
  rw[Nat.div_div_eq_div_mul,Nat.pow_succ,Nat.mul_comm]
theorem XE(mask:Nat):∀(t i p:Nat),i<mask+1->(lp mask t i p).1<mask+1
 |0,i,p,h=>h
 |t+1,i,p,h=>XE mask t _ _ (Nat.mod_lt _ (Nat.succ_pos _))
def a68(M:Nat):Nat->Nat->List Nat
 |0,_=>[]
 |n+1,i=>i::a68 M n ((i*5+1) % M)
def full(M:Nat):Bool:=(List.range M).all λi=>(λo:List Nat=>(List.range M).all λj=>o.contains j) (a68 M M i)
theorem OV {mask:Nat}:∀ {n i j:Nat},j∈a68 (mask+1) n i->∃u,u<n/\(lp mask u i 0).1=j
 |0,i,j,h=>by cases h
 | n+1,i,j,h=>by
  rcases a0q.mp h with z|z
  ·exact⟨0,Nat.succ_pos _,z.symm⟩
  ·obtain⟨u,hu,e⟩:=OV z
   exact⟨u+1,Nat.succ_lt_succ hu,e⟩
theorem O0 {mask:Nat} (hf:full (mask+1)=true) (h:Int) {j0:Nat} (hj:j0<mask+1):∃t,t<SetTable.turns mask/\(lp mask t (SetTable.bits h % (mask+1)) (SetTable.bits h)).1=j0:=by
 have p0:(lp mask 13 (SetTable.bits h % (mask+1)) (SetTable.bits h)).2=0:=by
  rw[a3E]
  refine Nat.div_eq_of_lt ?_
  unfold SetTable.bits
  have:(h % (2^64:Int)).toNat<2^64:=by
   have h1:h % (2^64:Int)<2^64:=a4c _ (by decide)
   have h0:0<=h % (2^64:Int):=a4w _ (by decide)
   omega
  exact a1d this (by decide)
 have i0:=XE mask 13 (SetTable.bits h % (mask+1)) (SetTable.bits h) (Nat.mod_lt _ (Nat.succ_pos _))
 unfold full at hf
 rw[a0x] at hf
 have h1:=hf _ (a1s.mpr i0)
 dsimp only at h1
 rw[a0x] at h1
 have h2:=h1 j0 (a1s.mpr hj)
 rw[List.contains_iff_mem] at h2
 obtain⟨u,hu,e⟩:=OV h2
 refine⟨13+u,by unfold SetTable.turns;omega,?_⟩
 rw[OJ,p0];exact e
theorem BP {mask:Nat} {owner:Array (Option Nat)} {j0:Nat} (h0:(owner.getD j0 (some 0)).isNone=true):∀(fuel i p:Nat),(∃t,t<fuel/\(lp mask t i p).1=j0)->∃j,SetTable.layClean.free mask owner fuel i p=some j
 |0,i,p,h=>by obtain⟨t,ht,_⟩:=h;omega
 | fuel+1,i,p,h=>by
  rw[SetTable.layClean.free]
  cases e:(List.range (SetTable.runEnd mask i+1-i)).find? λk=>(owner.getD (i+k) (some 0)).isNone with
  |some k=>exact⟨_,rfl⟩
  | none=>
   dsimp only
   obtain⟨t,ht,hl⟩:=h
   cases t with
   | zero=>
    exfalso
    have hi:i=j0:=hl
    subst hi
    have:=a7b.mp e 0 (a1s.mpr (by unfold SetTable.runEnd;split<;>omega))
    rw[Nat.add_zero] at this
    exact this h0
   |succ t=>exact BP h0 fuel _ _ ⟨t,by omega,hl⟩
theorem HB {mask:Nat} {owner:Array (Option Nat)} {j:Nat}:∀(fuel i p:Nat),SetTable.layClean.free mask owner fuel i p=some j->(owner.getD j (some 0)).isNone=true
 |0,i,p,h=>by rw[SetTable.layClean.free] at h;cases h
 | fuel+1,i,p,h=>by
  rw[SetTable.layClean.free] at h
  cases e:(List.range (SetTable.runEnd mask i+1-i)).find? λk=>(owner.getD (i+k) (some 0)).isNone with
  | some k=>
   rw[e] at h
   cases h
   have:=List.find?_some e
   exact this
  | none=>
   rw[e] at h
   exact HB fuel _ _ h
theorem V2 {owner:Array (Option Nat)} {j:Nat} (h:(owner.getD j (some 0)).isNone=true):j<owner.size/\owner.getD j none=none:=by
 rw[a2y] at h
 by_cases hj:j<owner.size
 ·rw[a0v hj] at h
  refine⟨hj,?_⟩
  rw[a2y,a0v hj]
  simpa using h
 ·rw[a5b (a4n hj)] at h
  cases h
theorem BY {mask:Nat} (hf:full (mask+1)=true):∀(hs:List Int) (owner:Array (Option Nat)) (k:Nat),owner.size=mask+1->((lv (mask+1) owner).map (·.2)).Perm (List.range k)->k+hs.length<=mask+1->
  ∃ owner',(hs.foldl (λ(acc:Option (Array (Option Nat)×Nat)) h=>do
   let (owner,k) <- acc
   let j <- SetTable.layClean.free mask owner (SetTable.turns mask) (SetTable.bits h % (mask+1)) (SetTable.bits h)
   pure (owner.setIfInBounds j (some k),k+1)) (some (owner,k)))=some (owner',k+hs.length)/\owner'.size=mask+1/\((lv (mask+1) owner').map (·.2)).Perm (List.range (k+hs.length))
 |[],owner,k,h1,h2,_=>⟨owner,rfl,h1,h2⟩
 | h::hs,owner,k,h1,h2,h3=>by
  rw[a2c] at h3
  have hl:(lv (mask+1) owner).length=k:=by have:=h2.length_eq;simpa using this
  obtain⟨j0,hj0,hn0⟩:=UZ (M:=mask+1) (owner:=owner) (by omega)
  have h0:(owner.getD j0 (some 0)).isNone=true:=by
   rw[a2y,a0v (by omega)] at hn0 ⊢
   simpa using hn0
  obtain⟨j,hj⟩:=BP h0 _ _ _ (O0 hf h hj0)
  obtain⟨jlt,jn⟩:=V2 (HB _ _ _ hj)
  have perm:((lv (mask+1) (owner.setIfInBounds j (some k))).map (·.2)).Perm (List.range (k+1)):=by
   refine (ZU h1 (by omega) jn).trans ((h2.cons k).trans ?_)
   rw[a4g]
   exact (List.perm_append_singleton k (List.range k)).symm
  obtain⟨o',e1,e2,e3⟩:=BY hf hs (owner.setIfInBounds j (some k)) (k+1) (by simp[h1]) perm (by omega)
  refine⟨o',?_,e2,?_⟩
  ·rw [List.foldl_cons]
   have e4:(do
    let (owner,k) <- (some (owner,k):Option (Array (Option Nat)×Nat))
    let j <- SetTable.layClean.free mask owner (SetTable.turns mask) (SetTable.bits h % (mask+1)) (SetTable.bits h)
    pure (owner.setIfInBounds j (some k),k+1))=some (owner.setIfInBounds j (some k),k+1):=by
    show (SetTable.layClean.free mask owner (SetTable.turns mask) (SetTable.bits h % (mask+1)) (SetTable.bits h)).bind (λj=>some (owner.setIfInBounds j (some k),k+1))=_
    rw[hj];rfl
   refine Eq.trans (congrArg (λz=>List.foldl _ z hs) e4) ?_
   rw[e1,a2c];congr 2;omega
  ·rw[a2c,show k+(hs.length+1)=k+1+hs.length by omega];exact e3
theorem HP{M m:Nat}:lv M (Array.replicate m none)=[]:=by
 unfold lv
 rw[List.filterMap_eq_nil_iff]
 intro j _
 rw[a2y,Array.getElem?_replicate]
 split<;>rfl
theorem UN {mask finger moves:Nat} {led plain:Bool} {hs:Array Int} (hf:full (mask+1)=true) (hl:hs.size<=mask+1) :
  ∃t order,SetTable.laid mask finger moves led plain hs=some (t,order)/\order.toList.Perm (List.range hs.size)/\t.mask=mask/\t.place.size=hs.size/\t.dummies= #[]:=by
 obtain⟨o,e1,e2,e3⟩:=BY hf hs.toList (Array.replicate (mask+1) none) 0 (by simp) (by rw[HP];exact .refl _) (by simpa using hl)
 have e4:SetTable.layClean mask hs=some o:=by
  unfold SetTable.layClean
  rw[<- Array.foldl_toList]
  refine Eq.trans (congrArg (Option.map (·.1)) e1) rfl
 rw[a5u,a0o] at e3
 have len:(lv (mask+1) o).length=hs.size:=by have:=e3.length_eq;simpa using this
 refine⟨_,_,by unfold SetTable.laid;rw[e4];rfl,?_,rfl,?_,rfl⟩
 ·show (((lv (mask+1) o).map (·.2)).toArray).toList.Perm _
  simpa using e3
 ·show (((lv (mask+1) o).map (·.1)).toArray).size=_
  simpa using len
theorem a35:full 8=true:=by decide+kernel
theorem ZA:full 16=true:=by decide+kernel
theorem ZC:full 32=true:=by decide+kernel
theorem ZD:full 64=true:=by decide+kernel
section
variable{prog:Program}{w:World}{A:Around}{E:Value->Ab->Prop}{s:Ab}
theorem OO{Q:Value->Shared->Prop}(h:Q (.ref s.heap.objs.size) {s with heap:=s.heap.push (bB w)}):wpAny (model prog w) A (newSet (.type "set")) Q E s:=by
 unfold newSet setsByText
 refine a0b (a0b (a4e (a0e ?_)))
 dsimp only
 simp only[newObj]
 exact a0b (wpAny_alloc (a0e h))
def SD(w:World)(h:Heap)(a:Ac)(mask:Nat):Prop:=∃o ep mv,h.get? a=some o/\o.ExactSet/\o.data= .set #[] ep ⟨mask,#[],#[],0,!w.params.followText "set-order",mv,true⟩
theorem O9 {mask finger moves:Nat} {led plain:Bool}:SetTable.laid mask finger moves led plain #[]=some (⟨mask,#[],#[],finger,led,moves,plain⟩,#[]):=by
 unfold SetTable.laid
 have e:SetTable.layClean mask #[]=some (Array.replicate (mask+1) none):=by
  unfold SetTable.layClean
  rw[<- Array.foldl_toList];rfl
 rw[e]
 show some (_,_)=_
 have e2:(List.range (mask+1)).filterMap (λj=>((Array.replicate (mask+1) (none:Option Nat)).getD j none).map (j,·))=[]:=HP
 rw[e2];rfl
theorem D4 {a:Addr} {m0 wanted:Nat} {Q:Unit->Shared->Prop} (hE:SD w s.heap a m0) (hw:SetTable.sizeAbove wanted<=64) (k:∀h',Heap.SameBut a s.heap h'->SD w h' a (SetTable.sizeAbove wanted-1)->Q () {s with heap:=h'}) :
  wpAny (model prog w) A (setRelay a wanted) Q E s:=by
 obtain⟨o,ep,mv,ho,hex,hd⟩:=hE
 unfold setRelay
 refine a0b (a3s ho hd (by simp[SetTable.fits,SetTable.fill]) ?_)
 dsimp only
 rw[if_neg (by rw[sizeLine_eq];omega)]
 have e:SetTable.relaid ⟨m0,#[],#[],0,!w.params.followText "set-order",mv,true⟩ (Array.map (·.1) (#[]:Array (Int×Value))) wanted=some (⟨SetTable.sizeAbove wanted-1,#[],#[],0,!w.params.followText "set-order",SetTable.movedTo ⟨m0,#[],#[],0,!w.params.followText "set-order",mv,true⟩ (SetTable.sizeAbove wanted-1),true⟩,#[]):=by
  unfold SetTable.relaid
  rw[show Array.map (·.1) (#[]:Array (Int×Value))= #[] by simp]
  exact O9
 rw[e]
 show wpAny _ _ (pure (#[],_) >>=_) _ _ _
 refine a0b (a0e ?_)
 refine a4o ho hd (k _ (a2v _ a _) ?_) (by simp)
 obtain⟨h1,_⟩:=a6m (knd:=intKind prog w) (S':=λ_=>false) (es':=#[]) (t':=⟨SetTable.sizeAbove wanted-1,#[],#[],0,!w.params.followText "set-order",SetTable.movedTo ⟨m0,#[],#[],0,!w.params.followText "set-order",mv,true⟩ (SetTable.sizeAbove wanted-1),true⟩) ho hex hd (λe he=>by simp at he) (λk=>by simp) (by decide) (by simp[SetTable.fits,SetTable.fill])
 exact⟨_,_,_,h1,hex,rfl⟩
def bZ(m:Nat):Nat:=if m*5≥21 then SetTable.sizeAbove (m*2)-1 else 7
def HQ(m:Nat):Bool:=[7,15,31,63].contains (bZ m)&&decide (m<=bZ m)&&decide (SetTable.sizeAbove (m*2)<=64)
theorem V0:(List.range 32).all HQ=true:=by decide+kernel
theorem nX(m:Fin 32):(bZ m=7\/bZ m=15\/bZ m=31\/bZ m=63)/\(m:Nat)<=bZ m/\SetTable.sizeAbove (m*2)<=64:=by
 have h:=a0x.mp V0 m.1 (a1s.mpr m.2)
 unfold HQ at h
 rw[a1g,a1g,a3k,a3k,List.contains_iff_mem] at h
 refine⟨?_,h.1.2,h.2⟩
 simpa using h.1.1
theorem OK{m:Nat}(h:m<32):full (bZ m+1)=true:=by
 have h1:bZ m=7\/bZ m=15\/bZ m=31\/bZ m=63:=(nX ⟨m,h⟩).1
 generalize bZ m=M at h1
 rcases h1 with e|e|e|e
 ·subst e;exact a35
 ·subst e;exact ZA
 ·subst e;exact ZC
 ·subst e;exact ZD
theorem wN {a:Addr} {m:Nat} {Q:Unit->Shared->Prop} (hE:s.heap.get? a=some (bB w)) (hm:m<32) (k:∀h',Heap.SameBut a s.heap h'->SD w h' a (bZ m)->Q () {s with heap:=h'}) :
  wpAny (model prog w) A (setRoomFor a m) Q E s:=by
 have hE0:SD w s.heap a 7:=⟨_,0,0,hE,⟨rfl,rfl,rfl⟩,rfl⟩
 unfold setRoomFor
 refine a0b (a3s (es:=#[]) (ep:=0) (t:=.fresh 0 0 (!w.params.followText "set-order")) hE rfl (by rfl) ?_)
 dsimp only
 have e:(SetTable.fresh 0 0 (!w.params.followText "set-order")).roomFor m=if m*5≥21 then some (m*2) else none:=by
  unfold SetTable.roomFor
  show (if (0+m)*5≥7*3 then some ((0+m)*2) else none)=_
  rw[a5u]
 rw[e]
 by_cases h:m*5≥21
 ·rw[if_pos h]
  have em:bZ m=SetTable.sizeAbove (m*2)-1:=if_pos h
  refine D4 hE0 (nX ⟨m,hm⟩).2.2 λh' sb hE'=>k h' sb ?_
  rw[em];exact hE'
 ·rw[if_neg h]
  have em:bZ m=7:=if_neg h
  have:=k s.heap (a4s a s.heap) (by rw[em];exact hE0)
  exact a0e this
theorem NX {α:Type} (xs:Array α):(List.range xs.size).filterMap (λi=>xs[i]?)=xs.toList:=by
 have:(List.range xs.size).filterMap (λi=>xs[i]?)=(List.range xs.toList.length).filterMap (λi=>xs.toList[i]?):=by simp
 rw[this]
 induction xs.toList with
 |nil=>rfl
 | cons a l ih=>
  rw[a2c,List.range_succ_eq_map,a1n]
  simp only[List.getElem?_cons_zero,a3l]
  congr 1
theorem V1 {a b:Addr} {S:Int->Bool} {n:Nat} {each:Sem Unit} {Q:Unit->Shared->Prop} (hE:s.heap.get? a=some (bB w)) (hne:a≠b) (hX:bT prog w b S n s.heap) (hn:n<32)
  (k:∀h',Heap.SameBut a s.heap h'->bT prog w a S n h'->Q () {s with heap:=h'}):wpAny (model prog w) A (setMerge a b each) Q E s:=by
 obtain⟨o,es,ep,t,ho,hex,hd,hel,hmem,hb,hf,hsz,hwk,hnd⟩:=hX
 unfold setMerge
 rw[if_neg (by simpa using hne)]
 refine a0b (a3s ho hd hf ?_)
 dsimp only
 by_cases he:es.isEmpty=true
 ·rw [if_pos he]
  have e0:es= #[]:=by simpa using he
  subst e0
  have:=k s.heap (a4s a s.heap) ((HC hE).congr (λj=>by
   cases hj:S j with
   |false=>rfl
   |true=>obtain⟨e,h,_⟩:=(hmem j).mp hj;simp at h) (by simpa using hsz))
  exact a0e this
 ·rw [if_neg he]
  refine a0b (wN hE (by omega) λh1 sb1 hE1=>?_)
  obtain⟨o1,ep1,mv1,ho1,hex1,hd1⟩:=hE1
  refine a0b (a3s (s:={s with heap:=h1}) ho1 hd1 (by simp[SetTable.fits,SetTable.fill]) ?_)
  dsimp only
  have ok:=nX ⟨es.size,by omega⟩
  have hle:es.size<=bZ es.size:=ok.2.1
  have wkled:w.params.followText "set-order"=true\/t.led=true:=hwk.imp id λz=>z.1
  have fin:∀(es':Array (Int×Value)) (t':SetTable),es'.toList.Perm es.toList->t'.fits es'.size=true->M8 (w.params.followText "set-order") t'->wpAny (model prog w) A (storeSet a es' t') Q E {s with heap:=h1}:=by
   intro es' t' hp hf' hw'
   have hel':ElemsOf (intKind prog w) es'.toList:=hel.perm hp
   have hmem':∀k,S k=true↔∃e∈es'.toList,(intKind prog w).is k e.2=true:=λk=>by
    rw[hmem k]
    constructor
    ·rintro⟨e,h,z⟩;exact⟨e,hp.mem_iff.mpr h,z⟩
    ·rintro⟨e,h,z⟩;exact⟨e,hp.mem_iff.mp h,z⟩
   have hz:es'.size=es.size:=by rw[<- a0o,hp.length_eq,a0o]
   have hb':es'.size<scanBound:=by rw[hz];exact hb
   refine a4o (s:={s with heap:=h1}) ho1 hd1 (k _ (sb1.trans (a2v _ a _)) ?_) (a5k hb')
   obtain⟨h2,_⟩:=a6m (knd:=intKind prog w) (S':=S) ho1 hex1 hd1 hel' hmem' hb' hf'
   exact⟨_,es',_,t',h2,hex1,rfl,hel',hmem',hb',hf',by rw[hz];exact hsz,hw',(hp.map _).nodup_iff.mpr hnd⟩
  have hfits:=hf
  simp only[SetTable.fits,a1g,a3t,a5c] at hfits
  unfold SetTable.road
  rw[if_neg (by simp[SetTable.fill])]
  by_cases hr:((bZ es.size==t.mask)&&t.dummies.isEmpty)=true
  ·rw [if_pos hr]
   refine fin es _ (.refl _) ?_ ?_
   ·have:SetTable.fits {t with finger:=0,led:=(!w.params.followText "set-order")&&t.led,moves:=mv1,plain:=true&&t.plain} es.size=t.fits es.size:=rfl
    exact this.trans hf
   ·rcases hwk with z|z
    ·exact .inl z
    ·cases hbt:w.params.followText "set-order" with
     |true=>exact .inl rfl
     |false=>exact .inr ⟨by simp[z.1],λq=>z.2 (by simpa using q)⟩
  ·rw [if_neg hr]
   obtain⟨t',order,e1,e2,e3,e4,e5⟩:=UN (mask:=bZ es.size) (finger:=0) (moves:=mv1) (led:=(!w.params.followText "set-order")&&t.led) (plain:=true&&t.plain) (hs:=es.map (·.1)) (OK (by omega)) (by simp;omega)
   obtain⟨r1,r2,r3⟩:=BX e1
   rw[Array.size_map] at e2 e4
   have hperm:(order.filterMap (es[·]?)).toList.Perm es.toList:=by
    rw[Array.toList_filterMap]
    have:=e2.filterMap (λi=>es[i]?)
    rw[NX] at this
    exact this
   have hsz':(order.filterMap (es[·]?)).size=es.size:=by rw[<- a0o,hperm.length_eq,a0o]
   have e1':SetTable.laid (SetTable.mask ⟨bZ es.size,#[],#[],0,!w.params.followText "set-order",mv1,true⟩) 0 mv1 ((!w.params.followText "set-order")&&t.led) (true&&t.plain) (es.map (·.1))=some (t',order):=e1
   dsimp only
   rw[e1']
   show wpAny _ _ ((if ((order.filterMap (es[·]?)).size !=es.size)=true then (unsupported "internal:set-table-lost-an-element" >>=λ_=>pure (order.filterMap (es[·]?),t')) else pure (order.filterMap (es[·]?),t')) >>=_) _ _ _
   rw[hsz',if_neg (by simp)]
   refine a0b (a0e ?_)
   refine fin _ t' hperm ?_ ?_
   ·rw[hsz']
    simp only[SetTable.fits,a1g,a3t,a5c]
    refine⟨e4,?_⟩
    unfold SetTable.fill
    rw[e4,e5,e3]
    simpa using hle
   ·rcases hwk with z|z
    ·exact .inl z
    ·cases hbt:w.params.followText "set-order" with
     |true=>exact .inl rfl
     |false=>exact .inr ⟨by rw[r1,hbt];simp[z.1],λ_=>r3⟩
end
theorem eZ{α:Type}(xs:Array α)(p:Nat):(SetTable.eraseAt xs p).toList=xs.toList.eraseIdx p:=by
 unfold SetTable.eraseAt
 rw[a7g,a4t]
 congr 1
 ·simp
 ·simp[a4a]
theorem kG{α:Type}{xs:Array α}{p:Nat}(h:p<xs.size):(SetTable.eraseAt xs p).size=xs.size-1:=by
 rw[<- a0o,eZ,List.length_eraseIdx,a0o,if_pos h]
theorem wB{α:Type}(xs:Array α)(p:Nat)(x:α):(SetTable.insertAt xs p x).size=xs.size+1:=by
 unfold SetTable.insertAt
 simp
 omega
theorem K2 {t:SetTable} {i n:Nat} (hf:t.fits n=true) (hi:i<n):(t.drop i).fits (n-1)=true/\(t.drop i).led=t.led/\(t.drop i).plain=t.plain/\(z7 t.place->z7 (t.drop i).place):=by
 simp only[SetTable.fits,a1g,a3t,a5c] at hf ⊢
 have hp:i<t.place.size:=by omega
 unfold SetTable.drop
 rw[a0v hp]
 dsimp only
 refine⟨⟨by rw[kG hp];omega,?_⟩,rfl,rfl,λhr=>?_⟩
 ·have h2:=hf.2
  unfold SetTable.fill at h2 ⊢
  dsimp only
  rw[kG hp,wB]
  omega
 ·unfold z7 at hr ⊢
  rw[eZ]
  exact hr.sublist (List.eraseIdx_sublist ..)
theorem MO{α:Type}{l:List α}{i:Nat}{e:α}(h:l[i]? =some e):l=l.take i++e::l.drop (i+1)/\l.eraseIdx i=l.take i++l.drop (i+1):=by
 obtain⟨hi,rfl⟩:=a0j.mp h
 refine⟨?_,a7g ..⟩
 rw[<- a3f hi,List.take_append_drop]
section
variable{prog:Program}{w:World}{A:Around}{E:Value->Ab->Prop}{s:Ab}
theorem ZH{k k':Int}{v:Value}(h:(intKind prog w).is k v=true)(h':(intKind prog w).is k' v=true):k=k':=by
 obtain⟨t,rfl⟩:=cI h
 obtain⟨t',e⟩:=cI h'
 cases e;rfl
theorem K0 {a:Addr} {S:Int->Bool} {n:Nat} {k:Int} {x:Value} {Q:Bool->Shared->Prop} (hkey:(intKind prog w).is k x=true) (hsc:x.scannable=true) (hS:bT prog w a S n s.heap)
  (h:∀h',Heap.SameBut a s.heap h'->bT prog w a (λk'=>S k'&& !decide (k'=k)) (if S k then n-1 else n) h'->Q (S k) {s with heap:=h'}) :
  wpAny (model prog w) A (setDiscardHashed a x ((intKind prog w).hash k)) Q E s:=by
 obtain⟨o,es,ep,t,ho,hex,hd,hel,hmem,hb,hf,hn,hwk,hnd⟩:=hS
 unfold setDiscardHashed setFind setFindIn
 refine a0b (a0b (a3s ho hd hf ?_))
 dsimp only
 rw[byScan_of hsc hb hel]
 simp only[↓reduceIte]
 refine a0b (a4y ?_)
 refine a0b (wpAny_setScan_of hkey ho hd hf hel ?_)
 cases hr:List.findIdx? (λe=>(intKind prog w).is k e.2) es.toList with
 | none=>
  dsimp only
  have hSk:S k=false:=by
   cases hk:S k with
   |false=>rfl
   |true=>obtain⟨e,he,hp⟩:=(hmem k).mp hk;have:=List.findIdx?_eq_none_iff.mp hr e he;rw[hp] at this;exact Bool.noConfusion this
  have:=h s.heap (a4s a s.heap) ⟨o,es,ep,t,ho,hex,hd,hel,λk'=>by
   rw[<- hmem k',a1g]
   refine⟨λz=>z.1,λz=>⟨z,?_⟩⟩
   by_cases e:k'=k
   ·rw[e,hSk] at z;cases z
   ·simp[e],hb,hf,by rw[hSk];exact hn,hwk,hnd⟩
  rw[hSk] at this
  exact a0e (a0e this)
 | some j=>
  dsimp only
  obtain⟨hj,hpj,_⟩:=a7a.mp hr
  have hSk:S k=true:=(hmem k).mpr ⟨es.toList[j],a1k hj,hpj⟩
  have hj':j<es.size:=by simpa using hj
  obtain⟨sp,er⟩:=MO (a0a hj)
  rw[a5u]
  refine a0e ?_
  refine a0b (a3s ho hd hf ?_)
  dsimp only
  obtain⟨f1,f2,f3,f4⟩:=K2 hf hj'
  have hel':ElemsOf (intKind prog w) (SetTable.eraseAt es j).toList:=by
   rw[eZ,er]
   intro e he
   refine hel e ?_
   rw[sp]
   rcases a1a.mp he with z|z
   ·exact a2z _ z
   ·exact a0z _ (a0k _ z)
  have hmem':∀k',(S k'&& !decide (k'=k))=true↔∃e∈(SetTable.eraseAt es j).toList,(intKind prog w).is k' e.2=true:=by
   intro k'
   rw[a1g,hmem k',eZ,er]
   constructor
   ·rintro ⟨⟨e,he,z⟩,hne⟩
    have hne:k'≠k:=by simpa using hne
    refine⟨e,?_,z⟩
    rw[sp] at he
    rcases a1a.mp he with y|y
    ·exact a2z _ y
    ·rcases a0q.mp y with y|y
     ·subst y;exact absurd (ZH z hpj) hne
     ·exact a0z _ y
   ·rintro ⟨e,he,z⟩
    have hin:e∈es.toList:=by
     rw[sp]
     rcases a1a.mp he with y|y
     ·exact a2z _ y
     ·exact a0z _ (a0k _ y)
    refine⟨⟨e,hin,z⟩,?_⟩
    have:k'≠k:=by
     rintro rfl
     obtain⟨t1,e1⟩:=cI z
     obtain⟨t2,e2⟩:=cI hpj
     rw[sp,a1m,a0h] at hnd
     have nd:=a7f.mp hnd
     have i1:cT e.2=k':=by rw[e1];rfl
     have i2:cT (es.toList[j]).2=k':=by rw[e2];rfl
     rcases a1a.mp he with y|y
     ·exact nd.2.2 _ (a0p.mpr ⟨e,y,i1⟩) _ a0m i2.symm
     ·exact (a2i.mp nd.2.1).1 (by rw[i2];exact a0p.mpr ⟨e,y,i1⟩)
    simp[this]
  have hz:(SetTable.eraseAt es j).size=es.size-1:=kG hj'
  have hb':(SetTable.eraseAt es j).size<scanBound:=by rw[hz];omega
  have hff:(t.drop j).fits (SetTable.eraseAt es j).size=true:=by rw[hz];exact f1
  refine a0b (a4o ho hd ?_ (a5k hb'))
  obtain⟨h2,_⟩:=a6m (knd:=intKind prog w) (S':=λk'=>S k'&& !decide (k'=k)) ho hex hd hel' hmem' hb' hff
  have:=h _ (a2v _ a _) ⟨_,_,_,_,h2,hex,rfl,hel',hmem',hb',hff,by rw[hSk,hz,hn];rfl,hwk.imp id λz=>⟨f2.trans z.1,λq=>f4 (z.2 (f3▸q))⟩,by
   rw[eZ,er]
   refine hnd.sublist ?_
   conv=>rhs;rw[sp]
   exact (List.Sublist.append (List.Sublist.refl _) (List.sublist_cons_self _ _)).map _⟩
  rw[hSk] at this
  exact a0b (wpAny_point (a0e this))
theorem Z8 {a:Addr} {S:Int->Bool} {n m:Nat} {k:Int} {x:Value} {Q:Unit->Shared->Prop} (hkey:(intKind prog w).is k x=true) (hsc:x.scannable=true) (hS:bT prog w a S n s.heap) (hn:n<=m) (hm:m+1<scanBound)
  (h:∀h' n',Heap.SameBut a s.heap h'->bT prog w a (λk'=>if k'=k then !S k else S k') n' h'->n'<=m+1->Q () {s with heap:=h'}) :
  wpAny (model prog w) A (holding [x] (do if !(<- setDiscardHashed a x ((intKind prog w).hash k)) then let _ <- setAddHashed a x ((intKind prog w).hash k))) Q E s:=by
 refine a1w (a0b (K0 hkey hsc hS λh1 sb1 hS1=>?_))
 cases hSk:S k with
 | true=>
  rw[hSk] at hS1
  refine a0e (h h1 _ sb1 (hS1.congr (λk'=>?_) rfl) (by show n-1<=m+1;omega))
  by_cases e:k'=k
  ·subst e;simp[hSk]
  ·simp[e]
 | false=>
  rw[hSk] at hS1
  refine a0b (lV (s:={s with heap:=h1}) hkey hsc hS1 (by show n+1<scanBound;omega) λh2 sb2 hS2=>a0e (h h2 _ (sb1.trans sb2) (hS2.congr (λk'=>?_) rfl) ?_))
  ·by_cases e:k'=k
   ·subst e;simp[hSk]
   ·simp[e]
  ·rw[if_neg a0i]
   split<;>omega
end
section
variable{prog:Program}{w:World}{A:Around}{E:Value->Ab->Prop}{s:Ab}
theorem a25 {b:Addr} {es:Array (Int×Value)} {ep:Nat} {t:SetTable} {Q:Array (Int×Value)->Shared->Prop} (hS:SetAt s.heap b es ep t) (hd:w.params.followText "set-order"=true\/((!t.plain&&decide (es.size>1))=false/\(!t.led&&decide (es.size>1))=false))
  (h:∀ys:Array (Int×Value),ys.toList.Perm es.toList->Q ys s):wpAny (model prog w) A (setWalk b) Q E s:=by
 unfold setWalk
 refine a0b (hS.state ?_)
 dsimp only
 refine a0b (i4 ?_)
 cases hbt:w.params.followText "set-order" with
 | true=>
  rw[if_pos rfl]
  exact a0b (a4e (a0e (h _ (f9 _ _))))
 | false=>
  obtain⟨h1,h2⟩:=hd.resolve_left (by rw[hbt];exact a0i)
  rw[if_neg a0i]
  rw[if_neg (by show ¬((!t.plain&&decide (es.size>1))=true);rw[h1];exact a0i)]
  refine a0b ?_
  show wpAny _ _ (if (!t.led&&decide (es.size>1))=true then unsupported "set:maker-not-led" else pure ()) _ _ _
  rw[h2,if_neg a0i]
  exact a0e (a0e (h es (.refl _)))
theorem uA {β:Type} (b:β) (g:(Int×Value)->β->Sem (ForInStep β)):∀(l:List (Int×Value)),(∀e∈l,g e b=pure (.yield b))->(forIn l b g:Sem β)=pure b
 |[],_=>by simp
 | e::l,h=>by
  rw[a5q,h e a0m]
  simp only[pure_bind]
  exact uA b g l λx hx=>h x (a0k _ hx)
theorem VY {a b:Addr} {es es':Array (Int×Value)} {ep ep':Nat} {t t':SetTable} {Q:Bool->Shared->Prop} (hS:SetAt s.heap b es ep t) (hS':SetAt s.heap a es' ep' t') (h1:ElemsOf (intKind prog w) es.toList) (h2:ElemsOf (intKind prog w) es'.toList)
  (h:Q true s):wpAny (model prog w) A (setsQuiet [b,a]) Q E s:=by
 have isInt:∀ {l:List (Int×Value)},ElemsOf (intKind prog w) l->∀e∈l,∃k t,e.2=Value.int k t:=λhl e he=>by
  obtain⟨⟨k,hk,_⟩,_⟩:=hl e he
  obtain⟨t,e2⟩:=cI hk
  exact⟨k,t,e2⟩
 unfold setsQuiet setEntries
 have inner:∀ {l:Array (Int×Value)},ElemsOf (intKind prog w) l.toList->(forIn l ((none:Option Bool),()) (λx __s=>match x with
   | (fst,x)=>match x with
    | Value.ref a=>do
     let __do_lift <- specialOf x (Str.ofString "__eq__")
     if (__do_lift !=some (Value.builtin "object.__eq__"))=true then pure (ForInStep.done (some false,())) else pure (ForInStep.yield (none,()))
    |x=>pure (ForInStep.yield (none,()))):Sem (Option Bool×Unit))=pure (none,()):=by
  intro l hl
  rw[<- Array.forIn_toList]
  refine uA _ _ _ λe he=>?_
  obtain⟨k,t,ev⟩:=isInt hl e he
  obtain⟨e1,e2⟩:=e
  dsimp only at ev
  subst ev
  rfl
 refine a0b ?_
 rw[a5q]
 refine a0b (a0b (a0b (hS.state (a0e ?_))))
 refine a0b (a6l (inner h1) (a0e ?_))
 dsimp only
 rw[a5q]
 refine a0b (a0b (a0b (hS'.state (a0e ?_))))
 refine a0b (a6l (inner h2) (a0e ?_))
 dsimp only
 rw[List.forIn_nil]
 exact a0e (a0e h)
theorem bT.at_{a:Addr}{S:Int->Bool}{n:Nat}{h:Heap}(x:bT prog w a S n h):∃es ep t,SetAt h a es ep t/\ElemsOf (intKind prog w) es.toList/\(∀k,S k=true↔∃e∈es.toList,(intKind prog w).is k e.2=true)/\es.size<scanBound/\es.size=n/\M8 (w.params.followText "set-order") t/\(es.toList.map λe=>cT e.2).Nodup:=by
 obtain⟨o,es,ep,t,ho,hex,hd,hel,hmem,hb,hf,hn,hwk,hnd⟩:=x
 exact⟨es,ep,t,⟨⟨o,ho,hex,hd⟩,hf⟩,hel,hmem,hb,hn,hwk,hnd⟩
theorem RL {a b:Addr} {S S':Int->Bool} {n n':Nat} {es:Array (Int×Value)} {ep:Nat} {t:SetTable} {Q:Array (Int×Value)->Shared->Prop} (hab:a≠b) (hS:SetAt s.heap b es ep t) (hel:ElemsOf (intKind prog w) es.toList) (hwk:M8 (w.params.followText "set-order") t) (hX:bT prog w a S' n' s.heap)
  (h:∀(ys:Array (Int×Value)) h',ys.toList.Perm es.toList->Heap.SameBut a s.heap h'->bT prog w a S' n' h'->Q ys {s with heap:=h'}):wpAny (model prog w) A (setWalkUnseen b [a] (some a)) Q E s:=by
 unfold setWalkUnseen
 refine a0b (hS.state ?_)
 dsimp only
 refine a0b (i4 ?_)
 have stay:∀ys:Array (Int×Value),ys.toList.Perm es.toList->Q ys s:=λys hp=>h ys s.heap hp (a4s a s.heap) hX
 by_cases hc:(w.params.followText "set-order"||t.led&&t.plain||decide (es.size<=1))=true
 ·rw [if_pos hc]
  refine a25 hS ?_ stay
  cases hbt:w.params.followText "set-order" with
  |true=>exact .inl rfl
  | false=>
   right
   rw[hbt,Bool.false_or,a2d] at hc
   have hl:=(hwk.resolve_left (by rw[hbt];exact a0i)).1
   rw[hl]
   refine⟨?_,by simp⟩
   rcases hc with z|z
   ·rw[a1g] at z;rw[z.2];rfl
   ·have:¬es.size>1:=by have:=a4i z;omega
    simp[this]
 ·rw [if_neg hc]
  obtain⟨es',ep',t',hS',hel',hmem',hb',hn',hwk',hnd'⟩:=hX.at_
  refine a0b (VY hS hS' hel hel' ?_)
  rw[if_neg (by simp)]
  refine a0b (a4y ?_)
  refine a0b (hS'.state ?_)
  dsimp only
  have hbt:w.params.followText "set-order"=false:=by
   cases hq:w.params.followText "set-order" with
   |false=>rfl
   |true=>rw[hq] at hc;exact absurd rfl hc
  have hl:=(hwk.resolve_left (by rw[hbt];exact a0i)).1
  split
  ·obtain⟨⟨o,ho,hex,hd⟩,hf⟩:=hS'
   refine a0b (a4o ho hd ?_ (a5k hb'))
   have hf2:SetTable.fits {t' with led:=t'.led&&t.led,plain:=t'.plain&&t.plain} es'.size=true:=hf
   obtain⟨h2,_⟩:=a6m (knd:=intKind prog w) (S':=S') ho hex hd hel' hmem' hb' hf2
   refine a0e (h es _ (.refl _) (a2v _ a _) ⟨_,_,_,_,h2,hex,rfl,hel',hmem',hb',hf2,hn',?_,hnd'⟩)
   exact hwk'.imp id λz=>⟨by show (t'.led&&t.led)=true;rw[z.1,hl];rfl,λq=>z.2 (by have:(t'.plain&&t.plain)=true:=q;rw[a1g] at this;exact this.1)⟩
  ·exact a0e (stay es (.refl _))
theorem GZ {a b:Addr} {es0:Array (Int×Value)} {ep:Nat} {t:SetTable} {Q:Unit->Shared->Prop} (id:String) (hab:a≠b):∀(ys:List (Int×Value)) (s:Shared) (S:Int->Bool) (n m:Nat),SetAt s.heap b es0 ep t->ElemsOf (intKind prog w) ys->bT prog w a S n s.heap->n<=m->m+ys.length+1<scanBound->
  (∀h' n' S',Heap.SameBut a s.heap h'->bT prog w a S' n' h'->n'<=m+ys.length->(∀k,S' k=((ys.filter λe=>decide (cT e.2=k)).foldl (λq _=>!q) (S k)))->Q () {s with heap:=h'})->
  wpAny (model prog w) A (forIn ys PUnit.unit (λ(x:Int×Value) (__s:PUnit)=>match x with
   | (h,x)=>do
    (holding [x] (do
     let __do_lift <- setDiscardHashed a x h
     if (!__do_lift)=true then do
      let _ <- setAddHashed a x h
      pure ()
     else pure ()):Sem Unit)
    Builtin.Frozenset.unchanged id b ep
    pure (ForInStep.yield PUnit.unit))) (λ_ s'=>Q () s') E s
 | [],s,S,n,m,hb,hel,hX,hn,hm,k=>by
  rw[List.forIn_nil]
  exact a0e (k s.heap n S (a4s a s.heap) hX hn λj=>rfl)
 | e::ys,s,S,n,m,hb,hel,hX,hn,hm,k=>by
  obtain⟨⟨k0,hk0,hh0⟩,hsc⟩:=hel e a0m
  obtain⟨e1,e2⟩:=e
  dsimp only at hk0 hh0 hsc
  rw[a2c] at hm
  rw[a5q]
  dsimp only
  subst hh0
  refine a0b (a0b (Z8 hk0 hsc hX hn (by omega) λh1 n1 sb1 hX1 hn1=>?_))
  have hb1:SetAt h1 b es0 ep t:=hb.keeps λo e=>(sb1.2 b (a3b hab)).trans e
  unfold Builtin.Frozenset.unchanged setEpoch
  refine a0b (a0b (a0b (hb1.state (s:={s with heap:=h1}) (a0e ?_))))
  rw[if_neg (by simp)]
  refine a0e (a0e ?_)
  dsimp only
  refine GZ id hab ys {s with heap:=h1} _ n1 (m+1) hb1 (λx hx=>hel x (a0k _ hx)) hX1 hn1 (by omega) λh2 n2 S2 sb2 hX2 hn2 hS2=>?_
  refine k h2 n2 S2 (sb1.trans sb2) hX2 (by rw[a2c];omega) λj=>?_
  rw[hS2 j,a1t]
  obtain⟨tk,rfl⟩:=cI hk0
  show List.foldl _ (if j=k0 then !S k0 else S j) _=List.foldl _ (S j) (if decide (k0=j)=true then _ else _)
  by_cases z:k0=j
  ·subst z;simp
  ·have z':¬j=k0:=λq=>z q.symm
   simp[z,z']
end
theorem w9:entryFor table "set.__xor__"=some Builtin.«frozenset.__xor__»:=entryFor_alias (id':="frozenset.__xor__") (by kernel_rfl) rfl (by decide+kernel) (by kernel_rfl)
section
variable{prog:Program}{w:World}{A:Around}{E:Value->Ab->Prop}{s:Ab}
theorem bT.typeIs{a:Addr}{S:Int->Bool}{n:Nat}{s:Shared}(x:bT prog w a S n s.heap):s.TypeIs (.ref a) "set":=by
 obtain⟨o,es,ep,t,ho,hex,_⟩:=x
 exact⟨o,ho,hex.1⟩
theorem oF{a:Addr}{Q:Bool->Shared->Prop}(hT:s.TypeIs (.ref a) "set")(h:Q true s):wpAny (model prog w) A (Builtin.Frozenset.isAnySet (.ref a)) Q E s:=by
 unfold Builtin.Frozenset.isAnySet
 show wpAny _ _ (isInstance (.ref a) (.type "set") >>=_) _ _ _
 exact a0b (a6n hT sub_set_self (a0e h))
theorem xH {α:Type}:∀(l:List α) (q:Bool),l.foldl (λq _=>!q) q=if l.length % 2=0 then q else !q
 |[],q=>rfl
 | a::l,q=>by
  rw[List.foldl_cons,xH l,a2c]
  by_cases h:l.length % 2=0
  ·rw[if_pos h,if_neg (by omega)]
  ·rw[if_neg h,if_pos (by omega),Bool.not_not]
theorem a54 {a b:Addr} {S T:Int->Bool} {n m:Nat} {Q:Value->Shared->Prop} (hA:bT prog w a S n s.heap) (hB:bT prog w b T m s.heap) (hn:n<1000) (hm:m<32)
  (k:∀h' r U,(∀b o,s.heap.get? b=some o->h'.get? b=some o)->bT prog w s.heap.objs.size U r h'->r<=n+m->(∀j,U j=(S j !=T j))->Q (.ref s.heap.objs.size) {s with heap:=h'}) :
  wpAny (model prog w) A (binaryOp .BitXor (.ref a) (.ref b)) Q E s:=by
 have tA:=hA.typeIs
 have tB:=hB.typeIs
 refine wpAny_binaryOp_same (op:=.BitXor) tA tB F.fills_set_xor F.slot_set_xor (a2u F.slot_set_xor tA w9 ?_ (F.args_set_xor_2 _ _))
 unfold Builtin.«frozenset.__xor__»
 show wpAny _ _ (do
  let (self,other) <- Builtin.Frozenset.slot1 "__xor__" ⟨[.ref a,.ref b],[]⟩
  if !(<- (Builtin.Frozenset.isAnySet self <&&> Builtin.Frozenset.isAnySet other)) then rule (toString "frozenset."++toString "__xor__"++toString ".declined");return <- ret .notImplemented
  ret (<- (do
   let result <- Builtin.Frozenset.newFrom (toString "frozenset."++toString "__xor__"++toString "") (<- Builtin.Frozenset.baseOf (<- Builtin.Frozenset.addrOf self)) other
   holding [result] (Builtin.Frozenset.symmetricDifferenceUpdate (toString "frozenset."++toString "__xor__"++toString "") (<- Builtin.Frozenset.addrOf result) (.ref a))
   return result))) _ _ _
 unfold Builtin.Frozenset.slot1
 refine a0b (a6l (a:=(Value.ref a,Value.ref b)) rfl ?_)
 dsimp only
 refine a0b ?_
 show wpAny _ _ (Builtin.Frozenset.isAnySet (.ref a) >>=_) _ _ _
 refine a0b (oF tA ?_)
 show wpAny _ _ (Builtin.Frozenset.isAnySet (.ref b)) _ _ _
 refine oF tB ?_
 rw[if_neg (by simp)]
 refine a0b ?_
 unfold Builtin.Frozenset.baseOf Builtin.Frozenset.newFrom Builtin.Frozenset.addrOf
 refine a0b (a0e (a0b (a0b (a6n tA sub_set_self (a0e ?_)))))
 rw[if_pos rfl]
 refine a0b (a0b (OO ?_))
 generalize hp:s.heap.objs.size=p at*
 have hE:(s.heap.push (bB w)).get? p=some (bB w):=by rw[<- hp];exact a1b _ rfl
 have kp:∀c o,s.heap.get? c=some o->(s.heap.push (bB w)).get? c=some o:=λc o e=>a0f _ e
 have nep:∀ {c:Ac} {o:Obj},s.heap.get? c=some o->p≠c:=λe=>by rw[<- hp];exact a5h (a0n e)
 have hA0:bT prog w a S n (s.heap.push (bB w)):=hA.mono λo e=>kp a o e
 have hB0:bT prog w b T m (s.heap.push (bB w)):=hB.mono λo e=>kp b o e
 have hpa:p≠a:=by obtain⟨o,_,_,_,e,_⟩:=hA;exact nep e
 have hpb:p≠b:=by obtain⟨o,_,_,_,e,_⟩:=hB;exact nep e
 generalize s.heap.push (bB w)=h0 at hE kp hA0 hB0
 refine a0b (a0e (a0b (a1w ?_)))
 unfold Builtin.Frozenset.updateFrom
 refine a0b (oF (s:={s with heap:=h0}) hB0.typeIs ?_)
 rw[if_pos rfl]
 unfold Builtin.Frozenset.addrOf Builtin.Frozenset.merge setEpoch
 refine a0b (a0e ?_)
 obtain⟨esb,epb,tb,hSb,_⟩:=hB0.at_
 refine a0b (a0b (hSb.state (s:={s with heap:=h0}) (a0e ?_)))
 refine V1 (s:={s with heap:=h0}) hE hpb hB0 hm λh1 sb1 hX1=>?_
 have hA1:bT prog w a S n h1:=hA0.mono λo e=>(sb1.2 a (a3b hpa)).trans e
 refine a0e ?_
 refine a0b (a0e (a0b (a1w ?_)))
 unfold Builtin.Frozenset.symmetricDifferenceUpdate
 rw[if_neg (by simpa using a3b hpa)]
 refine a0b (a5y (s:={s with heap:=h1}) hA1.typeIs ?_)
 rw[if_neg (by decide)]
 refine a0b (oF (s:={s with heap:=h1}) hA1.typeIs ?_)
 rw[if_pos rfl]
 unfold Builtin.Frozenset.addrOf setEpoch
 refine a0b (a0e (a0b (a0e ?_)))
 obtain⟨esa,epa,ta,hSa,hela,hmema,hba,hna,hwka,hnda⟩:=hA1.at_
 refine a0b (a0b (hSa.state (s:={s with heap:=h1}) (a0e ?_)))
 refine a1w (a0b (RL (s:={s with heap:=h1}) (S:=S) (n:=n) hpa hSa hela hwka hX1 λys h2 hperm sb2 hX2=>?_))
 have hS2:SetAt h2 a esa epa ta:=hSa.keeps λo e=>(sb2.2 a (a3b hpa)).trans e
 have hly:ys.toList.length=n:=by rw[hperm.length_eq,a0o,hna]
 rw[<- Array.forIn_toList]
 have h4096:scanBound=4096:=rfl
 refine a0b (GZ (Q:=λ_ s'=>wpAny (model prog w) A.in1 (pure ()) _ E s') _ hpa ys.toList {s with heap:=h2} T m m hS2 (λe he=>hela e (hperm.mem_iff.mp he)) hX2 (a0l _) (by rw[hly];omega) λh3 r U sb3 hX3 hr hU=>?_)
 refine a0e (a0e (a0e ⟨_,rfl,(λz=>by cases z),k h3 r U (λc o e=>?_) hX3 (by rw[hly] at hr;omega) λj=>?_⟩))
 ·have hc:=a3b (nep e)
  exact (sb3.2 c hc).trans ((sb2.2 c hc).trans ((sb1.2 c hc).trans (kp c o e)))
 ·rw [hU j,xH]
  have e1:(ys.toList.filter λe=>decide (cT e.2=j)).length=(esa.toList.filter λe=>decide (cT e.2=j)).length:=(hperm.filter _).length_eq
  have e2:(esa.toList.filter λe=>decide (cT e.2=j)).length=(esa.toList.map λe=>cT e.2).count j:=by
   rw[List.count_eq_countP,List.countP_map,List.countP_eq_length_filter]
   first
    |rfl
    |(congr 2;funext e;show decide (cT e.2=j)=(cT e.2==j);by_cases z:cT e.2=j<;>simp[z])
  have e3:S j=true↔j∈esa.toList.map λe=>cT e.2:=by
   rw[hmema j,a0p]
   constructor
   ·rintro⟨e,he,hk⟩
    obtain⟨t,e2⟩:=cI hk
    exact⟨e,he,by rw[e2];rfl⟩
   ·rintro⟨e,he,hk⟩
    obtain⟨⟨k',hk',_⟩,_⟩:=hela e he
    obtain⟨t,e2⟩:=cI hk'
    have:k'=j:=by rw[<- hk,e2];rfl
    subst this
    exact⟨e,he,hk'⟩
  rw[e1,e2]
  cases hS:S j with
  | true=>
   have hm1:=e3.mp hS
   have c1:(esa.toList.map λe=>cT e.2).count j=1:=by
    have h1:=List.nodup_iff_count.mp hnda j
    have h2:=List.count_pos_iff.mpr hm1
    omega
   rw[c1]
   cases T j<;>rfl
  | false=>
   have hm1:j∉esa.toList.map λe=>cT e.2:=λz=>by rw[e3.mpr z] at hS;cases hS
   rw[List.count_eq_zero.mpr hm1]
   cases T j<;>rfl
end
section
variable{X:Cx}
theorem EA:bootBuiltins "set"=some (.type "set"):=by rfl
def QK(P:Program)(w:World)(K:PySem.W.Frag):List V->Hp->VK->Prop:=λxs H Q=>∃p ns,xs=[.ref p]/\d9 K H p (List.map V.int ns)/\ns.length<=1000/\
 ∀(a:Ac) (S:Int->Bool) (n:Nat),H a=none->(∀k,S k=true↔k∈ns)->n<=ns.length->Q (.ref a) (bF H a (dN P w a S n))
theorem qE (hc:X.calm=true):eD X (.type "set") (QK X.prog X.w X.K):=by
 intro pins s σ H xs us Q I r h
 obtain⟨p,ns,rfl,hp,hl,q⟩:=h
 obtain⟨u,rfl,ru⟩:=j5 r
 cases ru
 obtain⟨its,rv,hp',hz⟩:=I.list hp
 have hi:IntsAre its ns:=uE rv
 have hvl:its.length=ns.length:=IntsAre.length hi
 have h4096:scanBound=4096:=rfl
 refine call_set_list_x (I.ok.hd hc) hp'.isList (by simpa using hi) (by simp;omega) λh' tk hX hk=>?_
 have kp:∀b u,s.heap.get? b=some u->h'.get? b=some u:=λb o e=>hk b o (a0n e) e
 refine⟨.ref s.heap.objs.size,_,I.laid (a:=s.heap.objs.size) (t':=tk) kp (a0l _) hX.ok,rfl,q _ _ _ (I.hok.fresh (a0l _)) (λk=>?_) ?_⟩
 ·have e1:((List.range its.length).map λi=>ns.getD i 0)=ns:=by
   rw[hvl]
   apply a3z
   ·simp
   ·intro i h1 h2
    simp[a0c,a0a h2]
  rw[firstMet_any]
  simp only[a0t]
  rw[e1,a6e]
  simp
 ·have:=firstMet_length_le (λi=>ns.getD i 0) its.toArray.size
  simp only[a0t] at this ⊢
  omega
def a4C(P:Program)(w:World):R2:=λx y H Q=>∃a b S T n m,x= .ref a/\y= .ref b/\H a=some (dN P w a S n)/\H b=some (dN P w b T m)/\n<1000/\m<32/\
 ∀(c:Ac) (U:Int->Bool) (r:Nat),H c=none->r<=n+m->(∀j,U j=(S j !=T j))->Q (.ref c) (bF H c (dN P w c U r))
theorem Inv.setX{pins:List (Addr×Obj)}{σ:St}{H:Hp}{s:Shared}{p:Addr}{S:Int->Bool}{n:Nat}(I:Inv X pins σ H s)(hp:H p=some (dN X.prog X.w p S n)):bT X.prog X.w p S n s.heap:=by
 obtain⟨hX,_,_⟩ : bT X.prog X.w p S n s.heap/\(∃o,s.heap.get? p=some o)/\(∀h1 h2:Heap,bT X.prog X.w p S n h1->(∀o,h1.get? p=some o->h2.get? p=some o)->bT X.prog X.w p S n h2):=I.hok p _ hp
 exact hX
theorem a3I:n6 X (binaryOp .BitXor) (a4C X.prog X.w):=by
 intro pins s σ H x y v u Q I rx ry h
 obtain⟨a,b,S,T,n,m,rfl,rfl,ha,hb,hn,hm,q⟩:=h
 cases rx;cases ry
 refine a54 (I.setX ha) (I.setX hb) hn hm λh' r U kp hX hr hU=>?_
 exact⟨.ref s.heap.objs.size,_,I.laid (a:=s.heap.objs.size) (t':=s.toks) kp (a0l _) hX.ok,rfl,q _ _ _ (I.hok.fresh (a0l _)) hr hU⟩
end
def n8(ns ms:List Int):List Int:=(ns.filter λk=>!decide (k∈ms))++(ms.filter λk=>!decide (k∈ns))
theorem m6{ns ms:List Int}{k:Int}:k∈n8 ns ms↔(k∈ns/\k∉ms)\/(k∈ms/\k∉ns):=by
 unfold n8
 rw[a1a,a2f,a2f]
 simp
def gI (n:Nat) (x:PV) (K:List Int->Prop):Prop:=match x with
 | .lst xs=>(match PV.ints xs with
  |some ns=>ns.length<n/\K ns
  |none=>False)
 |_=>False
theorem qR{n:Nat}{ns:List Int}{K:List Int->Prop}(hl:ns.length<n)(q:K ns):gI n (.lst (ns.map PV.int)) K:=by unfold gI;simp only[PV.ints_map];exact⟨hl,q⟩
theorem o3 {n:Nat} {x:PV} {K:List Int->Prop} (h:gI n x K):∃xs ns,x= .lst xs/\PV.ints xs=some ns/\ns.length<n/\K ns:=by
 unfold gI at h
 cases x with
 | lst xs=>
  dsimp only at h
  cases hi:PV.ints xs with
  |none=>rw[hi] at h;exact h.elim
  |some ns=>rw[hi] at h;exact⟨xs,ns,rfl,hi,h.1,h.2⟩
 |_=>exact h.elim
def mB(a:aY):aY:=λenv Q=>a env λx=>gI 64 x λns=>Q (.lst ((aP ns).map PV.int))
def mC(a b:aY):aY:=λenv Q=>a env λx=>gI 32 x λns=>b env λy=>gI 32 y λms=>Q (.lst ((aP (n8 ns ms)).map PV.int))
section
variable{X:Cx}{md:List Md}{a b:Expr}{pa pb:aY}{p p1 p2 pos pos1 pos2 pos3:Pos}
theorem vN{G:Addr->Prop}{H:Hp}{v:V}{xs:List PV}{ns:List Int}(r:Rep G H v (.lst xs))(h:PV.ints xs=some ns):∃l,v= .ref l/\H l=some (.lst (List.map V.int ns)):=by
 rw[PV.ints_of h] at r
 obtain⟨l,vs,rfl,_,e,rs⟩:=Rep.ofList r
 rw[rs.ints] at e
 exact⟨l,rfl,e⟩
theorem G4 (hc:X.calm=true) (hg0:X.env.scope.names.lookup ("sorted" : Str)=some .globalImplicit) (hm0:X.mg "sorted"=none) (hg1:X.env.scope.names.lookup ("set" : Str)=some .globalImplicit) (hm1:X.mg "set"=none) (ha:VE X md a .bw pa)
  (h1:starEach [a] X.env=(false,eval a X.env)::starEach [] X.env:=by rfl) (h2:starEach [.Call (.Name "set" p1) [a] [] pos1] X.env=(false,eval (.Call (.Name "set" p1) [a] [] pos1) X.env)::starEach [] X.env:=by rfl)
  (hl1:(backTo pos1 (starEach [] X.env)).any (·.1)=false:=by rfl) (hl2:(backTo pos (starEach [] X.env)).any (·.1)=false:=by rfl) :
  VE X md (.Call (.Name "sorted" p) [.Call (.Name "set" p1) [a] [] pos1] [] pos) (.o .fl) (mB pa):=
 ⟨(jX (qF hc) hg0 hm0 jP (eJ (gB (qE hc) hg1 hm1 EA (eJ ha.h iN h1) (by decide) (by decide) h1 hl1) iN h2) (by decide) (by decide) h2 hl2).imp λσ H Q h=>by
 obtain⟨env,W0,H0,W,Q',R,q,k⟩:=h
 refine⟨env,W0,H0,W,_,R,q,λx v W1 H1 g1 r1 q1=>?_⟩
 obtain⟨xs,ns,rfl,hi,hlt,q1⟩:=o3 q1
 obtain⟨l,rfl,e⟩:=vN r1 hi
 have R1:=R.step g1
 refine⟨l,ns,rfl,d9.of e,by omega,λc S n hc' hS hn=>?_⟩
 have gl:Go W1 H1 W1 (bF H1 c (dN X.prog X.w c S n)):=Go.laid R1.ok hc'
 refine⟨c,S,n,rfl,b5,by omega,λl2 ms hl2 hlt2 hms=>?_⟩
 have:ms=aP ns:=vY hlt2 λj=>(hms j).symm.trans (hS j)
 subst this
 exact (k.after (g1.trans gl)).newL gl.ok hl2 (jZ _) q1⟩
theorem G5 (hc:X.calm=true) (hg0:X.env.scope.names.lookup ("sorted" : Str)=some .globalImplicit) (hm0:X.mg "sorted"=none) (hg1:X.env.scope.names.lookup ("set" : Str)=some .globalImplicit) (hm1:X.mg "set"=none) (ha:VE X md a .bw pa) (hb:VE X md b .bw pb)
  (h1:starEach [a] X.env=(false,eval a X.env)::starEach [] X.env:=by rfl) (h1':starEach [b] X.env=(false,eval b X.env)::starEach [] X.env:=by rfl)
  (h2:starEach [.BinOp (.Call (.Name "set" p1) [a] [] pos1) .BitXor (.Call (.Name "set" p2) [b] [] pos2) pos3] X.env=(false,eval (.BinOp (.Call (.Name "set" p1) [a] [] pos1) .BitXor (.Call (.Name "set" p2) [b] [] pos2) pos3) X.env)::starEach [] X.env:=by rfl)
  (hl1:(backTo pos1 (starEach [] X.env)).any (·.1)=false:=by rfl) (hl1':(backTo pos2 (starEach [] X.env)).any (·.1)=false:=by rfl) (hl2:(backTo pos (starEach [] X.env)).any (·.1)=false:=by rfl) :
  VE X md (.Call (.Name "sorted" p) [.BinOp (.Call (.Name "set" p1) [a] [] pos1) .BitXor (.Call (.Name "set" p2) [b] [] pos2) pos3] [] pos) (.o .fl) (mC pa pb):=
 ⟨(jX (qF hc) hg0 hm0 jP (eJ (CL a3I (gB (qE hc) hg1 hm1 EA (eJ ha.h iN h1) (by decide) (by decide) h1 hl1) (gB (qE hc) hg1 hm1 EA (eJ hb.h iN h1') (by decide) (by decide) h1' hl1')) iN h2) (by decide) (by decide) h2 hl2).imp λσ H Q h=>by
 obtain⟨env,W0,H0,W,Q',R,q,k⟩:=h
 refine⟨env,W0,H0,W,_,R,q,λx v W1 H1 g1 r1 q1=>?_⟩
 obtain⟨xs,ns,rfl,hi,hlt,q1⟩:=o3 q1
 obtain⟨l,rfl,e⟩:=vN r1 hi
 have R1:=R.step g1
 refine⟨l,ns,rfl,d9.of e,by omega,λc S n hc' hS hn=>?_⟩
 have gl:Go W1 H1 W1 (bF H1 c (dN X.prog X.w c S n)):=Go.laid R1.ok hc'
 have R2:=R1.step gl
 refine⟨env,W0,H0,W1,_,R2,q1,λy u W3 H3 g3 r3 q3=>?_⟩
 obtain⟨ys,ms,rfl,hi2,hlt2,q3⟩:=o3 q3
 obtain⟨l',rfl,e'⟩:=vN r3 hi2
 have R3:=R2.step g3
 refine⟨l',ms,rfl,d9.of e',by omega,λc2 T m hc2 hT hm=>?_⟩
 have gl2:Go W3 H3 W3 (bF H3 c2 (dN X.prog X.w c2 T m)):=Go.laid R3.ok hc2
 have at1:H3 c=some (dN X.prog X.w c S n):=g3.kp c _ b5 λz=>R1.ok.offS hc' z
 have nc:c≠c2:=λz=>by rw[z,hc2] at at1;cases at1
 refine⟨c,c2,S,T,n,m,rfl,rfl,by rw[aH nc];exact at1,b5,by omega,by omega,λc3 U r hc3 hr hU=>?_⟩
 have gl3:Go W3 (bF H3 c2 (dN X.prog X.w c2 T m)) W3 (bF (bF H3 c2 (dN X.prog X.w c2 T m)) c3 (dN X.prog X.w c3 U r)):=Go.laid gl2.ok hc3
 refine⟨c3,U,r,rfl,b5,by omega,λl2 zs hl2' hlt3 hms=>?_⟩
 have:zs=aP (n8 ns ms):=vY hlt3 λj=>by
  rw[<- hms j,hU j,m6,<- hS j,<- hT j]
  cases S j<;>cases T j<;>simp
 subst this
 exact (k.after ((((g1.trans gl).trans g3).trans gl2).trans gl3)).newL gl3.ok hl2' (jZ _) q3⟩
end
def TC(ks:List bA)(k:bA):List bA:=ks.filter λa=>decide (a≠k)
def BJ{α:Type}:List bA->List α->bA->List α
 |a::ks,x::xs,k=>if a=k then BJ ks xs k else x::BJ ks xs k
 |_,_,_=>[]
theorem BK:∀ {ks:List bA} {vs:List V},ks.length=vs.length->∀k:bA,u6 (ks.zip vs) k=(TC ks k).zip (BJ ks vs k)
 |[],[],_,k=>rfl
 | a::ks,v::vs,h,k=>by
  have ih:=BK (ks:=ks) (vs:=vs) (by simpa using h) k
  unfold u6 TC at*
  rw[a2x,a1t,a1t,BJ,ih]
  by_cases e:a=k
  ·rw[if_neg (by simp[e]),if_neg (by simp[e]),if_pos e]
  ·rw[if_pos (by simp[e]),if_pos (by simp[e]),if_neg e,a2x]
theorem GU {α:Type}:∀ {ks:List bA} {xs:List α},ks.length=xs.length->∀k:bA,(TC ks k).length=(BJ ks xs k).length
 |[],[],_,k=>rfl
 | a::ks,v::xs,h,k=>by
  have ih:=GU (ks:=ks) (xs:=xs) (by simpa using h) k
  unfold TC at*
  rw[a1t,BJ]
  by_cases e:a=k
  ·rw[if_neg (by simp[e]),if_pos e];exact ih
  ·rw[if_pos (by simp[e]),if_neg e,a2c,a2c,ih]
theorem Reps.ddrop {G:Addr->Prop} {H:Hp}:∀ {ks:List bA} {vs:List V} {xs:List PV},Reps G H vs xs->∀k:bA,Reps G H (BJ ks vs k) (BJ ks xs k)
 |[],vs,xs,_,k=>by simp only[BJ];exact .nil
 | a::ks,[],xs,r,k=>by
  have:=r.len
  cases xs with
  |nil=>simp only[BJ];exact .nil
  |cons=>cases this
 | a::ks,v::vs,xs,r,k=>by
  cases xs with
  |nil=>have:=r.len;cases this
  | cons x xs=>
   have r':Reps G H vs xs:=⟨by have:=r.len;simpa using this,λi u z e1 e2=>r.at_ (i+1) u z (by simpa using e1) (by simpa using e2)⟩
   have ih:=Reps.ddrop (ks:=ks) r' k
   rw[BJ,BJ]
   by_cases e:a=k
   ·rw[if_pos e,if_pos e];exact ih
   ·rw[if_neg e,if_neg e];exact .cons (r.at_ 0 _ _ rfl rfl) ih
def XO:V->List V->Hp->VK->Prop:=λx vs H Q=>∃a kvs k v,x= .ref a/\vs=[kV k]/\H a=some (.dK kvs)/\pR kvs k=some v/\Q v (bF H a (.dK (u6 kvs k)))
theorem VU{X:Cx}:QM X "dict.pop" XO:=⟨by
 intro pins s σ H x xs v us Q I rx rv h
 obtain⟨a,kvs,k,z,rfl,rfl,e,l,q⟩:=h
 cases rx
 obtain⟨u,rfl,r1⟩:=j5 rv
 exact a2Q I e r1 l (.inl rfl) λw' s' I' r'=>⟨_,_,I',r',q⟩⟩
def qU:PV->List PV->(PV->Prop)->Prop:=λx ys R=>match x,ys with
 | .dic ks xs,[y]=>(match KJ y with
  |some k=>(DN ks xs k).isSome=true/\R (.dic (TC ks k) (BJ ks xs k))
  |none=>False)
 |_,_=>False
theorem LL {el:El}:SimM XO [.bw] el qU:=⟨λB Hs W H a o x vs ys R K w e nF nS b r q k=>by
 obtain⟨v,y,rfl,rfl,r1⟩:=r.one
 unfold qU at q
 cases b with
 |lst h=>exact q.elim
 | @dic ks us xs l h=>
  dsimp only at q
  cases hk:KJ y with
  |none=>rw[hk] at q;exact q.elim
  | some kk=>
   rw[hk] at q
   have hu:v=kV kk:=HH (S:=λ_=>True) hk r1
   subst hu
   obtain⟨q1,q2⟩:=q
   cases hg:DN ks xs kk with
   |none=>rw[hg] at q1;cases q1
   | some z=>
    obtain⟨w',e1,e2⟩:=h.dget hg
    refine⟨a,_,kk,w',rfl,rfl,e,e1,?_⟩
    rw[BK l]
    exact k _ _ _ rfl (.dic (GU l kk) (h.ddrop kk)) q2⟩
abbrev a39:bA->PV
 |.inl i=>.int i
 |.inr s=>.str s
end L2
namespace PySem
open Sem (wp)
theorem lk_list_keys:typeLookup (.type "list") "keys"=pure none:=am_miss_of_fast (by kernel_rfl)
section
variable{prog:Program}{w:World}{A:Around}{E:Value->Ab->Prop}{s:Ab}
theorem noKeys {a:Addr} {xs:Array Value} {k:Nat} {sl:Array (Option Value)} {Q:Option Value->Shared->Prop} (hx:s.heap.get? a=some {cls:=.type "list",dict:=none,data:=.seq xs k,slots:=sl}) (hA:A.handled=none)
  (h:∀h' tk,(∀b o,s.heap.get? b=some o->h'.get? b=some o)->Q none {s with heap:=h',toks:=tk}):wpAny (model prog w) A (getAttr? (.ref a) "keys") Q E s:=by
 obtain⟨hp,g,d,tk,os⟩:=s
 have ty:∀n,(⟨hp,g,d,n,os⟩ : Ab).TypeIs (.ref a) "list":=λ_=>⟨_,hx,rfl⟩
 have g1:=sub_AttributeError
 have g3:=a6j.lookup;have g4:=a6j.bind (.ref a)
 have g5:=am_list_getattr_none
 unfold getAttr? getAttrBy? getAttrBy
 repeat (any_goals (first|assumption|exact ty _|((with_reducible show wpAny _ _ (call (Value.builtin "list.__getattribute__") _ _) _ _ _);refine call_meets a6j (ty _) am_entry_list_getattribute (F.args_list_getattribute_2 _ _) (meets_getattribute_miss_list a xs k sl "keys" _ lk_list_keys (by decide+kernel)) ⟨hx,hA,λh' n e nx=>?_⟩)|wp_step))
 obtain⟨_,_,he⟩:=nx.there
 show wpAny _ _ (getattributeRaised _ _ _ _ _ _ _) _ _ _
 unfold getattributeRaised
 repeat (any_goals (first|assumption|wp_step))
 exact h _ _ nx.of.keeps
theorem plain_du_loop:plainId "dict.update.loop"=true:=by decide+kernel
theorem entry_du_loop:entryFor table "dict.update.loop"=some Builtin.«dict.update.loop»:=entryFor_of_tree (by kernel_rfl)
end
end PySem
namespace L2
open PySem PySem.Spec PyProof.Rows
def kE(h:Heap)(us:List Value)(ps:List (bA×Value)):Prop:=Paired (λ(u:Value) (p:bA×Value)=>∃b k,u= .ref b/\IsTup h b #[k,p.2]/\bD (kV p.1) k) us ps
theorem kE.get:∀ {h:Heap} {us:List Value} {ps:List (bA×Value)},kE h us ps->∀ {i:Nat} {u:Value},us[i]? =some u->∃b k p,u= .ref b/\ps[i]? =some p/\IsTup h b #[k,p.2]/\bD (kV p.1) k
 |_,_,_,.nil,i,u,e=>by simp at e
 | _,_,_,.cons (b:=p) r t,0,u,e=>by
  simp at e;subst e
  obtain⟨b,k,h1,h2,h3⟩:=r
  exact⟨b,k,p,h1,rfl,h2,h3⟩
 |_,_,_,.cons r t,i+1,u,e=>kE.get (show kE _ _ _ from t) (by simpa using e)
section
variable{prog:Program}{w:World}{A:Around}{s:Ab}{R:Result->Ab->Prop}
theorem TF {h0:Heap} {l it d:Addr} {its:Array Value} {ps:List (bA×Value)} (hl:h0.IsList l its) (hp:kE h0 its.toList ps) (hA:A.handled=none) (hdi:d≠it) (hd0:h0.get? d=none) (hi0:h0.get? it=none) :
  ∀ (n i:Nat) (s:Shared) (t:Tok) (kvs:List (bA×Value)),its.size=i+n->(∀b o,h0.get? b=some o->s.heap.get? b=some o)->s.heap.IsListIter it l i->s.heap.DictOf (bH prog w) d kvs->kvs.length+n<=sizeLine->
   (∀h' tk,(∀b o,h0.get? b=some o->h'.get? b=some o)->h'.DictOf (bH prog w) d (merged kvs (ps.drop i))->R (.ok (.ret .none)) {s with heap:=h',toks:=tk})->
   codeAny (model prog w) A (.builtin "dict.update.loop" ⟨[.ref d,.ref it,.int i t,.none],[]⟩) R s:=by
 have hlen:its.toList.length=ps.length:=a5g hp
 intro n
 induction n with
 | zero=>
  intro i s t kvs hn hk hit hd hz hR
  refine a3o entry_du_loop ?_
  rw[a2q plain_du_loop _]
  unfold Builtin.«dict.update.loop»
  obtain⟨ol,e1,e2⟩:=hl
  refine a0b (wpAny_pyNext_list_end (A:=A.in1) hA hit ⟨ol,hk _ _ e1,e2⟩ (by rw[a5b];omega) λh' eb=>?_)
  show wpAny _ _ (Builtin.Dict.addKeywords d [] >>=_) _ _ _
  refine a0b (a0e (a0e ?_))
  have:=hR h' s.toks (λb o e=>eb b o (λz=>by subst z;rw[hi0] at e;cases e) (hk b o e))
  rw[List.drop_eq_nil_of_le (by rw[<- hlen,a0o];omega)] at this
  exact this (hd.extBut eb hdi)
 | succ n ih=>
  intro i s t kvs hn hk hit hd hz hR
  have hlt:i<its.size:=by omega
  have hu:its.toList[i]? =some its[i]:=by rw[a2k,a0v hlt]
  obtain⟨b,k,p,eb,ep,tb,rk⟩:=hp.get hu
  refine a3o entry_du_loop ?_
  rw[a2q plain_du_loop _]
  unfold Builtin.«dict.update.loop»
  have hl':=hl
  obtain⟨ol,e1,e2⟩:=hl'
  refine a0b (wpAny_pyNext_list_item hit ⟨ol,hk _ _ e1,e2⟩ (x:=.ref b) (by rw[<- eb];exact a0v hlt) λh1 hit1 sb1=>?_)
  have k1:∀b o,h0.get? b=some o->h1.get? b=some o:=λc o e=>(sb1.2 c (λz=>by subst z;rw[hi0] at e;cases e)).trans (hk c o e)
  obtain⟨ob,t1,t2,nn,t3⟩:=tb
  have tb1:=k1 _ _ t1
  have hd1:h1.DictOf (bH prog w) d kvs:=hd.sameBut sb1 hdi
  refine a0b (a1w ?_)
  refine a0b (wpAny_tryCatch ?_)
  unfold Builtin.Dict.pairItems
  refine a0b (a5y ⟨ob,tb1,t2⟩ ?_)
  rw[if_pos (by decide)]
  refine a0b (wpAny_seqItems tb1 t3 (a0e ?_))
  show wpAny _ _ (holding [k,p.2] (dictSet d k p.2)) _ _ _
  refine a1w (wpAny_dictSet_pairs (knd:=bH prog w) (k:=p.1) (xN rk) hd1 (λh2 hd2 sb2=>?_) (by omega))
  refine a0e ⟨a5f plain_du_loop _,?_⟩
  have:=stored_length_le kvs p.1 p.2
  refine ih (i+1) _ _ (stored kvs p.1 p.2) (by omega) (λc o e=>(sb2.2 c (λz=>by subst z;rw[hd0] at e;cases e)).trans (k1 c o e)) ?_ hd2 (by omega) λh' tk hk' hd'=>hR h' tk hk' ?_
  ·obtain⟨oo,q1,q2⟩:=hit1
   exact⟨oo,(sb2.2 it (a3b hdi)).trans q1,q2⟩
  ·rw [a3f (by rw[<- hlen,a0o];omega)]
   have e':ps[i]'(by rw[<- hlen,a0o];omega)=p:=by
    have:=a0a (l:=ps) (i:=i) (by rw[<- hlen,a0o];omega)
    rw[ep] at this;exact (a1j this).symm
   rw[e']
   exact hd'
theorem EI {E:Value->Shared->Prop} {Q:Value->Shared->Prop} {l:Addr} {its:Array Value} {n:Nat} {sl:Array (Option Value)} {ps:List (bA×Value)} (hl:s.heap.get? l=some {cls:=.type "list",dict:=none,data:=.seq its n,slots:=sl}) (hp:kE s.heap its.toList ps) (hA:A.handled=none) (hz:ps.length<=sizeLine)
  (h:∀h' tk,(∀b o,s.heap.get? b=some o->h'.get? b=some o)->h'.DictOf (bH prog w) s.heap.objs.size (merged [] ps)->Q (.ref s.heap.objs.size) {s with heap:=h',toks:=tk}) :
  wpAny (model prog w) A (call (.type "dict") [.ref l]) Q E s:=by
 have hlen:its.toList.length=ps.length:=a5g hp
 refine callType_codes (Q₁:=λobj s1=>obj= .ref s.heap.objs.size/\s1={s with heap:=s.heap.push {cls:=.type "dict",data:=.dict #[]} }) F.kt_called_dict (F.kt_typeCall_dict_1 _) F.entry_dict_init (kt_code_dict_new _ ⟨rfl,rfl⟩) ?_
 rintro obj s1 ⟨rfl,rfl⟩
 have hn:(s.heap.push {cls:=.type "dict",data:=.dict #[]}).DictOf (bH prog w) s.heap.objs.size []:=Heap.DictOf.new s.heap
 have k1:∀b o,s.heap.get? b=some o->(s.heap.push {cls:=.type "dict",data:=.dict #[]}).get? b=some o:=λb o e=>a0f _ e
 refine⟨hn.typeIs,F.args_dict_init_2 _ _,?_⟩
 unfold Builtin.«dict.__init__»;refine a0b ?_;unfold Builtin.Dict.selfAndRest
 refine a0b (wpAny_notOrdered_dict hn.typeIs ?_)
 show wpAny _ _ (pure (s.heap.objs.size,[Value.ref l])) _ _ _
 refine a0e ?_
 show wpAny _ _ (Builtin.Dict.updateFrom "dict.__init__" s.heap.objs.size (.ref l) [] .none) _ _ _
 unfold Builtin.Dict.updateFrom
 refine a0b (a5y (T:="list") ⟨_,k1 _ _ hl,rfl⟩ ?_)
 rw[if_pos (by decide)]
 refine a0b (noKeys (k1 _ _ hl) hA λh2 tk k2=>?_)
 rw[if_pos (show (none:Option Value).isNone=true from rfl)]
 refine a0b (a4y (a0b (wpAny_pyIter_list (items:=its) ⟨_,k2 _ _ (k1 _ _ hl),rfl,n,rfl⟩ ?_)))
 refine a0e ⟨a5f plain_du_loop _,?_⟩
 have ne1:∀b o,s.heap.get? b=some o->b≠s.heap.objs.size:=λb o e z=>absurd (a0n e) (by rw[z];exact a5l _)
 obtain⟨od,_,_,ed,_⟩:=id hn
 have lt2:s.heap.objs.size<h2.objs.size:=a0n (k2 _ _ ed)
 have none_ge:∀(hh:Heap) (b:Addr),hh.objs.size<=b->hh.get? b=none:=λhh b z=>by
  cases q:hh.get? b with
  |none=>rfl
  |some o=>exact absurd (a0n q) (Nat.not_lt.mpr z)
 refine TF (A:=A.in1) (h0:=s.heap) (l:=l) (it:=h2.objs.size) (d:=s.heap.objs.size) (its:=its) (ps:=ps) ⟨_,hl,rfl,n,rfl⟩ hp hA (a0w lt2) (none_ge _ _ (a0l _)) (none_ge _ _ (by omega)) its.size 0 _ _ [] (by omega) ?_ ?_ ?_ ?_ λh' tk' hk' hd'=>?_
 ·exact λb o e=>a0f _ (k2 _ _ (k1 _ _ e))
 ·exact⟨_,a1b _ rfl,rfl,rfl⟩
 ·obtain⟨o,es,ep,q,r⟩:=hn
  exact⟨o,es,ep,a0f _ (k2 _ _ q),r⟩
 ·rw[List.length_nil,a5u,<- a0o,hlen];exact hz
 ·exact⟨rfl,h h' tk' hk' hd'⟩
end
def yZ(H:Hp)(vs:List V)(ps:List (bA×V)):Prop:=Paired (λ(v:V) (p:bA×V)=>∃b,v= .ref b/\H b=some (.tup [kV p.1,p.2])) vs ps
def Q9:List V->Hp->VK->Prop:=λxs H Q=>∃(l:Ac) (vs:List V) (ps:List (bA×V)),xs=[.ref l]/\H l=some (.lst vs)/\yZ H vs ps/\(ps.map (·.1)).Nodup/\ps.length<=sizeLine/\∀d,H d=none->Q (.ref d) (bF H d (.dK ps))
theorem PD {P:Program} {w:World} {H:Hp} {h:Heap} (hok:mP P w H h) {vs:List V} {ps:List (bA×V)} (r:yZ H vs ps):∀ {us:List Value},b9 vs us->∃qs,kE h us qs/\KV ps qs:=by
 unfold yZ at r
 induction r with
 |nil=>intro us t;cases t;exact⟨[],.nil,.nil⟩
 | cons h1 _ ih=>
  intro us t
  cases t with
  | cons t1 t2=>
   obtain⟨qs,q1,q2⟩:=ih t2
   obtain⟨b,rfl,e⟩:=h1
   cases t1
   obtain⟨_,its,rv,it⟩:=(show c5 P w H h b (.tup _) from hok b _ e)
   obtain⟨u,v,rfl,r1,r2⟩:=J3 rv
   exact⟨(_,v)::qs,.cons ⟨b,u,rfl,it,r1⟩ q1,.cons ⟨rfl,r2⟩ q2⟩
theorem UL{ps:List (bA×V)}{qs:List (bA×Value)}(h:KV ps qs):qs.map (·.1)=ps.map (·.1):=by
 unfold KV at h
 induction h with
 |nil=>rfl
 |cons h1 _ ih=>rw[a0h,a0h,ih,h1.1]
theorem Q2{X:Cx}(hc:X.calm=true):QC X (.type "dict") Q9:=⟨by
 intro pins s σ H xs us Q I r h
 obtain⟨l,vs,ps,rfl,e,hp,nd,hz,q⟩:=h
 obtain⟨u,rfl,ru⟩:=j5 r
 cases ru
 obtain⟨_,its,n,rv,ho⟩:=(show c5 X.prog X.w H s.heap l (.lst vs) from I.hok l _ e)
 obtain⟨qs,q1,q2⟩:=PD I.hok hp rv
 have hl:ps.length=qs.length:=a5g q2
 refine EI (its:=its.toArray) (ps:=qs) ho (by simpa using q1) (I.ok.hd hc) (by rw[<- hl];exact hz) λh' tk kp hd=>?_
 rw[merged_nil_of_nodup qs (by rw[UL q2];exact nd)] at hd
 exact⟨.ref s.heap.objs.size,_,I.laid (t':=tk) kp (a0l _) (zL hz (a6r.mpr (a3b (a0w I.big))) q2 hd),rfl,q _ (I.hok.fresh (a0l _))⟩⟩
def uM:PN:=λxs Q=>match xs with
 |[.lst ys]=>∃ps:List (bA×PV),ys=ps.map (λp=>.tup [a39 p.1,p.2])/\(ps.map (·.1)).Nodup/\ps.length<=1000/\Q (.dic (ps.map (·.1)) (ps.map (·.2)))
 |_=>False
theorem WA{G:Addr->Prop}{H:Hp}{v:V}{k:bA}(r:Rep G H v (a39 k)):v=kV k:=by
 cases k with
 |inl i=>exact r.ofInt
 |inr s=>exact r.ofStr
theorem yC {G:Addr->Prop} {H:Hp}:∀ {ps:List (bA×PV)} {vs:List V},Reps G H vs (ps.map λp=>.tup [a39 p.1,p.2])->∃us,us.length=ps.length/\yZ H vs ((ps.map (·.1)).zip us)/\Reps G H us (ps.map (·.2))
 | [],vs,r=>by
  have:=r.len
  cases vs with
  |nil=>exact⟨[],rfl,.nil,.nil⟩
  |cons=>cases this
 | p::ps,vs,r=>by
  cases vs with
  |nil=>have:=r.len;cases this
  | cons v vs=>
   have r':Reps G H vs (ps.map λp=>.tup [a39 p.1,p.2]):=⟨by have:=r.len;simpa using this,λi u z e1 e2=>r.at_ (i+1) u z (by simpa using e1) (by simpa using e2)⟩
   obtain⟨us,h1,h2,h3⟩:=yC r'
   obtain⟨b,ws,rfl,e,rr⟩:=(r.at_ 0 _ _ rfl rfl:Rep G H v (.tup [a39 p.1,p.2])).ofTup
   have hl:=rr.len
   match ws,hl with
   | [w1,w2],_=>
    have k1:=WA (rr.at_ 0 w1 _ rfl rfl)
    subst k1
    exact⟨w2::us,by simp[h1],.cons ⟨b,rfl,e⟩ h2,.cons (rr.at_ 1 w2 _ rfl rfl) h3⟩
theorem LK {el:El}:SimC Q9 [.p el] (.o el) uM:=⟨λB H0 W H vs xs Q K w r q k=>by
 obtain⟨v,x,rfl,rfl,r1⟩:=r.one
 unfold uM at q
 cases x with
 | lst ys=>
  obtain⟨ps,rfl,nd,hz,q⟩:=q
  obtain⟨a,us,rfl,e,rr⟩:=RepP.ofList r1
  obtain⟨ws,h1,h2,h3⟩:=yC rr
  have e1:((ps.map (·.1)).zip ws).map (·.1)=ps.map (·.1):=by rw[a6b];simp[h1]
  refine⟨a,us,_,rfl,e,h2,by rw[e1];exact nd,?_,λd hd=>?_⟩
  ·rw[a5p,a0d,h1]
   exact a0y (by omega:_<=1000) (by decide)
  ·exact k.newB w hd (Body.dic (by simp[h1]) h3) q
 |_=>exact q.elim⟩
def z8:Md->Bool
 |.v _=>true
 |.st=>true
 |.scr=>true
 |_=>false
def QQ:Md->Bool
 |.v _=>true
 |.z .sh=>true
 |.st=>true
 |_=>false
theorem LH {K:PySem.W.Frag} {N:List Str} {ms:List Md} {vs:List V} {xs:List PV} {W:Wd} {H:Hp} (hk:W.K=K) (w:Wok W H) (r:ResEs H H W H ms vs xs) (hm:ms.all z8=true):Rl K (cM N ms) W H W (start N vs) (cA N xs) H:=by
 have hlen:=r.len
 have pm:∀m,z8 m=true->a69 m=m:=λm h=>by cases m<;>first|rfl|cases h
 have getm:∀i m,ms[i]? =some m->(cM N ms).getD i .no=m:=λi m e=>by
  have hi:=(a0j.mp e).1
  unfold cM
  rw[a0c,a1f (by simpa using hi),a0g,e]
  exact pm m (a0x.mp hm m (a0u e))
 have none_:∀i,ms.length<=i->(cM N ms).getD i .no= .no:=λi hi=>by
  unfold cM
  rw[a0c,a1i (by simpa using hi),a2e]
  split<;>rfl
 have nown:∀i,((cM N ms).getD i .no).own=false:=λi=>by
  cases e:ms[i]? with
  |none=>rw[none_ i (a2o.mp e)];rfl
  | some m=>
   rw[getm i m e]
   have:=a0x.mp hm m (a0u e)
   cases m<;>first|rfl|cases this
 refine⟨w,Go.refl w,?_,λi x e=>?_,λi j x y a hij oi=>(by rw[nown i] at oi;cases oi),?_,hk⟩
 ·simp[start,cA,hlen.1]
 ·unfold cA at e
  by_cases hi:i<xs.length
  ·rw [a1f (by simpa using hi),a0g] at e
   cases ex:xs[i]? with
   |none=>rw[ex] at e;cases e
   | some y=>
    rw[ex] at e
    cases e
    obtain⟨m,v,e1,e2,q⟩:=r.at ex
    refine⟨v,?_,?_⟩
    ·unfold start
     rw[a1f (by simpa[hlen.1] using hi),a0g,e2];rfl
    ·rw[getm i m e1]
     exact q
  ·rw[a1i (by simpa using hi),a2e] at e
   split at e<;>cases e
 ·unfold fE
  rw[a2d,a0x,a0x]
  refine .inr λm h=>?_
  unfold cM at h
  rcases a1a.mp h with z|z
  ·obtain⟨m',h1,rfl⟩:=a0p.mp z
   have:=a0x.mp hm m' h1
   cases m'<;>first|rfl|cases this
  ·rw[(a6x.mp z).2];rfl
theorem a4X {P:Program} {w:World} {K:PySem.W.Frag} {mg:Str->Option Value} {base:Heap} {x:Str} {st:Stmt} {N ps:List Str} {k:Nat} {ms mn:List Md} {rm:Md} {p:bO} {d:PN} (hd:∀xs R,d xs R->p {nx:=λ_=>gR rm R,rt:=R} (cA N xs)) (D:Df K mg x st) (S:FnScope N ps (aD st))
  (hb:∀(kV doc pm:Value) (an:Option Ac) (cdv ct:Value) (us:List Value),us.length=ps.length->bindArgs (PySem.W.fnOf x x (cQ st) (bM st) (aD st) .none kV doc pm an cdv ct) ⟨us,[]⟩=pure (ps.zip us))
  (hm:ms.all z8=true) (hr:QQ rm=true)
  (hlen:ms.length=ps.length) (hbody:∀(f:Addr) (cdv:Value) (A:Around) (outer:List Env) (s:Shared) (H:Hp) (E:XK),Room k (A.deeper (envOfC x (aD st) s.heap.objs.size f cdv))->
   VSs (d4 jN P w K mg base N x (aD st) f cdv A outer s H E).nox (cM N ms) mn [] rm (bM st) p) :
  Cal P w K mg base (k+1) x ps (G6 K ms rm d):=by
 refine D.ok S hb (λvs H Q E h=>?_) (λf cdv A outer s H vs Q E hr' h=>?_)
 ·obtain⟨xs,W,R,_,_,r,_⟩:=h
  have:=r.len
  omega
 ·obtain ⟨xs,W,R,hk,wk,r,q,kk⟩:=h
  have q:=hd xs R q
  refine⟨_,(hbody f cdv A outer s H E hr').h,cA N xs,W,H,W,{nx:=λ_=>gR rm R,rt:=R},LH hk wk r hm,q,?_,?_,λ_ _ _ _ _ _ z=>z.elim,λ_ _ _ _ _ _ z=>z.elim⟩
  ·intro env W' σ H' Rr _ z
   have z':gR rm R:=z
   unfold gR at z'
   cases rm with
   |v e=>exact kk .non .non W' H' Rr.go .non z'
   |_=>exact z'.elim
  ·exact λy v W' H' g r1 z=>kk y v W' H' g r1 z
theorem ResEs.argF {B H0 H B' H0':Hp} {W:Wd} {ms:List Md} {vs:List V} {xs:List PV} (r:ResEs B H0 W H ms vs xs) (h:ms.all (λm=>jO m||m== .v .sh||m== .v .fl)=true):ResEs B' H0' W H ms vs xs:=by
 induction r with
 |nil=>exact .nil
 | cons q _ ih=>
  rw[List.all_cons,a1g] at h
  refine .cons ?_ (ih h.2)
  rename_i m _ _ _ _ _ _
  rcases a2d _ _▸h.1 with z|z
  ·rcases a2d _ _▸z with z|z
   ·exact q.arg z
   ·rw[a3t] at z;subst z;exact q
  ·rw[a3t] at z;subst z;exact q
theorem ResE.retF{B H1 H2:Hp}{W0 W1 W2:Wd}{rm:Md}{v:V}{x:PV}(g:Go W0 B W1 H1)(hr:(lI rm||rm== .v .sh)=true)(r:ResE H1 H1 W2 H2 rm v x):ResE B H1 W2 H2 rm v x:=by
 rcases a2d _ _▸hr with z|z
 ·exact r.ret g z
 ·rw[a3t] at z;subst z;exact r
section
variable{X:Cx}{md:List Md}{e:Expr}{es:List Expr}{pt:lU}{p pos:Pos}{k:Nat}{x:Str}{ps:List Str}{ms:List Md}{rm:Md}{pn:PN}
theorem WX (C:Cal X.prog X.w X.K X.mg X.base k x ps (G6 X.K ms rm pn)) (hr:Room k X.A) (hm:ms.all (λm=>jO m||m== .v .sh||m== .v .fl)=true) (hrm:(lI rm||rm== .v .sh)=true) (ha:VA X md (e::es) ms pt) (hg:X.env.scope.names.lookup x=some .globalImplicit)
  (hdb:(x==("__debug__" : Str))=false) (he:starEach (e::es) X.env=(false,eval e X.env)::starEach es X.env:=by rfl) (hpl:(backTo pos (starEach es X.env)).any (·.1)=false:=by rfl) :
  VE X md (.Call (.Name x p) (e::es) [] pos) rm (bN pn pt):=⟨(PF C hr ha.h hg hdb he hpl).imp λσ H K=>by
 rintro⟨env,W0,H0,W,Q,R,q,k⟩
 refine⟨env,W0,H0,W,_,R,q,λxs vs W1 H1 g1 r1 q1=>?_⟩
 refine⟨xs,W1,Q,g1.kk.trans R.kk,g1.ok,by rw[a5r];exact r1.argF hm,q1,λy v W2 H2 g2 r2 q2=>?_⟩
 exact k y v W2 H2 (g1.trans g2) (ResE.base g1 (ResE.retF (R.go.trans g1) hrm r2)) q2⟩
end
open PySem PySem.W PyProof.Rows
section
variable{O:KeyOrd}{K:Nat->O.α}{cmp:Nat->Nat->(Bool->Ab->Prop)->Ab->Prop}{s:Ab}{n:Nat}
variable(hc:∀i j (C:Bool->Ab->Prop),i<n->j<n->C (O.blt (K i) (K j)) s->cmp i j C s)(hn:0<n)
include hc hn
omit hc hn in
omit hc hn in
end
theorem Y6:bootBuiltins "abs"=some (.builtin "abs"):=by decide+kernel
theorem Y4:("abs" : Str)≠ "__name__":=by decide+kernel
theorem Y2:(("abs" : Str)==("__debug__" : Str))=false:=by decide+kernel
def a45:List V->Hp->VK->Prop:=λxs H Q=>∃i:Int,xs=[.int i]/\Q (.int (if i<0 then -i else i)) H
theorem a0X{X:Cx}:QC X (.builtin "abs") a45:=⟨by
 intro pins s σ H xs us Q I r h
 obtain⟨i,rfl,q⟩:=h
 obtain⟨u,rfl,t,rfl⟩:=j5 r
 exact call_abs_int λu tk=>⟨.int _,H,I.tok _,⟨_,rfl⟩,q⟩⟩
def OX:PN:=λxs Q=>match xs with
 |[.int i]=>Q (.int (if i<0 then -i else i))
 |_=>False
theorem WC:SimC a45 [.bw] (.v .fl) OX:=⟨λB H0 W H vs xs Q K w r q k=>by
 obtain⟨v,x,rfl,rfl,r1⟩:=r.one
 unfold OX at q
 cases x with
 | int i=>
  obtain rfl:=Rep.ofInt r1
  exact⟨i,rfl,k.atom w (.int _) q⟩
 |_=>exact q.elim⟩
section
variable{K:Aa}{md md':List Md}{W0 W W' W1:Wd}{H0 H H' H1:Hp}{σ:St}{env:bC}{m:Md}{e:El}{v:V}{x:PV}{i:Nat}
def Md.unN:Md->Md
 |.n=>.no
 |m=>m
theorem RK{md:List Md}{i:Nat}:(md.map Md.unN).getD i .no=(md.getD i .no).unN:=by
 rw[a0c,a0c,a0g]
 cases md[i]? <;>rfl
theorem Rl.nput (R:Rl K md W0 H0 W σ env H) (hl:md.all (λm=>!m.lent)=true) {o o':HO} {a:Addr} (za:W.Z a) (ha:H0 a=none) (e:H a=some o) (him:o.imm=false) (hfz:∀u q,o≠ .frz u q) :
  Rl K (md.map Md.unN) W0 H0 W σ env (bF H a o')/\Ex W H W (bF H a o'):=by
 have ni:∀b u,H b=some u->u.imm=true->b≠a:=λb u e' hi z=>by subst z;rw[e] at e';cases e';rw[him] at hi;cases hi
 have nf:∀b,W.F b->b≠a:=λb f z=>by subst z;exact R.ok.zF b za f
 have keep:∀ {G:Addr->Prop} {u:V} {y:PV},(∀a,G a->W.F a)->Rep G H u y->Rep G (bF H a o') u y:=λhG r=>r.mono (λ_ h=>h) λb u h e=>by
  rw[aH (h.elim (λg=>nf b (hG b g)) (ni b u e))];exact e
 have keepB:∀ {G:Addr->Prop} {u:HO} {y:PV},(∀a,G a->W.F a)->Body G H u y->Body G (bF H a o') u y:=λhG r=>r.mono (λ_ h=>h) λb u h e=>by
  rw[aH (h.elim (λg=>nf b (hG b g)) (ni b u e))];exact e
 have w:Wok W (bF H a o'):=⟨λb hb=>by rw[aH (nf b hb)];exact R.ok.fF b hb,λb hb=>by
  have nb:b≠a:=λz=>by subst z;exact R.ok.zS b za hb
  obtain⟨x1,x2,x3,e1,e2⟩:=R.ok.sS b hb
  exact⟨x1,x2,x3,by rw[aH nb];exact e1,e2⟩,R.ok.dj,λb hb=>by
  by_cases h:b=a
  ·subst h;exact⟨o',b5⟩
  ·rw[aH h];exact R.ok.zZ b hb,R.ok.zF,R.ok.zS⟩
 have own':∀i,((md.map Md.unN).getD i .no).own=true->(md.getD i .no).own=true:=λi h=>by
  rw[RK] at h
  cases hm:md.getD i .no<;>rw[hm] at h<;>first|exact h|cases h
 refine⟨⟨R.ok0,⟨R.go.lF,R.go.lS,R.go.nF,R.go.nS,λb u eb sb=>?_,w,R.go.kk,R.go.kl,R.go.lZ,R.go.nZ⟩,R.len,λj y ej=>?_,λj k y z b hjk oj ok=>R.sep j k y z b hjk (own' j oj) (own' k ok),?_,R.kk⟩,λ_ h=>h,λb u f e=>by rw[aH (nf b f)];exact e,λb u im e=>by rw[aH (ni b u e im)];exact e⟩
 ·have nb:b≠a:=λz=>by subst z;rw[ha] at eb;cases eb
  rw[aH nb];exact R.go.kp b u eb sb
 ·obtain ⟨u,su,ru⟩:=R.slot j y ej
  refine⟨u,su,?_⟩
  rw[RK]
  have nl:(md.getD j .no).lent=false:=by
   rw[a0c]
   cases em:md[j]? with
   |none=>rfl
   |some m=>have:=a0x.mp hl m (a0u em);simpa using this
  cases hmd:md.getD j .no with
  |no=>trivial
  |n=>trivial
  |bw=>rw[hmd] at nl;cases nl
  |p e'=>rw[hmd] at nl;cases nl
  |c e'=>rw[hmd] at nl;cases nl
  |v e'=>rw[hmd] at ru;exact keep (λ_ g=>El.GF g) ru
  |st=>rw[hmd] at ru;exact ru
  | scr=>
   rw[hmd] at ru
   obtain⟨b,ns,e1,e2,z⟩:=ru
   refine⟨b,ns,e1,e2,?_⟩
   rcases z with ⟨oo,z⟩|z
   ·refine .inl ⟨oo,?_⟩
    rw[aH (λy=>?_)];exact z
    subst y
    rw[e] at z;cases z;exact hfz _ _ rfl
   ·exact .inr z
  | o e'=>
   rw[hmd] at ru;obtain⟨b,ob,z1,qb⟩:=ru
   have nb:b≠a:=λz=>by subst z;exact qb.nZ za
   exact⟨b,ob,z1,qb.new,qb.nF,qb.nS,by rw[aH nb];exact qb.at_,keepB (λ_ g=>El.GF g) qb.its,qb.nZ⟩
  | z e'=>
   rw[hmd] at ru;obtain⟨b,ob,z1,qb⟩:=ru
   exact⟨b,ob,z1,qb.new,qb.F,by rw[aH (nf b qb.F)];exact qb.at_,keepB (λ_ g=>El.GF g) qb.its⟩
 ·unfold fE
  rw[a2d,a0x,a0x]
  refine .inl λm hm=>?_
  obtain⟨m',h1,rfl⟩:=a0p.mp hm
  have:=a0x.mp hl m' h1
  cases m'<;>first|exact this|rfl
end
section
variable{X:Cx}{md lm:List Md}{rm:Md}{a b c e:Expr}{es:List Expr}{pt:lU}{pa pb pe:aY}{p pos apos cpos:Pos}{k:Nat}{x:Str}{ps:List Str}{ms:List Md}{pn:PN}{m:Md}{el:El}
theorem Rep.ofListG{G:Addr->Prop}{H:Hp}{v:V}{xs:List PV}(r:Rep G H v (.lst xs)):∃a vs,v= .ref a/\H a=some (.lst vs)/\Reps G H vs xs:=by
 obtain⟨a,vs,e,_,h,r⟩:=r.ofList;exact⟨a,vs,e,h,r⟩
theorem k6 (hm:m= .bw\/m= .n) (ha:VE X md a m pa) (hb:VE X md b .bw pb) (hp:∀o i,subscripted b false o i=operate [o,i] (getItem o i)):VE X md (.Subscript a b pos) m (aQ cV pa pb):=
 ⟨(HX EU ha.h hb.h hp).imp λσ H K=>by
  rintro⟨env,W0,H0,W,Q,R,q,k⟩
  refine⟨env,W0,H0,W,_,R,q,λx v W1 H1 g1 r1 q1=>⟨env,W0,H0,W1,_,R.step g1,q1,λy u W2 H2 g2 r2 q2=>?_⟩⟩
  obtain ⟨G,hG,r1'⟩ : ∃G:Addr->Prop,(∀w z,Rep G H2 w z->ResE H0 H W2 H2 m w z)/\Rep G H2 v x:=by
   rcases hm with rfl|rfl
   ·exact⟨λa=>¬W2.S a,λ_ _ h=>h,ResE.go (m:=.bw) (B:=H0) (H:=H) r1 g1.ok g2⟩
   ·exact⟨λa=>W2.Z a/\H0 a=none,λ_ _ h=>h,ResE.go (m:=.n) (B:=H0) (H:=H) r1 g1.ok g2⟩
  unfold cV at q2
  cases y with
  | int i=>
   have hy:=Rep.ofInt r2
   subst hy
   cases x with
   | lst xs=>
    dsimp only at q2
    obtain⟨a,vs,rfl,e,r⟩:=r1'.ofListG
    cases h:iV xs i with
    |none=>rw[h] at q2;exact q2.elim
    | some z=>
     rw[h] at q2
     obtain⟨w,e1,e2⟩:=oH r h
     exact .inl ⟨a,vs,i,w,rfl,rfl,d9.of e,e1,k z w W2 H2 (g1.trans g2) (hG _ _ e2) q2⟩
   | tup xs=>
    dsimp only at q2
    obtain⟨a,vs,rfl,e,r⟩:=r1'.ofTup
    cases h:iV xs i with
    |none=>rw[h] at q2;exact q2.elim
    | some z=>
     rw[h] at q2
     obtain⟨w,e1,e2⟩:=oH r h
     exact .inr (.inl ⟨a,vs,i,w,rfl,rfl,dQ.of e,e1,k z w W2 H2 (g1.trans g2) (hG _ _ e2) q2⟩)
   | str s=>
    dsimp only at q2
    cases h:iV s.cps.toList i with
    |none=>rw[h] at q2;exact q2.elim
    | some c=>
     rw[h] at q2
     exact .inr (.inr ⟨s,i,c,r1'.ofStr,rfl,q2.1,h,k _ _ W2 H2 (g1.trans g2) (hG _ _ (.str _)) q2.2⟩)
   |_=>exact q2.elim
  |_=>cases x<;>exact q2.elim⟩
end
theorem Rep.uniq {H:Hp} {v:V} {x:PV} (r:Rep (λ_=>False) H v x):∀ {y:PV},Rep (λ_=>False) H v y->x=y:=by
 induction r with
 |non=>intro y q;cases q;rfl
 |bl b=>intro y q;cases q;rfl
 |int i=>intro y q;cases q;rfl
 |str x=>intro y q;cases q;rfl
 |ty n=>intro y q;cases q;rfl
 | set e=>
  intro y q
  cases q with
  |set e'=>rw[e] at e';cases e';rfl
  |tup e' _ _=>rw[e] at e';cases e'
  |lst g _ _ _=>exact g.elim
  |dic g _ _ _ _=>exact g.elim
 |lst g _ _ _=>exact g.elim
 |dic g _ _ _ _=>exact g.elim
 | @tup a vs xs e l _ ih=>
  intro y q
  cases q with
  |set e'=>rw[e] at e';cases e'
  |lst g _ _ _=>exact g.elim
  |dic g _ _ _ _=>exact g.elim
  | @tup _ us ys e' l' h'=>
   rw[e] at e'
   cases e'
   congr 1
   refine a5e λi=>?_
   by_cases hi:i<vs.length
   ·have h1:i<xs.length:=by omega
    have h2:i<ys.length:=by omega
    rw[a0a h1,a0a h2]
    congr 1
    exact ih i vs[i] xs[i] (a0a hi) (a0a h1) (h' i _ _ (a0a hi) (a0a h2))
   ·rw[a2o.mpr (by omega),a2o.mpr (by omega)]
theorem LG {H:Hp} {vs:List V} {xs ys:List PV} (r:Reps (λ_=>False) H vs xs) (q:Reps (λ_=>False) H vs ys):xs=ys:=by
 refine a5e λi=>?_
 have h1:=r.len
 have h2:=q.len
 by_cases hi:i<vs.length
 ·rw[a0a (by omega),a0a (by omega)]
  congr 1
  exact (r.at_ i vs[i] _ (a0a hi) (a0a (by omega))).uniq (q.at_ i vs[i] _ (a0a hi) (a0a (by omega)))
 ·rw[a2o.mpr (by omega),a2o.mpr (by omega)]
def a2I(xs:List PV)(n:Nat)(ys:List PV)(y:PV):Prop:=∀(m:Nat) (z:PV),xs[m]? =some z->m≠n->z.flat=true\/∃ws,z= .lst ws/\PV.flats ws=true/\(ws=ys->y= .lst ys)
section
variable{Z:Ac->Prop}{H:Hp}{a:Ac}{us:List V}{ys:List PV}{o:HO}{y:PV}
theorem xO(ea:H a=some (.lst us)){v:V}{z:PV}(r:Rep (λ_=>False) H v z):Rep (λ_=>False) (bF H a o) v z:=r.mono (λ_ h=>h) λb u h e=>by
 refine (aH λz=>?_).trans e
 subst z
 rw[ea] at e;cases e
 rcases h with h|h
 ·exact h
 ·cases h
theorem xM {vs:List V} {xs:List PV} (ea:H a=some (.lst us)) (za:Z a) (ra:Reps (λ_=>False) H us ys) (ro:Rep Z (bF H a o) (.ref a) y) (r:Reps Z H vs xs) {n:Nat} (en:vs[n]? =some (.ref a)) (ok:a2I xs n ys y):Reps Z (bF H a o) vs (xs.set n y):=⟨by rw[a6h];exact r.len,λm v z e1 e2=>by
 rw[a2m] at e2
 by_cases hm:n=m
 ·subst hm
  rw[if_pos rfl] at e2
  rw[en] at e1
  cases e1
  split at e2
  ·cases e2;exact ro
  ·cases e2
 ·rw [if_neg hm] at e2
  have r1:=r.at_ m v z e1 e2
  rcases ok m z e2 (λh=>hm h.symm) with hf|⟨ws,rfl,fw,hy⟩
  ·exact (xO ea (r1.flat hf)).weak λ_ h=>h.elim
  ·obtain ⟨b,ts,rfl,zb,eb,rb⟩:=r1.ofList
   have rb':=flats_reps rb fw
   by_cases hb:b=a
   ·subst hb
    rw[ea] at eb
    cases eb
    have:=LG rb' ra
    subst this
    rw[hy rfl] at ro
    exact ro
   ·exact .lst zb ((aH hb).trans eb) rb.len λi u q e1 e2=>(xO ea (rb'.at_ i u q e1 e2)).weak λ_ h=>h.elim⟩
end
section
variable{K:Aa}{md:List Md}{W0 W:Wd}{H0 H:Hp}{σ:St}{env:bC}{i n:Nat}{p a:Ac}{xs ys:List PV}{us:List V}{mk:List PV->PV}{o':HO}{y:PV}
theorem wC{u:PV}(e:H a=some (.lst us))(r:Rep (λ_=>False) H (.ref a) u):False:=by
 cases r with
 |set e'=>rw[e] at e';cases e'
 |tup e' _ _=>rw[e] at e';cases e'
 |lst g _ _ _=>exact g
 |dic g _ _ _ _=>exact g
theorem Rl.uput (R:Rl K md W0 H0 W σ env H) (hl:md.all (λm=>!m.lent)=true) (hi:md.getD i .no= .n) (hmk:mk=PV.lst\/mk=PV.tup) (ev:env[i]? =some (some (mk xs))) (sv:σ[i]? =some (some (.ref p))) (hz:xs[n]? =some (.lst ys)) (fl:PV.flats ys=true)
  (ip:∃vs,(H p=some (.lst vs)\/H p=some (.tup vs))/\vs[n]? =some (.ref a)) (za:W.Z a) (na:H0 a=none) (ea:H a=some (.lst us)) (ra:Reps (λ_=>False) H us ys) (b:Body (El.fl.G W.F H0) H o' y) (ok:a2I xs n ys y) :
  Rl K ((md.map Md.unN).set i .n) W0 H0 W σ (env.set i (some (mk (xs.set n y)))) (bF H a o')/\Ex W H W (bF H a o'):=by
 obtain⟨R3,x3⟩:=R.nput (o':=o') hl za na ea rfl (λ_ _ z=>by cases z)
 refine⟨?_,x3⟩
 have hil:i<md.length:=by
  refine a5i λh=>?_
  rw[a0c,a2a h] at hi
  cases hi
 have hb:Body (λb=>W.Z b/\H0 b=none) (bF H a o') o' y:=b.mono (λ_ h=>h.elim) λc u h e=>by
  refine (aH λz=>?_).trans e
  subst z
  rw[ea] at e;cases e
  rcases h with h|h
  ·exact h
  ·cases h
 have ro:=hb.rep (a:=a) ⟨za,na⟩ b5
 obtain⟨vs,hv,en⟩:=ip
 have hpa:p≠a:=λz=>by
  subst z
  rcases hv with hv|hv
  ·rw[ea] at hv;cases hv
   obtain⟨u,hu,ru⟩:=ra.getV en
   exact wC ea ru
  ·rw[ea] at hv;cases hv
 obtain⟨v2,sv2,rv2⟩:=R.slot i _ ev
 rw[sv] at sv2
 cases sv2
 rw[hi] at rv2
 have rv2:Rep (λb=>W.Z b/\H0 b=none) H (.ref p) (mk xs):=rv2
 have new:Rep (λb=>W.Z b/\H0 b=none) (bF H a o') (.ref p) (mk (xs.set n y)):=by
  rcases hmk with rfl|rfl
  ·obtain ⟨p',vs',e1,g1,e2,r2⟩:=rv2.ofList
   cases e1
   rcases hv with hv|hv
   ·rw[hv] at e2;cases e2
    have r3:=xM ea (Z:=λb=>W.Z b/\H0 b=none) ⟨za,na⟩ ra ro r2 en ok
    exact .lst g1 ((aH hpa).trans hv) r3.len r3.at_
   ·rw[hv] at e2;cases e2
  ·obtain ⟨p',vs',e1,e2,r2⟩:=rv2.ofTup
   cases e1
   rcases hv with hv|hv
   ·rw[hv] at e2;cases e2
   ·rw[hv] at e2;cases e2
    have r3:=xM ea (Z:=λb=>W.Z b/\H0 b=none) ⟨za,na⟩ ra ro r2 en ok
    exact .tup ((aH hpa).trans hv) r3.len r3.at_
 have hm:fE ((md.map Md.unN).set i .n)=true:=by
  unfold fE
  rw[a2d,a0x,a0x]
  refine .inl λm hm=>?_
  rcases a5x hm with hm|rfl
  ·obtain⟨m',h1,rfl⟩:=a0p.mp hm
   have:=a0x.mp hl m' h1
   cases m'<;>first|exact this|rfl
  ·rfl
 have R4:=R3.set (Go.refl R3.ok) (m:=.n) (v:=.ref p) (x:=mk (xs.set n y)) new hm (by rw[a0d];exact hil)
 have hs:σ.set i (some (.ref p))=σ:=by
  refine a5e λj=>?_
  rw[a2m]
  by_cases h:i=j
  ·subst h
   rw[if_pos rfl,if_pos (a0j.mp sv).1];exact sv.symm
  ·rw[if_neg h]
 rw[hs] at R4
 exact R4
end
def P8 (xs:List PV) (j:PV) (t:lU) (pm:PV->List PV->(PV->Prop)->Prop) (K:List PV->Prop) (env:bC):Prop:=match j with
 | .int k=>(match sR xs.length k with
  | some n=>(match xs[n]? with
   |some (.lst ys)=>PV.flats ys=true/\t env λzs=>pm (.lst ys) zs λy=>a2I xs n ys y/\K (xs.set n y)
   |_=>False)
  |none=>False)
 |_=>False
def uT(i:Nat)(pj:aY)(pm:PV->List PV->(PV->Prop)->Prop)(t:lU):bO:=λE env=>match k9 env i with
 |some (some (.lst xs))=>pj env λj=>P8 xs j t pm (λzs=>E.nx (eU env i (some (.lst zs)))) env
 |some (some (.tup xs))=>pj env λj=>P8 xs j t pm (λzs=>E.nx (eU env i (some (.tup zs)))) env
 |_=>False
section
variable{X:Cx}{md lm:List Md}{rm:Md}{e j o:Expr}{es:List Expr}{pt:lU}{pj:aY}{p2 pos apos cpos:Pos}{i:Nat}{ms:List Md}{pm:PV->List PV->(PV->Prop)->Prop}{r:V->List V->Hp->VK->Prop}{id:String}{name:Str}
theorem a1T {W:Wd} {H0 H:Hp} {v:V} {xs:List PV} {mk:List PV->PV} (hmk:mk=PV.lst\/mk=PV.tup) {n:Nat} {ys:List PV} (hz:xs[n]? =some (.lst ys)) (r:Rep (λb=>W.Z b/\H0 b=none) H v (mk xs)) :
  ∃(p:Ac) (vs:List V) (a:Ac) (us:List V),v= .ref p/\(H p=some (.lst vs)/\W.Z p\/H p=some (.tup vs))/\vs.length=xs.length/\vs[n]? =some (.ref a)/\(W.Z a/\H0 a=none)/\H a=some (.lst us)/\Reps (λb=>W.Z b/\H0 b=none) H us ys:=by
 rcases hmk with rfl|rfl
 ·obtain⟨p,vs,rfl,g,e,rs⟩:=r.ofList
  obtain⟨w,ew,rw'⟩:=rs.get hz
  obtain⟨a,us,rfl,ga,ea,ra⟩:=rw'.ofList
  exact⟨p,vs,a,us,rfl,.inl ⟨e,g.1⟩,rs.len,ew,ga,ea,ra⟩
 ·obtain⟨p,vs,rfl,e,rs⟩:=r.ofTup
  obtain⟨w,ew,rw'⟩:=rs.get hz
  obtain⟨a,us,rfl,ga,ea,ra⟩:=rw'.ofList
  exact⟨p,vs,a,us,rfl,.inr e,rs.len,ew,ga,ea,ra⟩
theorem LU (pa:PlainAttrs "list") (slot:Slot "list" name id) (hty:typeOf (.builtin id)=pure (.type "method_descriptor")) (hm:QM X id r) (hs:SimM r [] .fl pm) (hl:md.all (λm=>!m.lent)=true) (hv:QE X o (eV i)) (hi:md.getD i .no= .n) (hj:VE X md j .bw pj) (hp:∀o i,subscripted j false o i=operate [o,i] (getItem o i))
  (hsw:swapsWith (.Call (.Attribute (.Subscript o j p2) name apos) [] [] cpos) none pos.line X.env=pure false:=by rfl)
  (hbase:attributeBase (.Subscript o j p2) name X.env (eval (.Subscript o j p2) X.env)=eval (.Subscript o j p2) X.env:=by rfl)
  (hline:(apos.endLine==cpos.line)=true:=by rfl) :
  VS X md ((md.map Md.unN).set i .n) lm rm (.Expr (.Call (.Attribute (.Subscript o j p2) name apos) [] [] cpos) pos) (uT i pj pm aF):=⟨(IA (a0E pa slot hty hm.h (HX EU hv.h hj.h hp) hbase hline) hsw).imp λD σ H=>by
 rintro⟨env,W0,H0,W,E,R,q,l⟩
 have red:∃(mk:List PV->PV) (xs:List PV),(mk=PV.lst\/mk=PV.tup)/\env[i]? =some (some (mk xs))/\pj env λj=>P8 xs j aF pm (λzs=>E.nx (eU env i (some (mk zs)))) env:=by
  unfold uT at q
  rw[jH] at q
  cases ev:env[i]? with
  |none=>rw[ev] at q;exact q.elim
  | some ox=>
   cases ox with
   |none=>rw[ev] at q;exact q.elim
   | some x=>
    rw[ev] at q
    cases x with
    |lst xs=>exact⟨PV.lst,xs,.inl rfl,rfl,q⟩
    |tup xs=>exact⟨PV.tup,xs,.inr rfl,rfl,q⟩
    |_=>exact q.elim
 clear q
 obtain⟨mk,xs,hmk,ev,q⟩:=red
 obtain⟨v,sv,rv⟩:=R.slot i _ ev
 rw[hi] at rv
 have rv:Rep (λb=>W.Z b/\H0 b=none) H v (mk xs):=rv
 refine⟨v,sv,env,W0,H0,W,_,R,q,λjv u W1 H1 g1 r1 q1=>?_⟩
 have r1:Rep (λa=>¬W1.S a) H1 u jv:=r1
 unfold P8 at q1
 cases jv with
 | int k=>
  obtain rfl:=r1.ofInt
  dsimp only at q1
  cases hx:sR xs.length k with
  |none=>rw[hx] at q1;exact q1.elim
  | some n=>
   rw[hx] at q1
   dsimp only at q1
   cases hz:xs[n]? with
   |none=>rw[hz] at q1;exact q1.elim
   | some z=>
    rw[hz] at q1
    cases z with
    | lst ys=>
     dsimp only at q1
     have R1:=R.step g1
     obtain⟨v1,sv1,rv1⟩:=R1.slot i _ ev
     rw[hi] at rv1
     rw[sv] at sv1
     cases sv1
     obtain⟨p,vs,a,us,rfl,hc,hlen,en,ga,ea,ra⟩:=a1T hmk hz (show Rep (λb=>W1.Z b/\H0 b=none) H1 v (mk xs) from rv1)
     have eat:iV vs k=some (.ref a):=by
      unfold iV
      rw[hlen,hx]
      exact en
     have go:∀(Kk:V->Hp->Prop),Kk (.ref a) H1->a74 X.K (.ref p) (.int k) H1 Kk:=λKk h=>by
      rcases hc with ⟨hc,_⟩|hc
      ·exact .inl ⟨p,vs,k,.ref a,rfl,rfl,d9.of hc,eat,h⟩
      ·exact .inr (.inl ⟨p,vs,k,.ref a,rfl,rfl,dQ.of hc,eat,h⟩)
     refine go _ ⟨.inl ⟨rfl,_,d9.of ea⟩,?_⟩
     have q2:=q1.2
     unfold aF at q2
     have ra2:Reps (λ_=>False) H1 us ys:=flats_reps ra q1.1
     refine hs.h H0 H1 W1 H1 a _ _ [] [] _ _ R1.ok ea (R1.ok.zF a ga.1) (R1.ok.zS a ga.1) (.lst (ra2.weak λ_ h=>h.elim)) .nil q2 λo' y v' im b z=>?_
     have ip:∃vs,(H1 p=some (.lst vs)\/H1 p=some (.tup vs))/\vs[n]? =some (.ref a):=by
      rcases hc with ⟨hc,zp⟩|hc
      ·exact⟨vs,.inl hc,en⟩
      ·exact⟨vs,.inr hc,en⟩
     obtain⟨R3,x3⟩:=R1.uput (o':=o') hl hi hmk ev sv hz q1.1 ip ga.1 ga.2 ea ra2 b z.1
     rw[e8] at z
     exact l.nx _ W1 σ _ R3 ((g1.ex R.ok).trans x3) z.2
    |_=>exact q1.elim
 |_=>exact q1.elim⟩
theorem WZ {pr:lU} (h:VA X md es ms pr) (hm:ms.all (λm=>m.le (.v .fl)||m== .o .fl)=true) (hl:ms.length<=1000:=by decide):VE X md (.List es pos) .n (cP pr):=⟨(FH h.h).imp λσ H K=>by
 rintro⟨env,W0,H0,W,Q,R,q,k⟩
 refine⟨env,W0,H0,W,_,R,q,λxs vs W1 H1 g1 r1 q1=>⟨vW r1 hl,λp hp=>?_⟩⟩
 have hpn:H p=none:=g1.free hp
 have gl:=Go.laid (o:=.lst vs) g1.ok hp
 have g2:Go W H {W1 with Z:=λb=>W1.Z b\/b=p\/(H b=none/\¬W1.F b/\¬W1.S b/\∃o,H1 b=some o)} (bF H1 p (.lst vs)):=
  ⟨λa h=>g1.lF a h,g1.lS,g1.nF,g1.nS,λa o e s=>gl.kp a o (g1.kp a o e s) (g1.nSS e s),⟨gl.ok.fF,gl.ok.sS,g1.ok.dj,λa h=>by
   rcases h with h|rfl|⟨_,_,_,o,h⟩
   ·exact gl.ok.zZ a h
   ·exact⟨_,b5⟩
   ·exact⟨o,(aH (c9 h hp)).trans h⟩,λa h=>by
   rcases h with h|rfl|h
   ·exact g1.ok.zF a h
   ·exact λf=>g1.ok.offF hp f
   ·exact h.2.1,λa h=>by
   rcases h with h|rfl|h
   ·exact g1.ok.zS a h
   ·exact λf=>g1.ok.offS hp f
   ·exact h.2.2.1⟩,g1.kk,g1.kl,λa h=>.inl (g1.lZ a h),λa h=>by
   rcases h with h|rfl|h
   ·exact g1.nZ a h
   ·exact .inr hpn
   ·exact .inr h.1⟩
 refine k (.lst xs) (.ref p) _ _ g2 ?_ q1
 have keep:∀ {G:Ac->Prop} {v:V} {x:PV},Rep G H1 v x->Rep G (bF H1 p (.lst vs)) v x:=λr=>r.mono (λ_ h=>h) λb u _ e=>(aH (c9 e hp)).trans e
 have rs:Reps (λb=>(W1.Z b\/b=p\/(H b=none/\¬W1.F b/\¬W1.S b/\∃o,H1 b=some o))/\H0 b=none) H1 vs xs:=r1.reps λm v x hmem r=>by
  have:=a0x.mp hm m hmem
  rcases a2d _ _▸this with z|z
  ·have r2:Rep (λ_=>False) H1 v x:=ResE.le r g1.ok (n:=.v .fl) z
   exact r2.weak λ_ h=>h.elim
  ·rw[a3t] at z
   subst z
   obtain⟨a,o,rfl,ow⟩:=r
   have ho:Rep (λb=>(W1.Z b\/b=p\/(H b=none/\¬W1.F b/\¬W1.S b/\∃o,H1 b=some o))/\H0 b=none) H1 (.ref a) x:=(ow.its.mono (λ_ h=>h.elim) λ_ _ _ e=>e).rep ⟨.inr (.inr ⟨ow.new,ow.nF,ow.nS,o,ow.at_⟩),R.go.free ow.new⟩ ow.at_
   exact ho
 exact .lst ⟨.inr (.inl rfl),R.go.free hpn⟩ b5 rs.len λi v x e1 e2=>keep (rs.at_ i v x e1 e2)⟩
end
theorem P9 {i:Nat} {pj:aY} {pm:PV->List PV->(PV->Prop)->Prop} {t:lU} {E:PEnds} {env:bC} {xs ys:List PV} {k:Int} {n:Nat} (h:k9 env i=some (some (.lst xs))) (hj:∀Q:PV->Prop,Q (.int k)->pj env Q) (hn:sR xs.length k=some n) (hz:xs[n]? =some (.lst ys)) (fl:PV.flats ys=true)
  (q:t env λzs=>pm (.lst ys) zs λy=>a2I xs n ys y/\E.nx (eU env i (some (.lst (xs.set n y))))):uT i pj pm t E env:=by
 unfold uT
 rw[h]
 refine hj _ ?_
 unfold P8
 dsimp only
 rw[hn]
 dsimp only
 rw[hz]
 exact⟨fl,q⟩
abbrev RD.pC(x:PV):aY:=λ_ Q=>Q x
abbrev RD.a9(i:Nat):aY:=λenv Q=>match k9 env i with
 |some (some x)=>Q x
 |_=>False
abbrev RD.aQ(r:P2)(a b:aY):aY:=λenv Q=>a env λx=>b env λy=>r x y Q
abbrev RD.HU(r:PV->(PV->Prop)->Prop)(a:aY):aY:=λenv Q=>a env λx=>r x Q
abbrev RD.aF:lU:=λ_ Q=>Q []
abbrev RD.a8(a:aY)(r:lU):lU:=λenv Q=>a env λx=>r env λxs=>Q (x::xs)
abbrev RD.bN(r:PN)(a:lU):aY:=λenv Q=>a env λxs=>r xs Q
abbrev RD.gZ(a:aY):fD:=λenv Q=>a env λx=>match x with
 |.bl b=>Q b
 |_=>False
abbrev RD.xT(a b:aY):aY:=λenv Q=>a env λx=>match x with
 |.bl k=>Br k (b env Q) (Q (.bl false))
 |_=>False
abbrev RD.P5(a b:aY):aY:=λenv Q=>a env λx=>match x with
 |.bl k=>Br k (Q (.bl true)) (b env Q)
 |_=>False
abbrev RD.CD(a:aY):aY:=λenv Q=>a env λx=>match x with
 |.bl k=>Q (.bl (!k))
 |_=>False
abbrev RD.qO(a b:fD):fD:=λenv Q=>a env λk=>Br k (b env Q) (Q false)
abbrev RD.a2A(a b:fD):fD:=λenv Q=>a env λk=>Br k (Q true) (b env Q)
abbrev RD.L8(a:fD):fD:=λenv Q=>a env λk=>Q (!k)
abbrev RD.qQ(r r':P2)(a b c:aY):aY:=λenv Q=>a env λx=>b env λy=>r x y λz=>match z with
 |.bl k=>Br k (c env λw=>r' y w Q) (Q (.bl false))
 |_=>False
abbrev RD.iL(a:aY):aY:=λenv Q=>a env λx=>x.flat=true/\Q x
abbrev RD.jI(a:aY):aY:=λenv Q=>a env λx=>match x with
 |.lst xs=>PV.flats xs=true/\Q (.lst xs)
 |_=>False
abbrev RD.cP(a:lU):aY:=λenv Q=>a env λxs=>Q (.lst xs)
abbrev RD.dD(a:lU):aY:=λenv Q=>a env λxs=>Q (.tup xs)
abbrev RD.pI(C:Int->Int->Prop)(f:Int->Int->PV):P2:=λx y Q=>match x,y with
 |.int i,.int j=>C i j/\Q (f i j)
 |_,_=>False
abbrev RD.A3(f:Int->Int->PV):P2:=λx y Q=>match x,y with
 |.int i,.int j=>Q (f i j)
 |_,_=>False
abbrev RD.pU(f:Int->PV):PV->(PV->Prop)->Prop:=λx Q=>match x with
 |.int i=>Q (f i)
 |_=>False
abbrev RD.xS:P2:=λx y Q=>match x,y with
 |.str i,.str j=>i.length+j.length<=sizeLine/\Q (.str (i++j))
 |_,_=>False
abbrev RD.L7:P2:=λx y Q=>match y with
 |.non=>Q (.bl x.isNon)
 |_=>False
abbrev RD.rT:P2:=λx y Q=>match y with
 |.non=>Q (.bl (!x.isNon))
 |_=>False
abbrev RD.oV:MM:=λ_ Q=>Q none
abbrev RD.m9(a:aY):MM:=λenv Q=>a env λx=>match x with
 |.int i=>Q (some i)
 |_=>False
abbrev RD.LA(x:PV)(lo hi:Option Int)(Q:PV->Prop):Prop:=match x with
 |.lst xs=>Q (.lst (qG xs lo hi))
 |_=>False
abbrev RD.LB(x:PV)(lo hi:Option Int)(Q:PV->Prop):Prop:=match x with
 |.tup xs=>¬(HT.sIx xs.length 0 lo=0/\HT.sIx xs.length xs.length hi=xs.length)/\Q (.tup (qG xs lo hi))
 |_=>False
abbrev RD.jJ(r:PV->Option Int->Option Int->(PV->Prop)->Prop)(a:aY)(lo hi:MM):aY:=λenv Q=>a env λx=>lo env λl=>hi env λh=>r x l h Q
abbrev RD.A1:P2:=λx y Q=>match x,y with
 |.lst xs,.lst ys=>xs.length+ys.length<=sizeLine/\Q (.lst (xs++ys))
 |_,_=>False
abbrev RD.FD:P2:=λx y Q=>match x,y with
 |.lst xs,.int k=>-(2^63)<=k/\k<2^63/\xs.length*k.toNat<=sizeLine/\Q (.lst (List.replicate k.toNat xs).flatten)
 |_,_=>False
abbrev RD.m8:PN:=λxs Q=>match xs with
 |[.lst ys]=>Q (.int ys.length)
 |[.tup ys]=>Q (.int ys.length)
 |[.str s]=>s.length<=sizeLine/\Q (.int s.length)
 |_=>False
abbrev RD.oU:PN:=λxs Q=>match xs with
 |[.scr ns]=>Q (.int ns.length)
 |_=>False
abbrev RD.xU:PN:=λxs Q=>match xs with
 |[.int i,.int j]=>Q (.int (max i j))
 |_=>False
abbrev RD.xV:PN:=λxs Q=>match xs with
 |[.int i,.int j]=>Q (.int (min i j))
 |_=>False
abbrev RD.rS:PN:=λxs Q=>match xs with
 |[.int i]=>Q (.int i)
 |[.bl b]=>Q (.int (if b then 1 else 0))
 |_=>False
abbrev RD.hV:PN:=λxs Q=>match xs with
 |[.lst ys]=>Q (.lst ys)
 |[.tup ys]=>Q (.lst ys)
 |_=>False
abbrev RD.aO:bO:=λE env=>E.nx env
abbrev RD.aL(p q:bO):bO:=λE env=>p {E with nx:=q E} env
abbrev RD.g9(c:fD)(a b:bO):bO:=λE env=>c env λk=>Br k (a E env) (b E env)
abbrev RD.bY(a:aY):bO:=λE env=>a env E.rt
abbrev RD.bK(i:Nat)(a:aY):bO:=λE env=>a env λx=>E.nx (eU env i (some x))
abbrev RD.aG(i:Nat):iU:=λx env R=>R (eU env i (some x))
abbrev RD.cW:sI:=λxs env R=>match xs with
 |[]=>R env
 |_=>False
abbrev RD.aM(g:iU)(u:sI):sI:=λxs env R=>match xs with
 |x::r=>g x env λenv'=>u r env' R
 |[]=>False
abbrev RD.bV(n:Nat)(g:sI):iU:=λx env R=>match x with
 |.tup xs=>xs.length=n/\g xs env R
 |_=>False
abbrev RD.qP(a:aY)(g:iU):bO:=λE env=>a env λx=>g x env E.nx
abbrev RD.c6(a:aY):n9:=λenv Q=>a env λx=>match x with
 |.lst xs=>Q xs
 |_=>False
abbrev RD.yD(a:aY):n9:=λenv Q=>a env λx=>match x with
 |.tup xs=>Q xs
 |_=>False
abbrev RD.f7(a:aY):n9:=λenv Q=>a env λx=>match x with
 |.int j=>-(2^62)<=j/\j<2^62/\Q (cU 0 j.toNat)
 |_=>False
abbrev RD.g8(s:n9)(g:iU)(b:bO):bO:=λE env=>s env λitems=>oT g b E items env
abbrev RD.a2B(T:String)(x:PV):Prop:=match x with
 |.lst _=>T="list"
 |.dic _ _=>T="dict"
 |_=>False
abbrev RD.gA(T:String)(i:Nat)(pm:PV->List PV->(PV->Prop)->Prop)(t:lU):bO:=λE env=>match k9 env i with
 |some (some x)=>RD.a2B T x/\t env λys=>pm x ys λx'=>E.nx (eU env i (some x'))
 |_=>False
abbrev RD.dJ:PV->List PV->(PV->Prop)->Prop:=λx ys R=>match x,ys with
 |.lst xs,[y]=>xs.length<sizeLine/\R (.lst (xs++[y]))
 |_,_=>False
abbrev RD.p6:PV->List PV->(PV->Prop)->Prop:=λx ys R=>match x,ys with
 |.lst xs,[]=>R (.lst [])
 |_,_=>False
abbrev RD.P6 (i:Nat) (pe pj:aY):bO:=λE env=>pe env λy=>match k9 env i with
 | some (some (.lst xs))=>pj env λj=>(match j with
  | .int k=>(match sR xs.length k with
   |some n=>E.nx (eU env i (some (.lst (xs.set n y))))
   |none=>False)
  |_=>False)
 |_=>False
abbrev RD.qS(s:n9)(g:iU)(tt:fD)(te:aY)(cp:bC->bC):aY:=λenv Q=>s env λitems=>items.length<=sizeLine/\kN g tt te Q items [] (cp env)
abbrev RD.dI:fD:=λ_ Q=>Q true
abbrev RD.A2:P2:=RD.A3 λi j=>.bl (decide (i=j))
abbrev RD.P0:P2:=RD.A3 λi j=>.bl (!decide (i=j))
abbrev RD.dH:P2:=RD.A3 λi j=>.int (i+j)
abbrev RD.gM:P2:=RD.A3 λi j=>.int (i-j)
abbrev RD.uQ:P2:=RD.pI w6 λi j=>.int (i*j)
abbrev RD.jV:P2:=RD.pI w8 λi j=>.int (i^j.toNat)
abbrev RD.uP:P2:=RD.A3 λi j=>.bl (decide (i<j))
abbrev RD.FC:P2:=RD.A3 λi j=>.bl (decide (i<=j))
abbrev RD.m7:P2:=RD.A3 λi j=>.bl (decide (j<i))
abbrev RD.jU:PV->(PV->Prop)->Prop:=RD.pU λi=>.int (-i)
abbrev RD.uO(a:aY):aY:=λenv Q=>a env λx=>match x with
 |.int j=>0<=j/\j<=1000/\Q (.lst (cU 0 j.toNat))
 |_=>False
abbrev RD.uN(te:aY):DM:=λacc env K=>te env λv=>match v with
 |.int i=>acc.length<63/\K (acc++[i]) env
 |_=>False
abbrev RD.CB(s:n9)(g:iU)(tt:fD)(a:DM):DM:=λacc env K=>s env λitems=>lK g tt a K items acc env
abbrev RD.mV(s:n9)(g:iU)(tt:fD)(a:DM)(cp:bC->bC):aY:=λenv Q=>s env λitems=>lK g tt a (λacc _=>Q (.lst ((aP acc).map PV.int))) items [] (cp env)
abbrev RD.kP(a:aY):n9:=λenv Q=>a env λx=>match x with
 |.lst xs=>Q (rL xs)
 |_=>False
abbrev RD.L9(i j:Nat)(pa:lU):bO:=λE env=>pa env λxs=>match xs with
 |[x,y]=>E.nx (eU (eU env i (some x)) j (some y))
 |_=>False
abbrev RD.P7(a k:aY):aY:=λenv Q=>a env λx=>k env λy=>match x,y with
 |.lst xs,.int i=>i=-1/\Q (.lst xs.reverse)
 |_,_=>False
abbrev RD.rR (n:Nat) (pe pj:aY):bO:=λE env=>pe env λy=>match k9 env n with
 | some (some (.dic ks xs))=>pj env λj=>(match KJ j with
  |some k=>ks.length<1000/\E.nx (eU env n (some (.dic (K1 ks k) (DO ks xs k y))))
  |none=>False)
 |_=>False
abbrev RD.v7(a b:aY):n9:=λenv Q=>a env λx=>b env λy=>match x,y with
 |.lst xs,.lst ys=>Q (wR xs ys)
 |_,_=>False
abbrev RD.P4(a b:aY):aY:=λenv Q=>a env λx=>match x with
 |.lst xs=>Br (!xs.isEmpty) (Q (.lst xs)) (b env Q)
 |_=>False
abbrev RD.kO (i:Nat) (y:PV) (pj:aY) (Kp:bC->Prop) (env:bC):Prop:=match k9 env i with
 | some (some (.lst xs))=>pj env λj=>(match j with
  | .int k=>(match sR xs.length k with
   |some n=>Kp (eU env i (some (.lst (xs.set n y))))
   |none=>False)
  |_=>False)
 |_=>False
abbrev RD.xW(i i':Nat)(pe pj pj':aY):bO:=λE env=>pe env λt=>match t with
 |.tup [y,z]=>RD.kO i y pj (λenv1=>RD.kO i' z pj' E.nx env1) env
 |_=>False
abbrev RD.a29(s:n9)(g:iU)(tt:fD)(tk tv:aY)(cp:bC->bC):aY:=λenv Q=>s env λitems=>wK g tt tk tv Q items [] [] (cp env)
abbrev RD.mB(a:aY):aY:=λenv Q=>a env λx=>gI 64 x λns=>Q (.lst ((aP ns).map PV.int))
abbrev RD.mC(a b:aY):aY:=λenv Q=>a env λx=>gI 32 x λns=>b env λy=>gI 32 y λms=>Q (.lst ((aP (n8 ns ms)).map PV.int))
abbrev RD.qU:PV->List PV->(PV->Prop)->Prop:=λx ys R=>match x,ys with
 | .dic ks xs,[y]=>(match KJ y with
  |some k=>(DN ks xs k).isSome=true/\R (.dic (TC ks k) (BJ ks xs k))
  |none=>False)
 |_,_=>False
theorem a5R:@RD.pC= @pC:=rfl
theorem Z5:@RD.a9= @a9:=rfl
theorem a30:@RD.aQ= @aQ:=rfl
theorem a32:@RD.HU= @HU:=rfl
theorem YR:@RD.aF= @aF:=rfl
theorem TL:@RD.a8= @a8:=rfl
theorem a2W:@RD.bN= @bN:=rfl
theorem a2V:@RD.gZ= @gZ:=rfl
theorem TK:@RD.xT= @xT:=rfl
theorem YU:@RD.P5= @P5:=rfl
theorem U2:@RD.CD= @CD:=rfl
theorem YD:@RD.qO= @qO:=rfl
theorem a31:@RD.a2A= @a2A:=rfl
theorem YS:@RD.L8= @L8:=rfl
theorem NH:@RD.qQ= @qQ:=rfl
theorem TR:@RD.iL= @iL:=rfl
theorem NJ:@RD.jI= @jI:=rfl
theorem YN:@RD.cP= @cP:=rfl
theorem Z4:@RD.dD= @dD:=rfl
theorem a5S:@RD.pI= @pI:=rfl
theorem a2Y:@RD.A3= @A3:=rfl
theorem a5T:@RD.pU= @pU:=rfl
theorem TJ:@RD.xS= @xS:=rfl
theorem YK:@RD.L7= @L7:=rfl
theorem U1:@RD.rT= @rT:=rfl
theorem K6:@RD.oV= @oV:=rfl
theorem U3:@RD.m9= @m9:=rfl
theorem Z2:@RD.LA= @LA:=rfl
theorem Z3:@RD.LB= @LB:=rfl
theorem NN:@RD.jJ= @jJ:=rfl
theorem YF:@RD.A1= @A1:=rfl
theorem YX:@RD.FD= @FD:=rfl
theorem YM:@RD.m8= @m8:=rfl
theorem K4:@RD.oU= @oU:=rfl
theorem TV:@RD.xU= @xU:=rfl
theorem TX:@RD.xV= @xV:=rfl
theorem TU:@RD.rS= @rS:=rfl
theorem K5:@RD.hV= @hV:=rfl
theorem U0:@RD.aO= @aO:=rfl
theorem Z0:@RD.aL= @aL:=rfl
theorem YJ:@RD.g9= @g9:=rfl
theorem YY:@RD.bY= @bY:=rfl
theorem Z1:@RD.bK= @bK:=rfl
theorem NP:@RD.aG= @aG:=rfl
theorem U8:@RD.cW= @cW:=rfl
theorem NO:@RD.aM= @aM:=rfl
theorem U9:@RD.bV= @bV:=rfl
theorem YE:@RD.qP= @qP:=rfl
theorem UA:@RD.c6= @c6:=rfl
theorem UB:@RD.yD= @yD:=rfl
theorem NR:@RD.f7= @f7:=rfl
theorem YH:@RD.g8= @g8:=rfl
theorem a33:@RD.a2B= @a2B:=rfl
theorem NL:@RD.gA= @gA:=rfl
theorem EN:@RD.dJ= @dJ:=rfl
theorem K8:@RD.p6= @p6:=rfl
theorem YW:@RD.P6= @P6:=rfl
theorem a2Z:@RD.qS= @qS:=rfl
theorem U7:@RD.dI= @dI:=rfl
theorem YG:@RD.A2= @A2:=rfl
theorem YQ:@RD.P0= @P0:=rfl
theorem TH:@RD.dH= @dH:=rfl
theorem U6:@RD.gM= @gM:=rfl
theorem TY:@RD.uQ= @uQ:=rfl
theorem U4:@RD.jV= @jV:=rfl
theorem YO:@RD.uP= @uP:=rfl
theorem YL:@RD.FC= @FC:=rfl
theorem YI:@RD.m7= @m7:=rfl
theorem TZ:@RD.jU= @jU:=rfl
theorem NK:@RD.uO= @uO:=rfl
theorem NI:@RD.uN= @uN:=rfl
theorem TQ:@RD.CB= @CB:=rfl
theorem K7:@RD.mV= @mV:=rfl
theorem NQ:@RD.kP= @kP:=rfl
theorem YV:@RD.L9= @L9:=rfl
theorem YZ:@RD.P7= @P7:=rfl
theorem TN:@RD.rR= @rR:=rfl
theorem UC:@RD.v7= @v7:=rfl
theorem YT:@RD.P4= @P4:=rfl
theorem NM:@RD.kO= @kO:=rfl
theorem U5:@RD.xW= @xW:=rfl
theorem a2X:@RD.a29= @a29:=rfl
theorem EL:@RD.mB= @mB:=rfl
theorem EM:@RD.mC= @mC:=rfl
theorem NS:@RD.qU= @qU:=rfl
structure NV(N:List Str)(nm:Str)(st:Stmt)(x:Str)(i:Nat):Prop where
 lo:JA (aD st) x
 h:∀ {P:Program} {w:World} {K:Aa} {mg:Str->Option Value} {base:Heap} {f:Ac} {cdv:Value} {A:Around} {outer:List Env} {s:Ab} {H:Hp} {E:XK} {pos:Pos},QE (d4 jN P w K mg base N nm (aD st) f cdv A outer s H E).nox (.Name x pos) (eV i)
theorem XG{N:List Str}{nm:Str}{st:Stmt}{x:Str}{i:Nat}(lo:JA (aD st) x)(h1:N[i]? =some x)(h2:(x==("__debug__" : Str))=false)(h3:(x==("__classdict__" : Str))=false):NV N nm st x i:=⟨lo,Q0 h1 (lo.elim Or.inl (λz=>Or.inr (Or.inl z))) h2 h3⟩
structure NVs(N:List Str)(st:Stmt):Prop where
 h:∀x∈N,((aD st).names.lookup x=some NameKind.local\/(aD st).names.lookup x=some NameKind.cell)/\(x==("__debug__" : Str))=false/\(x==("__classdict__" : Str))=false
theorem NVs.nv{N:List Str}{nm:Str}{st:Stmt}{x:Str}{i:Nat}(s:NVs N st)(e:N[i]? =some x):NV N nm st x i:=XG (s.h x (a0u e)).1 e (s.h x (a0u e)).2.1 (s.h x (a0u e)).2.2
theorem Z9{N P:List Str}{sc:Scope}(a:sc.kind= .function)(b:sc.isCoroutine=false)(c:sc.isGenerator=false)(d:N.take P.length=P)(h:N.Nodup/\(∀x∈P,sc.names.lookup x=some .local\/sc.names.lookup x=some .cell)/\∀y∈sc.names,y.2≠ .free):FnScope N P sc:=⟨a,b,c,h.1,d,h.2.1,h.2.2⟩
abbrev GL(st:Stmt)(x:String):Prop:=(aD st).names.lookup (Str.ofString x)=some NameKind.globalImplicit
structure DfA(K:PySem.W.Frag)(x:Str)(st:Stmt):Prop where
 ex:∃(f:Ac) (oc:Value) (od an:Option Ac) (osl:Array (Option Value)) (kV doc pm cdv ct:Value),PySem.W.nsIn K mainGlobals x=some (some (.ref f))/\K.lookup f=some ⟨oc,od,.func (PySem.W.fnOf x x (cQ st) (bM st) (aD st) .none kV doc pm an cdv ct),osl⟩/\PySem.W.codeIn K cdv x=true/\PySem.W.keepIn K (.ref f)=true
theorem YC {K:PySem.W.Frag} {x:Str} {st:Stmt} {f:Addr} {oc:Value} {od an:Option Addr} {osl:Array (Option Value)} {kV doc pm cdv ct:Value} (a:PySem.W.nsIn K mainGlobals x=some (some (.ref f)))
  (l:K.lookup f=some ⟨oc,od,.func (PySem.W.fnOf x x (cQ st) (bM st) (aD st) .none kV doc pm an cdv ct),osl⟩) (c:PySem.W.codeIn K cdv x=true) (k:PySem.W.keepIn K (.ref f)=true):DfA K x st:=⟨⟨f,oc,od,an,osl,kV,doc,pm,cdv,ct,a,l,c,k⟩⟩
theorem DfA.df{K:PySem.W.Frag}{h:Heap}{mg:Str->Option Value}{x:Str}{st:Stmt}(D:DfA K x st)(X:K.In h)(G:h.Ns mainGlobals mg):Df K mg x st:=by
 obtain⟨f,oc,od,an,osl,kV,doc,pm,cdv,ct,a,l,c,k⟩:=D.ex
 exact a2R X G a l c k
theorem tG{N N':List Str}{osc scope:Scope}{n:Nat}{cap:List Nat}(k:scope.kind= .function)(l:N'.length=n+cap.length)(h:(∀y∈scope.names,y.2≠ .cell)/\(∀y∈scope.names,y.2= .local->scope.names.lookup y.1=some .local)/\(∀y∈scope.names,y.2= .free->osc.names.lookup y.1=some .cell)/\(N'.drop n=cap.map λi=>N.getD i Str.empty)/\(∀i∈cap,i<N.length)/\∀x∈N'.drop n,scope.names.lookup x=some NameKind.free):LcOk N osc scope N' n cap:=⟨k,h.1,h.2.1,h.2.2.1,h.2.2.2.1,h.2.2.2.2.1,h.2.2.2.2.2,l⟩
theorem a64{f:FuncData}{ps:List Str}:∀ {us:List Value},us.length=1->(∀a:Value,bindArgs f ⟨[a],[]⟩=pure (ps.zip [a]))->bindArgs f ⟨us,[]⟩=pure (ps.zip us)
 |[a],_,k=>k a
theorem UW{f:FuncData}{ps:List Str}:∀ {us:List Value},us.length=2->(∀a b:Value,bindArgs f ⟨[a,b],[]⟩=pure (ps.zip [a,b]))->bindArgs f ⟨us,[]⟩=pure (ps.zip us)
 |[a,b],_,k=>k a b
theorem a65{f:FuncData}{ps:List Str}:∀ {us:List Value},us.length=3->(∀a b c:Value,bindArgs f ⟨[a,b,c],[]⟩=pure (ps.zip [a,b,c]))->bindArgs f ⟨us,[]⟩=pure (ps.zip us)
 |[a,b,c],_,k=>k a b c
theorem a66{f:FuncData}{ps:List Str}:∀ {us:List Value},us.length=4->(∀a b c d:Value,bindArgs f ⟨[a,b,c,d],[]⟩=pure (ps.zip [a,b,c,d]))->bindArgs f ⟨us,[]⟩=pure (ps.zip us)
 |[a,b,c,d],_,k=>k a b c d
abbrev a27(st:PV->bC)(rn:(PV->Prop)->Prop)(r:bO):PN:=λxs R=>match xs with
 |[a0]=>r {nx:=λ_=>rn R,rt:=R} (st a0)
 |_=>False
theorem a2S {N:List Str} {rm:Md} {st:PV->bC} {rn:(PV->Prop)->Prop} {r p:bO} (e:r=p) (hs:∀a0,st a0=cA N [a0]:=by (intros;rfl)) (hr:∀R,rn R=gR rm R:=by (intro _;rfl)):∀xs R,a27 st rn r xs R->p {nx:=λ_=>gR rm R,rt:=R} (cA N xs):=λxs R h=>by
 match xs,h with
 | [a0],h=>
  subst e
  have h2:r {nx:=λ_=>rn R,rt:=R} (st a0):=h
  rw[hs,show (λ_:bC=>rn R)=λ_=>gR rm R from funext λ_=>hr R] at h2
  exact h2
abbrev zI(st:PV->PV->bC)(rn:(PV->Prop)->Prop)(r:bO):PN:=λxs R=>match xs with
 |[a0,a1]=>r {nx:=λ_=>rn R,rt:=R} (st a0 a1)
 |_=>False
theorem B1 {N:List Str} {rm:Md} {st:PV->PV->bC} {rn:(PV->Prop)->Prop} {r p:bO} (e:r=p) (hs:∀a0 a1,st a0 a1=cA N [a0,a1]:=by (intros;rfl)) (hr:∀R,rn R=gR rm R:=by (intro _;rfl)):∀xs R,zI st rn r xs R->p {nx:=λ_=>gR rm R,rt:=R} (cA N xs):=λxs R h=>by
 match xs,h with
 | [a0,a1],h=>
  subst e
  have h2:r {nx:=λ_=>rn R,rt:=R} (st a0 a1):=h
  rw[hs,show (λ_:bC=>rn R)=λ_=>gR rm R from funext λ_=>hr R] at h2
  exact h2
abbrev T4(st:PV->PV->PV->bC)(rn:(PV->Prop)->Prop)(r:bO):PN:=λxs R=>match xs with
 |[a0,a1,a2]=>r {nx:=λ_=>rn R,rt:=R} (st a0 a1 a2)
 |_=>False
theorem XB {N:List Str} {rm:Md} {st:PV->PV->PV->bC} {rn:(PV->Prop)->Prop} {r p:bO} (e:r=p) (hs:∀a0 a1 a2,st a0 a1 a2=cA N [a0,a1,a2]:=by (intros;rfl)) (hr:∀R,rn R=gR rm R:=by (intro _;rfl)):∀xs R,T4 st rn r xs R->p {nx:=λ_=>gR rm R,rt:=R} (cA N xs):=λxs R h=>by
 match xs,h with
 | [a0,a1,a2],h=>
  subst e
  have h2:r {nx:=λ_=>rn R,rt:=R} (st a0 a1 a2):=h
  rw[hs,show (λ_:bC=>rn R)=λ_=>gR rm R from funext λ_=>hr R] at h2
  exact h2
abbrev a28(st:PV->PV->PV->PV->bC)(rn:(PV->Prop)->Prop)(r:bO):PN:=λxs R=>match xs with
 |[a0,a1,a2,a3]=>r {nx:=λ_=>rn R,rt:=R} (st a0 a1 a2 a3)
 |_=>False
theorem a2T {N:List Str} {rm:Md} {st:PV->PV->PV->PV->bC} {rn:(PV->Prop)->Prop} {r p:bO} (e:r=p) (hs:∀a0 a1 a2 a3,st a0 a1 a2 a3=cA N [a0,a1,a2,a3]:=by (intros;rfl)) (hr:∀R,rn R=gR rm R:=by (intro _;rfl)):∀xs R,a28 st rn r xs R->p {nx:=λ_=>gR rm R,rt:=R} (cA N xs):=λxs R h=>by
 match xs,h with
 | [a0,a1,a2,a3],h=>
  subst e
  have h2:r {nx:=λ_=>rn R,rt:=R} (st a0 a1 a2 a3):=h
  rw[hs,show (λ_:bC=>rn R)=λ_=>gR rm R from funext λ_=>hr R] at h2
  exact h2
abbrev l4(k:Nat)(x:Str)(ps:List Str)(ms:List Md)(rm:Md)(d:PN)(P:Program)(w:World)(K:Aa)(mg:Str->Option Value)(base:Heap):Prop:=Cal P w K mg base k x ps (G6 K ms rm d)
structure SN(N ps:List Str)(st:Stmt):Prop where
 s:FnScope N ps (aD st)
 n:NVs N st
theorem bS {N P:List Str} {st:Stmt} (h1:(aD st).kind= .function:=by rfl) (h2:(aD st).isCoroutine=false:=by rfl) (h3:(aD st).isGenerator=false:=by rfl) (h4:N.take P.length=P:=by rfl)
  (h5:N.Nodup/\(∀x∈P,(aD st).names.lookup x=some .local\/(aD st).names.lookup x=some .cell)/\∀y∈(aD st).names,y.2≠ .free:=by decide+kernel)
  (h6:∀x∈N,((aD st).names.lookup x=some NameKind.local\/(aD st).names.lookup x=some NameKind.cell)/\(x==("__debug__" : Str))=false/\(x==("__classdict__" : Str))=false:=by decide+kernel):SN N P st:=⟨Z9 h1 h2 h3 h4 h5,⟨h6⟩⟩
def Md.lendb:Md->Bool
 |.no=>false
 |.st=>false
 |.scr=>false
 |_=>true
def Md.peekb(el:El):Md->Bool
 |.v e=>e.le el
 |.o e=>e.le el
 |.z e=>e.le el
 |.p e=>e.le el
 |.c e=>e.le el
 |_=>false
section
variable{X:Cx}{md:List Md}{e:Expr}{i:Nat}
theorem RP(h:QE X e (eV i))(hm:(md.getD i .no).lendb=true):VE X md e .bw (a9 i):=by
 cases hmd:md.getD i .no with
 |o el=>exact dC (m:=.p el) (AS h hmd) rfl
 |no=>rw[hmd] at hm;cases hm
 |st=>rw[hmd] at hm;cases hm
 |scr=>rw[hmd] at hm;cases hm
 |_=>exact dC (bG h hmd rfl) rfl
theorem a51(el:El)(h:QE X e (eV i))(hm:(md.getD i .no).peekb el=true):VE X md e (.p el) (a9 i):=by
 cases hmd:md.getD i .no with
 |o k=>exact dC (m:=.p k) (AS h hmd) (by rw[hmd] at hm;exact hm)
 |no=>rw[hmd] at hm;cases hm
 |st=>rw[hmd] at hm;cases hm
 |scr=>rw[hmd] at hm;cases hm
 |bw=>rw[hmd] at hm;cases hm
 |_=>exact dC (bG h hmd rfl) (by rw[hmd] at hm;exact hm)
end
section
variable{P:Program}{w:World}{K:Aa}{mg:Str->Option Value}{base:Heap}{N ps:List Str}{nm:Str}{st:Stmt}{f:Ac}{cdv:Value}{A:Around}{outer:List Env}{s:Ab}{H:Hp}{E:XK}{md lm:List Md}{m rm:Md}{el:El}{x:Str}{i:Nat}{pos pos':Pos}{a:Expr}{pe:aY}
theorem vb(z:SN N ps st)(e:N[i]? =some x:=by rfl)(hm:(md.getD i .no).lendb=true:=by rfl):VE (d4 jN P w K mg base N nm (aD st) f cdv A outer s H E).nox md (.Name x pos) .bw (a9 i):=RP (z.n.nv e).h hm
theorem vp(el:El)(z:SN N ps st)(e:N[i]? =some x:=by rfl)(hm:(md.getD i .no).peekb el=true:=by rfl):VE (d4 jN P w K mg base N nm (aD st) f cdv A outer s H E).nox md (.Name x pos) (.p el) (a9 i):=a51 el (z.n.nv e).h hm
theorem vr(m:Md)(z:SN N ps st)(e:N[i]? =some x:=by rfl)(hm:md.getD i .no=m:=by rfl)(hl:m.own=false:=by rfl):VE (d4 jN P w K mg base N nm (aD st) f cdv A outer s H E).nox md (.Name x pos) m (a9 i):=bG (z.n.nv e).h hm hl
theorem vk(el:El)(z:SN N ps st)(e:N[i]? =some x:=by rfl)(hm:md.getD i .no= .o el:=by rfl):VE (d4 jN P w K mg base N nm (aD st) f cdv A outer s H E).nox md (.Name x pos) (.p el) (a9 i):=AS (z.n.nv e).h hm
theorem qn(z:SN N ps st)(e:N[i]? =some x:=by rfl):QE (d4 jN P w K mg base N nm (aD st) f cdv A outer s H E).nox (.Name x pos) (eV i):=(z.n.nv e).h
theorem ln(z:SN N ps st)(i:Nat)(e:N[i]? =some x:=by rfl):JA (aD st) x:=(z.n.nv (nm:=x) e).lo
theorem gn(i:Nat)(z:SN N ps st)(e:N[i]? =some x:=by rfl)(hm:fE (md.set i (.v el))=true:=by rfl)(hl:i<md.length:=by decide):VG (d4 jN P w K mg base N nm (aD st) f cdv A outer s H E).nox md (md.set i (.v el)) el (.Name x pos) (aG i):=X0 z.s.nd e (ln z i e) (.inl rfl) hm hl
theorem iR(i:Nat)(z:SN N ps st)(he:VE (d4 jN P w K mg base N nm (aD st) f cdv A outer s H E).nox md a m pe)(e:N[i]? =some x:=by rfl)(hs:swapsWith a (some (.Name x pos')) pos.line (d4 jN P w K mg base N nm (aD st) f cdv A outer s H E).nox.env=pure false:=by rfl)(hm:fE (md.set i m)=true:=by rfl)(hl:i<md.length:=by decide):VS (d4 jN P w K mg base N nm (aD st) f cdv A outer s H E).nox md (md.set i m) lm rm (.Assign [.Name x pos'] a pos) (bK i pe):=a23 z.s.nd e (ln z i e) hs (.inl rfl) he hm hl
theorem gD(h:(aD st).names.lookup x=some .globalImplicit:=by decide+kernel):(d4 jN P w K mg base N nm (aD st) f cdv A outer s H E).nox.env.scope.names.lookup x=some .globalImplicit:=h
theorem cD(h:(aD st).names.lookup x=some .cell:=by decide+kernel):(d4 jN P w K mg base N nm (aD st) f cdv A outer s H E).nox.env.scope.names.lookup x=some .cell:=h
end
section
variable{X:Cx}{N':List Str}{scope:Scope}{C:Ac}{s1:Ab}{H1:Hp}{fp:List Ac}{i:Nat}{x:Str}{pos:Pos}{md:List Md}{m:Md}{el:El}
theorem gL(h:scope.names.lookup x=some .globalImplicit:=by decide+kernel):(b6 X N' scope C s1 H1 fp).env.scope.names.lookup x=some .globalImplicit:=a41 h
theorem qo(hi:N'[i]? =some x:=by rfl)(h:scope.names.lookup x=some .local:=by decide+kernel)(hd:(x==("__debug__" : Str))=false:=by decide+kernel)(hcd:(x==("__classdict__" : Str))=false:=by decide+kernel):QE (b6 X N' scope C s1 H1 fp) (.Name x pos) (eV i):=Q5 hi h hd hcd
theorem qk(ho:X.env.scope.names.lookup x=some .cell)(hi:N'[i]? =some x:=by rfl)(h:scope.names.lookup x=some .free:=by decide+kernel)(hk:X.env.scope.kind= .function:=by rfl)(hd:(x==("__debug__" : Str))=false:=by decide+kernel)(hcd:(x==("__classdict__" : Str))=false:=by decide+kernel):QE (b6 X N' scope C s1 H1 fp) (.Name x pos) (eV i):=Q1 hi h hk ho hd hcd
theorem bo(hi:N'[i]? =some x:=by rfl)(h:scope.names.lookup x=some .local:=by decide+kernel)(hd:(x==("__debug__" : Str))=false:=by decide+kernel)(hcd:(x==("__classdict__" : Str))=false:=by decide+kernel)(hm:(md.getD i .no).lendb=true:=by rfl):VE (b6 X N' scope C s1 H1 fp) md (.Name x pos) .bw (a9 i):=RP (Q5 hi h hd hcd) hm
theorem bk(ho:X.env.scope.names.lookup x=some .cell)(hi:N'[i]? =some x:=by rfl)(h:scope.names.lookup x=some .free:=by decide+kernel)(hk:X.env.scope.kind= .function:=by rfl)(hd:(x==("__debug__" : Str))=false:=by decide+kernel)(hcd:(x==("__classdict__" : Str))=false:=by decide+kernel)(hm:(md.getD i .no).lendb=true:=by rfl):VE (b6 X N' scope C s1 H1 fp) md (.Name x pos) .bw (a9 i):=RP (Q1 hi h hk ho hd hcd) hm
theorem gq(i:Nat)(hN:N'.Nodup:=by decide+kernel)(hi:N'[i]? =some x:=by rfl)(h:scope.names.lookup x=some .local:=by decide+kernel)(hm:fE (md.set i (.v el))=true:=by rfl)(hl:i<md.length:=by decide):VG (b6 X N' scope C s1 H1 fp) md (md.set i (.v el)) el (.Name x pos) (aG i):=RV (a42 hN hi h) hm hl
end
section
variable{X:Cx}{md:List Md}{e:Expr}{es:List Expr}{pt:lU}{p pos:Pos}{k n:Nat}{x:Str}{ps:List Str}{ms:List Md}{m rm:Md}{pn:PN}
theorem dR (hr:Room n X.A) (C:Cal X.prog X.w X.K X.mg X.base k x ps (G6 X.K ms rm pn)) (ha:VA X md (e::es) ms pt) (hg:X.env.scope.names.lookup x=some .globalImplicit) (hk:k<=n:=by decide) (hm:ms.all jO=true:=by rfl) (hrm:lI rm=true:=by rfl)
  (hdb:(x==("__debug__" : Str))=false:=by decide+kernel) (he:starEach (e::es) X.env=(false,eval e X.env)::starEach es X.env:=by rfl) (hpl:(backTo pos (starEach es X.env)).any (·.1)=false:=by rfl):VE X md (.Call (.Name x p) (e::es) [] pos) rm (bN pn pt):=a1Y C (hr.mono hk) hm hrm ha hg hdb he hpl
theorem a6X (hr:Room n X.A) (C:Cal X.prog X.w X.K X.mg X.base k x ps (G6 X.K ms rm pn)) (ha:VA X md (e::es) ms pt) (hg:X.env.scope.names.lookup x=some .globalImplicit) (hk:k<=n:=by decide) (hm:ms.all (λm=>jO m||m== .v .sh||m== .v .fl)=true:=by rfl) (hrm:(lI rm||rm== .v .sh)=true:=by rfl)
  (hdb:(x==("__debug__" : Str))=false:=by decide+kernel) (he:starEach (e::es) X.env=(false,eval e X.env)::starEach es X.env:=by rfl) (hpl:(backTo pos (starEach es X.env)).any (·.1)=false:=by rfl):VE X md (.Call (.Name x p) (e::es) [] pos) rm (bN pn pt):=WX C (hr.mono hk) hm hrm ha hg hdb he hpl
end
section
variable{P:Program}{w:World}{K:PySem.W.Frag}{mg:Str->Option Value}{base:Heap}{N ps:List Str}{nm:Str}{st:Stmt}{f:Addr}{cdv:Value}{A:Around}{outer:List Env}{s:Shared}{H:Hp}{E:XK}{md lm:List Md}{rm:Md}{el eli:El}{x:Str}{pos pos' pos2:Pos}
 {elt target iter:Expr} {ifs:List Expr} {scope:Scope} {si:n9} {g:iU} {tt:fD} {te:aY} {cp:bC->bC}
theorem J4 (N':List Str) (n:Nat) (cap:List Nat) (mb:List Md) (hi:VI (d4 jN P w K mg base N nm (aD st) f cdv A outer s H E).nox md eli target iter si) (hg:∀C s1 H1 fp,VG (b6 (d4 jN P w K mg base N nm (aD st) f cdv A outer s H E).nox N' scope C s1 H1 fp) (fZ n cap md) mb eli target g) (ht:∀C s1 H1 fp,VTs (b6 (d4 jN P w K mg base N nm (aD st) f cdv A outer s H E).nox N' scope C s1 H1 fp) mb ifs tt) (he:∀C s1 H1 fp,VE (b6 (d4 jN P w K mg base N nm (aD st) f cdv A outer s H E).nox N' scope C s1 H1 fp) mb elt (.v el) te)
  (hcp:∀env,cp env=qT n cap env:=by intro _;rfl) (h1:scope.kind= .function:=by rfl) (h2:N'.length=n+cap.length:=by rfl)
  (h3:(∀y∈scope.names,y.2≠ .cell)/\(∀y∈scope.names,y.2= .local->scope.names.lookup y.1=some .local)/\(∀y∈scope.names,y.2= .free->(aD st).names.lookup y.1=some .cell)/\(N'.drop n=cap.map λi=>N.getD i Str.empty)/\(∀i∈cap,i<N.length)/\∀x∈N'.drop n,scope.names.lookup x=some NameKind.free:=by decide+kernel)
  (hle:jG mb (fZ n cap md)=true:=by rfl) (hbl:l5 mb=true:=by rfl) (hs:∀x,foldedSetIterable iter (d4 jN P w K mg base N nm (aD st) f cdv A outer s H E).nox.env x=pure x:=by intro _;rfl) :
  VE (d4 jN P w K mg base N nm (aD st) f cdv A outer s H E).nox md (.ListComp elt [⟨target,iter,ifs,0⟩] scope pos) (.o el) (qS si g tt te cp):=a4Y hcp rfl (tG (osc:=aD st) h1 h2 h3) hle hbl hi hg ht he hs
theorem a5B (i:Nat) (z:SN N ps st) (N':List Str) (n:Nat) (cap:List Nat) (mb:List Md) (hi:VI (d4 jN P w K mg base N nm (aD st) f cdv A outer s H E).nox md eli target iter si) (hg:∀C s1 H1 fp,VG (b6 (d4 jN P w K mg base N nm (aD st) f cdv A outer s H E).nox N' scope C s1 H1 fp) (fZ n cap md) mb eli target g) (ht:∀C s1 H1 fp,VTs (b6 (d4 jN P w K mg base N nm (aD st) f cdv A outer s H E).nox N' scope C s1 H1 fp) mb ifs tt) (he:∀C s1 H1 fp,VE (b6 (d4 jN P w K mg base N nm (aD st) f cdv A outer s H E).nox N' scope C s1 H1 fp) mb elt (.v el) te)
  (e:N[i]? =some x:=by rfl) (hsw:swapsWith (.ListComp elt [⟨target,iter,ifs,0⟩] scope pos) (some (.Name x pos')) pos2.line (d4 jN P w K mg base N nm (aD st) f cdv A outer s H E).nox.env=pure true:=by rfl) (hm:fE (md.set i (.o el))=true:=by rfl) (hl:i<md.length:=by decide)
  (hcp:∀env,cp env=qT n cap env:=by intro _;rfl) (h1:scope.kind= .function:=by rfl) (h2:N'.length=n+cap.length:=by rfl)
  (h3:(∀y∈scope.names,y.2≠ .cell)/\(∀y∈scope.names,y.2= .local->scope.names.lookup y.1=some .local)/\(∀y∈scope.names,y.2= .free->(aD st).names.lookup y.1=some .cell)/\(N'.drop n=cap.map λi=>N.getD i Str.empty)/\(∀i∈cap,i<N.length)/\∀x∈N'.drop n,scope.names.lookup x=some NameKind.free:=by decide+kernel)
  (hle:jG mb (fZ n cap md)=true:=by rfl) (hbl:l5 mb=true:=by rfl) (hs:∀x,foldedSetIterable iter (d4 jN P w K mg base N nm (aD st) f cdv A outer s H E).nox.env x=pure x:=by intro _;rfl) :
  VS (d4 jN P w K mg base N nm (aD st) f cdv A outer s H E).nox md (md.set i (.o el)) lm rm (.Assign [.Name x pos'] (.ListComp elt [⟨target,iter,ifs,0⟩] scope pos) pos2) (bK i (qS si g tt te cp)):=S1 z.s.nd e (ln z i e) hsw (.inl rfl) hm hl hcp rfl (tG (osc:=aD st) h1 h2 h3) hle hbl hi hg ht he hs
end
section
variable{P:Program}{w:World}{K:Aa}{mg:Str->Option Value}{base:Heap}{x:Str}{st:Stmt}{N:List Str}{k:Nat}{ms mn:List Md}{rm:Md}{p:bO}{d:PN}{y1 y2 y3 y4 y5 y6:Str}
theorem a4V (hd:∀xs R,d xs R->p {nx:=λ_=>gR rm R,rt:=R} (cA N xs)) (D:Df K mg x st) (z:SN N [y1] st) (hbody:∀(f:Addr) (cdv:Value) (A:Around) (outer:List Env) (s:Shared) (H:Hp) (E:XK),Room k (A.deeper (envOfC x (aD st) s.heap.objs.size f cdv))->VSs (d4 jN P w K mg base N x (aD st) f cdv A outer s H E).nox (cM N ms) mn [] rm (bM st) p)
  (hb:∀(kV doc pm:Value) (an:Option Ac) (cdv ct:Value) (u1:Value),bindArgs (PySem.W.fnOf x x (cQ st) (bM st) (aD st) .none kV doc pm an cdv ct) ⟨[u1],[]⟩=pure (([y1]:List Str).zip [u1]):=by (intros;rfl)) (hm:ms.all jO=true:=by rfl) (hr:lI rm=true:=by rfl) (hl:ms.length=1:=by rfl):Cal P w K mg base (k+1) x [y1] (G6 K ms rm d):=
 WW hd D z.s (λkV doc pm an cdv ct us hl=>a64 hl (hb kV doc pm an cdv ct)) hm hr hl hbody
theorem DI (hd:∀xs R,d xs R->p {nx:=λ_=>gR rm R,rt:=R} (cA N xs)) (D:Df K mg x st) (z:SN N [y1,y2] st) (hbody:∀(f:Addr) (cdv:Value) (A:Around) (outer:List Env) (s:Shared) (H:Hp) (E:XK),Room k (A.deeper (envOfC x (aD st) s.heap.objs.size f cdv))->VSs (d4 jN P w K mg base N x (aD st) f cdv A outer s H E).nox (cM N ms) mn [] rm (bM st) p)
  (hb:∀(kV doc pm:Value) (an:Option Ac) (cdv ct:Value) (u1 u2:Value),bindArgs (PySem.W.fnOf x x (cQ st) (bM st) (aD st) .none kV doc pm an cdv ct) ⟨[u1,u2],[]⟩=pure (([y1,y2]:List Str).zip [u1,u2]):=by (intros;rfl)) (hm:ms.all jO=true:=by rfl) (hr:lI rm=true:=by rfl) (hl:ms.length=2:=by rfl):Cal P w K mg base (k+1) x [y1,y2] (G6 K ms rm d):=
 WW hd D z.s (λkV doc pm an cdv ct us hl=>UW hl (hb kV doc pm an cdv ct)) hm hr hl hbody
theorem XW (hd:∀xs R,d xs R->p {nx:=λ_=>gR rm R,rt:=R} (cA N xs)) (D:Df K mg x st) (z:SN N [y1,y2,y3] st) (hbody:∀(f:Addr) (cdv:Value) (A:Around) (outer:List Env) (s:Shared) (H:Hp) (E:XK),Room k (A.deeper (envOfC x (aD st) s.heap.objs.size f cdv))->VSs (d4 jN P w K mg base N x (aD st) f cdv A outer s H E).nox (cM N ms) mn [] rm (bM st) p)
  (hb:∀(kV doc pm:Value) (an:Option Ac) (cdv ct:Value) (u1 u2 u3:Value),bindArgs (PySem.W.fnOf x x (cQ st) (bM st) (aD st) .none kV doc pm an cdv ct) ⟨[u1,u2,u3],[]⟩=pure (([y1,y2,y3]:List Str).zip [u1,u2,u3]):=by (intros;rfl)) (hm:ms.all jO=true:=by rfl) (hr:lI rm=true:=by rfl) (hl:ms.length=3:=by rfl):Cal P w K mg base (k+1) x [y1,y2,y3] (G6 K ms rm d):=
 WW hd D z.s (λkV doc pm an cdv ct us hl=>a65 hl (hb kV doc pm an cdv ct)) hm hr hl hbody
theorem a4W (hd:∀xs R,d xs R->p {nx:=λ_=>gR rm R,rt:=R} (cA N xs)) (D:Df K mg x st) (z:SN N [y1,y2,y3,y4] st) (hbody:∀(f:Addr) (cdv:Value) (A:Around) (outer:List Env) (s:Shared) (H:Hp) (E:XK),Room k (A.deeper (envOfC x (aD st) s.heap.objs.size f cdv))->VSs (d4 jN P w K mg base N x (aD st) f cdv A outer s H E).nox (cM N ms) mn [] rm (bM st) p)
  (hb:∀(kV doc pm:Value) (an:Option Ac) (cdv ct:Value) (u1 u2 u3 u4:Value),bindArgs (PySem.W.fnOf x x (cQ st) (bM st) (aD st) .none kV doc pm an cdv ct) ⟨[u1,u2,u3,u4],[]⟩=pure (([y1,y2,y3,y4]:List Str).zip [u1,u2,u3,u4]):=by (intros;rfl)) (hm:ms.all jO=true:=by rfl) (hr:lI rm=true:=by rfl) (hl:ms.length=4:=by rfl):Cal P w K mg base (k+1) x [y1,y2,y3,y4] (G6 K ms rm d):=
 WW hd D z.s (λkV doc pm an cdv ct us hl=>a66 hl (hb kV doc pm an cdv ct)) hm hr hl hbody
theorem a7L (hd:∀xs R,d xs R->p {nx:=λ_=>gR rm R,rt:=R} (cA N xs)) (D:Df K mg x st) (z:SN N [y1,y2] st) (hbody:∀(f:Addr) (cdv:Value) (A:Around) (outer:List Env) (s:Shared) (H:Hp) (E:XK),Room k (A.deeper (envOfC x (aD st) s.heap.objs.size f cdv))->VSs (d4 jN P w K mg base N x (aD st) f cdv A outer s H E).nox (cM N ms) mn [] rm (bM st) p)
  (hb:∀(kV doc pm:Value) (an:Option Ac) (cdv ct:Value) (u1 u2:Value),bindArgs (PySem.W.fnOf x x (cQ st) (bM st) (aD st) .none kV doc pm an cdv ct) ⟨[u1,u2],[]⟩=pure (([y1,y2]:List Str).zip [u1,u2]):=by (intros;rfl)) (hm:ms.all z8=true:=by rfl) (hr:QQ rm=true:=by rfl) (hl:ms.length=2:=by rfl):Cal P w K mg base (k+1) x [y1,y2] (G6 K ms rm d):=
 a4X hd D z.s (λkV doc pm an cdv ct us hl=>UW hl (hb kV doc pm an cdv ct)) hm hr hl hbody
end
end L2
set_option maxHeartbeats 4000000
local macro_rules | `(tactic| walk_at "rp") => `(tactic| ((conv => rhs; simp only [← L2.a5R, ← L2.Z5, ← L2.a30, ← L2.a32, ← L2.YR, ← L2.TL, ← L2.a2W, ← L2.a2V, ← L2.TK, ← L2.YU, ← L2.U2, ← L2.YD, ← L2.a31, ← L2.YS, ← L2.NH, ← L2.TR, ← L2.NJ, ← L2.YN, ← L2.Z4, ← L2.a5S, ← L2.a2Y, ← L2.a5T, ← L2.TJ, ← L2.YK, ← L2.U1, ← L2.K6, ← L2.U3, ← L2.Z2, ← L2.Z3, ← L2.NN, ← L2.YF, ← L2.YX, ← L2.YM, ← L2.K4, ← L2.TV, ← L2.TX, ← L2.TU, ← L2.K5, ← L2.U0, ← L2.Z0, ← L2.YJ, ← L2.YY, ← L2.Z1, ← L2.NP, ← L2.U8, ← L2.NO, ← L2.U9, ← L2.YE, ← L2.UA, ← L2.UB, ← L2.NR, ← L2.YH, ← L2.a33, ← L2.NL, ← L2.EN, ← L2.K8, ← L2.YW, ← L2.a2Z, ← L2.U7, ← L2.YG, ← L2.YQ, ← L2.TH, ← L2.U6, ← L2.TY, ← L2.U4, ← L2.YO, ← L2.YL, ← L2.YI, ← L2.TZ, ← L2.NK, ← L2.NI, ← L2.TQ, ← L2.K7, ← L2.NQ, ← L2.YV, ← L2.YZ, ← L2.TN, ← L2.UC, ← L2.YT, ← L2.NM, ← L2.U5, ← L2.a2X, ← L2.EL, ← L2.EM, ← L2.NS]); try rfl))
namespace Lib
open PySem L2
abbrev aW:PN:=HR
def v5:bO:=(bY (bN FE (a8 (qS (c6 (a9 1)) (aG 0) dI (aQ cV (aQ cV (a9 1) (a9 0)) (pC (.int 3))) (λenv=>[none,jn (k9 env 0)])) aF)))
abbrev vH:{r:bO // r=v5}:=⟨_,by unfold v5;walk_at "rp"⟩
def fW:PN:=zI (λa0 a1=>[some a0,some a1]) (λR=>R .non) vH.1
def CI: bO:=(aL (bK 2 (pC (.str "abcdefghijklmnopqrstuvwxyz")))
 (aL (bK 3 (pC (.str "")))
 (aL (g8 (f7 (bN aW (a8 (a9 0) (a8 (pC (.int 8)) aF)))) (aG 4) (aL (bK 3 (aQ xS (a9 3) (aQ cV (a9 2) (bN aW (a8 (a9 0) (a8 (pC (.int 26)) aF))))))
 aO))
 (bY (aQ xS (a9 3) (aQ cV (a9 2) (a9 1)))))))
abbrev CT:{r:bO // r=CI}:=⟨_,by unfold CI;walk_at "rp"⟩
def jS:PN:=zI (λa0 a1=>[some a0,some a1,none,none,none]) (λR=>R .non) CT.1
def CF: bO:=(aL (bK 2 (aQ cV (cP (a8 (pC (.int 3)) (a8 (pC (.int 6)) (a8 (pC (.int 9)) (a8 (pC (.int 14)) aF))))) (bN aW (a8 (a9 0) (a8 (pC (.int 4)) aF)))))
 (aL (bK 3 (aQ dH (pC (.int 1)) (bN aW (a8 (a9 0) (a8 (aQ cV (cP (a8 (pC (.int 1)) (a8 (pC (.int 1)) (a8 (pC (.int 7)) (a8 (aQ jV (pC (.int 10)) (pC (.int 10))) aF))))) (bN aW (a8 (a9 0) (a8 (pC (.int 4)) aF)))) aF)))))
 (aL (bK 4 (aQ cV (cP (a8 (pC (.int 0)) (a8 (HU jU (pC (.int 3))) (a8 (HU jU (aQ jV (pC (.int 10)) (pC (.int 12)))) (a8 (aQ gM (aQ jV (pC (.int 10)) (pC (.int 12))) (aQ uQ (pC (.int 28)) (a9 3))) aF))))) (bN aW (a8 (a9 0) (a8 (pC (.int 4)) aF)))))
 (aL (bK 5 (cP aF))
 (aL (g8 (f7 (bN aW (a8 (a9 0) (a8 (aQ dH (a9 1) (pC (.int 1))) aF)))) (aG 6) (aL (bK 7 (bN aW (a8 (a9 0) (a8 (a9 2) aF))))
 (aL (bK 8 (aQ dH (aQ dH (a9 7) (pC (.int 1))) (bN aW (a8 (a9 0) (a8 (a9 2) aF)))))
 (aL (bK 9 (bN aW (a8 (a9 0) (a8 (aQ cV (cP (a8 (pC (.int 4)) (a8 (pC (.int 12)) (a8 (pC (.int 100)) (a8 (aQ dH (aQ jV (pC (.int 10)) (pC (.int 12))) (pC (.int 1))) aF))))) (bN aW (a8 (a9 0) (a8 (pC (.int 4)) aF)))) aF))))
 (aL (bK 10 (dD (a8 (aQ dH (a9 4) (aQ uQ (a9 3) (a9 7))) (a8 (aQ dH (a9 4) (aQ uQ (a9 3) (a9 8))) aF))))
 (aL (g9 (qO (gZ (aQ m7 (a9 6) (pC (.int 0)))) (gZ (aQ A2 (bN aW (a8 (a9 0) (a8 (pC (.int 6)) aF))) (pC (.int 0))))) (aL (bK 10 (jJ LB (aQ cV (a9 5) (HU jU (pC (.int 1)))) (m9 (pC (.int 1))) (m9 (pC (.int 3)))))
 aO) aO)
 (aL (gA "list" 5 dJ (a8 (dD (a8 (bN jS (a8 (a9 0) (a8 (a9 6) aF))) (a8 (aQ cV (a9 10) (pC (.int 0))) (a8 (aQ cV (a9 10) (pC (.int 1))) (a8 (a9 9) aF))))) aF))
 aO)))))))
 (bY (a9 5)))))))
abbrev CP:{r:bO // r=CF}:=⟨_,by unfold CF;walk_at "rp"⟩
def iC:PN:=zI (λa0 a1=>[some a0,some a1,none,none,none,none,none,none,none,none,none]) (λ_=>False) CP.1
def xX:bO:=(bY (qQ FC uP (aQ cV (a9 0) (pC (.int 1))) (a9 1) (aQ cV (a9 0) (pC (.int 2)))))
abbrev yF:{r:bO // r=xX}:=⟨_,by unfold xX;walk_at "rp"⟩
def eQ:PN:=zI (λa0 a1=>[some a0,some a1]) (λR=>R .non) yF.1
def CH:bO:=(bY (bN m8 (a8 (qS (c6 (a9 1)) (aG 0) (qO (gZ (aQ FC (aQ cV (aQ cV (a9 2) (a9 0)) (pC (.int 1))) (a9 1))) (gZ (aQ uP (a9 1) (aQ cV (aQ cV (a9 2) (a9 0)) (pC (.int 2)))))) (a9 0) (λenv=>[none,jn (k9 env 2),jn (k9 env 0)])) aF)))
abbrev CS:{r:bO // r=CH}:=⟨_,by unfold CH;walk_at "rp"⟩
def iE:PN:=T4 (λa0 a1 a2=>[some a0,some a1,some a2]) (λR=>R .non) CS.1
def y8:bO:=(bY (bN m8 (a8 (qS (c6 (a9 1)) (aG 0) (gZ (bN eQ (a8 (aQ cV (a9 2) (a9 0)) (a8 (a9 1) aF)))) (a9 0) (λenv=>[none,jn (k9 env 2),jn (k9 env 0)])) aF)))
abbrev yJ:{r:bO // r=y8}:=⟨_,by unfold y8;walk_at "rp"⟩
def eR:PN:=T4 (λa0 a1 a2=>[some a0,some a1,some a2]) (λR=>R .non) yJ.1
def oZ:bO:=(bY (mV (c6 (a9 0)) (aG 0) dI (CB (yD (jJ LB (a9 0) (m9 (pC (.int 1))) (m9 (pC (.int 3))))) (aG 1) dI (uN (a9 1))) (λenv=>[none,none])))
abbrev pB:{r:bO // r=oZ}:=⟨_,by unfold oZ;walk_at "rp"⟩
def d5:PN:=a27 (λa0=>[some a0]) (λ_=>False) pB.1
def uX: bO:=(aL (bK 2 (cP aF))
 (aL (bK 3 (pC (.int 0)))
 (aL (g8 (c6 (bN d5 (a8 (qS (c6 (a9 1)) (aG 0) dI (aQ cV (a9 1) (a9 0)) (λenv=>[none,jn (k9 env 0)])) aF))) (aG 4) (aL (bK 5 (bN eR (a8 (a9 0) (a8 (a9 1) (a8 (a9 4) aF)))))
 (aL (g9 (gZ (aQ P0 (a9 5) (a9 3))) (aL (gA "list" 2 dJ (a8 (dD (a8 (a9 4) (a8 (a9 5) aF))) aF))
 aO) aO)
 (aL (bK 3 (a9 5))
 aO))))
 (bY (a9 2)))))
abbrev vE:{r:bO // r=uX}:=⟨_,by unfold uX;walk_at "rp"⟩
def fS:PN:=zI (λa0 a1=>[some a0,some a1,none,none,none,none]) (λ_=>False) vE.1
def uV: bO:=(aL (qP (dD (a8 (pC (.int 0)) (a8 (pC .non) aF))) (bV 2 (aM (aG 2) (aM (aG 3) cW))))
 (aL (g8 (c6 (bN fS (a8 (a9 0) (a8 (a9 1) aF)))) (bV 2 (aM (aG 4) (aM (aG 5) cW))) (aL (g9 (gZ (aQ m7 (a9 5) (a9 2))) (aL (qP (dD (a8 (a9 5) (a8 (a9 4) aF))) (bV 2 (aM (aG 2) (aM (aG 3) cW))))
 aO) aO)
 aO))
 (bY (dD (a8 (a9 2) (a8 (a9 3) (a8 (jI (qS (c6 (a9 1)) (aG 0) (gZ (bN eQ (a8 (aQ cV (a9 2) (a9 0)) (a8 (a9 1) aF)))) (a9 0) (λenv=>[none,jn (k9 env 3),jn (k9 env 0)]))) aF)))))))
abbrev vC:{r:bO // r=uV}:=⟨_,by unfold uV;walk_at "rp"⟩
def fQ:PN:=zI (λa0 a1=>[some a0,some a1,none,none,none,none]) (λR=>R .non) vC.1
def CK:bO:=(bY (bN FE (a8 (qS (c6 (a9 1)) (bV 2 (aM (aG 0) (aM (aG 1) cW))) (qO (gZ (aQ FC (aQ cV (a9 2) (pC (.int 1))) (a9 0))) (gZ (aQ uP (a9 0) (aQ cV (a9 2) (pC (.int 2)))))) (a9 1) (λenv=>[none,none,jn (k9 env 0)])) aF)))
abbrev CV:{r:bO // r=CK}:=⟨_,by unfold CK;walk_at "rp"⟩
def iG:PN:=zI (λa0 a1=>[some a0,some a1]) (λR=>R .non) CV.1
def yB:bO:=(bY (bN FE (a8 (qS (c6 (a9 1)) (bV 2 (aM (aG 0) (aM (aG 1) cW))) (gZ (bN eQ (a8 (a9 2) (a8 (a9 0) aF)))) (a9 1) (λenv=>[none,none,jn (k9 env 0)])) aF)))
abbrev yM:{r:bO // r=yB}:=⟨_,by unfold yB;walk_at "rp"⟩
def fV:PN:=zI (λa0 a1=>[some a0,some a1]) (λR=>R .non) yM.1
def xZ: bO:=(aL (bK 2 (cP (a8 (pC (.int 0)) (a8 (pC (.int 1)) (a8 (HU jU (aQ jV (pC (.int 10)) (pC (.int 12)))) (a8 (aQ gM (aQ jV (pC (.int 10)) (pC (.int 12))) (pC (.int 1))) aF))))))
 (aL (g8 (c6 (a9 1)) (bV 4 (aM (aG 3) (aM (aG 4) (aM (aG 5) (aM (aG 6) cW))))) (aL (bK 2 (aQ A1 (a9 2) (cP (a8 (a9 4) (a8 (aQ gM (a9 5) (pC (.int 1))) aF)))))
 aO))
 (aL (bK 7 (pC (.dic [] [])))
 (aL (g8 (f7 (bN aW (a8 (a9 0) (a8 (pC (.int 6)) aF)))) (aG 8) (aL (bK 9 (aQ cV (a9 2) (bN aW (a8 (a9 0) (a8 (bN m8 (a8 (a9 2) aF)) aF)))))
 (aL (rR 7 (aQ dH (pC (.int 1)) (bN aW (a8 (a9 0) (a8 (aQ cV (cP (a8 (pC (.int 3)) (a8 (pC (.int 10)) (a8 (pC (.int 60)) (a8 (aQ jV (pC (.int 10)) (pC (.int 12))) aF))))) (bN aW (a8 (a9 0) (a8 (pC (.int 4)) aF)))) aF)))) (a9 9))
 aO)))
 (bY (qS (c6 (bN iM (a8 (a9 7) aF))) (aG 0) dI (dD (a8 (a9 0) (a8 (aQ jT (a9 1) (a9 0)) aF))) (λenv=>[none,jn (k9 env 7)])))))))
abbrev yH:{r:bO // r=xZ}:=⟨_,by unfold xZ;walk_at "rp"⟩
def fR:PN:=zI (λa0 a1=>[some a0,some a1,none,none,none,none,none,none,none,none]) (λ_=>False) yH.1
def yA:bO:=(bY (bN xU (a8 (pC (.int 0)) (a8 (aQ gM (aQ cV (a9 0) (pC (.int 3))) (bN fV (a8 (a9 0) (a8 (a9 1) aF)))) aF))))
abbrev yL:{r:bO // r=yA}:=⟨_,by unfold yA;walk_at "rp"⟩
def i6:PN:=zI (λa0 a1=>[some a0,some a1]) (λR=>R .non) yL.1
def oY: bO:=(aL (bK 1 (qS (f7 (bN m8 (a8 (a9 0) aF))) (aG 0) dI (dD (a8 (a9 0) (a8 (aQ dH (a9 0) (pC (.int 1))) (a8 (pC (.int 0)) (a8 (pC .non) aF))))) (fun env=>[none])))
 (aL (bK 2 (qS (kP (a9 0)) (bV 2 (aM (aG 0) (aM (aG 1) cW))) (gZ (aQ m7 (a9 1) (pC (.int 0)))) (dD (a8 (aQ dH (a9 0) (pC (.int 1))) (a8 (a9 0) (a8 (pC (.int 0)) (a8 (pC .non) aF))))) (λenv=>[none,none])))
 (bY (jI (aQ A1 (a9 1) (P7 (a9 2) (HU jU (pC (.int 1)))))))))
abbrev pA:{r:bO // r=oY}:=⟨_,by unfold oY;walk_at "rp"⟩
def dW:PN:=a27 (λa0=>[some a0,none,none]) (λ_=>False) pA.1
def lC: bO:=(aL (bK 3 (a29 (kP (a9 1)) (bV 2 (aM (aG 0) (aM (aG 1) cW))) dI (a9 1) (iL (a9 0)) (fun env=>[none, none])))
 (aL (bK 4 (cP aF))
 (aL (g8 (kP (a9 0)) (bV 2 (aM (aG 5) (aM (bV 4 (aM (aG 6) (aM (aG 7) (aM (aG 8) (aM (aG 9) cW))))) cW))) (aL (g9 (gZ (aQ a73 (a9 5) (a9 2))) (aL (gA "list" 4 dJ (a8 (iL (dD (a8 (aQ jT (a9 3) (a9 8)) (a8 (aQ jT (a9 3) (a9 7)) (a8 (HU jU (a9 9)) (a8 (a9 5) aF)))))) aF))
 aO) (aL (gA "list" 4 dJ (a8 (iL (dD (a8 (aQ jT (a9 3) (a9 7)) (a8 (aQ jT (a9 3) (a9 8)) (a8 (a9 9) (a8 (a9 5) aF)))))) aF))
 aO))
 aO))
 (bY (a9 4)))))
abbrev lG:{r:bO // r=lC}:=⟨_,by unfold lC;walk_at "rp"⟩
def cH:PN:=T4 (λa0 a1 a2=>[some a0,some a1,some a2,none,none,none,none,none,none,none]) (λ_=>False) lG.1
def jW: bO:=(aL (L9 3 4 (a8 (aQ FD (cP (a8 (pC .non) aF)) (a9 1)) (a8 (aQ FD (cP (a8 (pC .non) aF)) (a9 1)) aF)))
 (aL (P6 3 (pC (.int 0)) (a9 2))
 (aL (bK 5 (pC (.bl true)))
 (aL (FG (gZ (a9 5)) (aL (bK 5 (pC (.bl false)))
 (aL (g8 (c6 (a9 0)) (aG 6) (aL (qP (a9 6) (bV 4 (aM (aG 7) (aM (aG 8) (aM (aG 9) (aM (aG 10) cW))))))
 (aL (g9 (qO (gZ (aQ rT (aQ cV (a9 3) (a9 7)) (pC .non))) (a2A (gZ (aQ L7 (aQ cV (a9 3) (a9 8)) (pC .non))) (gZ (aQ m7 (aQ dH (aQ cV (a9 3) (a9 7)) (a9 9)) (aQ cV (a9 3) (a9 8)))))) (aL (xW 3 4 (iL (dD (a8 (aQ dH (aQ cV (a9 3) (a9 7)) (a9 9)) (a8 (a9 6) aF)))) (a9 8) (a9 8))
 (aL (bK 5 (pC (.bl true)))
 aO)) aO)
 aO)))
 aO)))
 (bY (dD (a8 (a9 3) (a8 (a9 4) aF))))))))
abbrev jY:{r:bO // r=jW}:=⟨_,by unfold jW;walk_at "rp"⟩
def c7:PN:=T4 (λa0 a1 a2=>[some a0,some a1,some a2,none,none,none,none,none,none,none,none]) (λR=>R .non) jY.1
def lB: bO:=(aL (bK 2 (cP aF))
 (aL (FG (gZ (aQ rT (aQ cV (a9 0) (a9 1)) (pC .non))) (aL (qP (aQ cV (a9 0) (a9 1)) (bV 4 (aM (aG 1) (aM (aG 3) (aM (aG 4) (aM (aG 5) cW))))))
 (aL (g9 (gZ (aQ rT (a9 5) (pC .non))) (aL (gA "list" 2 dJ (a8 (iL (a9 5)) aF))
 aO) aO)
 aO)))
 (bY (a9 2))))
abbrev lE:{r:bO // r=lB}:=⟨_,by unfold lB;walk_at "rp"⟩
def cG:PN:=zI (λa0 a1=>[some a0,some a1,none,none,none,none]) (λ_=>False) lE.1
def oX:bO:=(bY (mC (a9 0) (a9 1)))
abbrev p9:{r:bO // r=oX}:=⟨_,by unfold oX;walk_at "rp"⟩
def dU:PN:=zI (λa0 a1=>[some a0,some a1]) (λ_=>False) p9.1
def rW: bO:=(aL (bK 2 (qS (f7 (bN m8 (a8 (a9 1) aF))) (aG 0) dI (aQ gM (aQ cV (a9 1) (aQ dH (a9 0) (pC (.int 1)))) (aQ cV (a9 1) (a9 0))) (fun env=>[none, jn (k9 env 0)])))
 (bY (jI (qS (v7 (a9 1) (a9 2)) (bV 2 (aM (aG 0) (aM (aG 1) cW))) (gZ (aQ m7 (a9 1) (pC (.int 0)))) (dD (a8 (a9 0) (a8 (a9 1) aF))) (λenv=>[none,none])))))
abbrev rY:{r:bO // r=rW}:=⟨_,by unfold rW;walk_at "rp"⟩
def eT:PN:=zI (λa0 a1=>[some a0,some a1,none]) (λ_=>False) rY.1
def rV:bO:=(bY (P4 (bN d5 (a8 (a9 0) aF)) (cP (a8 (pC (.int 0)) aF))))
abbrev rX:{r:bO // r=rV}:=⟨_,by unfold rV;walk_at "rp"⟩
def eS:PN:=a27 (λa0=>[some a0]) (λ_=>False) rX.1
def uY: bO:=(aL (bK 4 (qS (v7 (a9 2) (a9 1)) (bV 2 (aM (aG 0) (aM (aG 1) cW))) dI (aQ gM (a9 0) (bN eR (a8 (a9 2) (a8 (a9 3) (a8 (a9 1) aF))))) (fun env=>[none, none, jn (k9 env 0), jn (k9 env 3)])))
 (bY (aQ A1 (bN dW (a8 (a9 4) aF)) (bN cH (a8 (a9 0) (a8 (a9 1) (a8 (a9 3) aF)))))))
abbrev vF:{r:bO // r=uY}:=⟨_,by unfold uY;walk_at "rp"⟩
def fU:PN:=a28 (λa0 a1 a2 a3=>[some a0,some a1,some a2,some a3,none]) (λ_=>False) vF.1
def oW: bO:=(aL (bK 2 (bN eS (a8 (a9 0) aF)))
 (aL (L9 3 4 (a8 (cP aF) (a8 (cP aF) aF)))
 (aL (g8 (f7 (aQ dH (a9 1) (pC (.int 1)))) (aG 5) (aL (bK 6 (bN fU (a8 (a9 0) (a8 (a9 2) (a8 (aQ FD (cP (a8 (a9 5) aF)) (aQ gM (bN m8 (a8 (a9 2) aF)) (pC (.int 1)))) (a8 (a9 3) aF))))))
 (aL (qP (bN c7 (a8 (a9 6) (a8 (bN m8 (a8 (a9 2) aF)) (a8 (pC (.int 0)) aF)))) (bV 2 (aM (aG 7) (aM (aG 8) cW))))
 (aL (gA "list" 4 dJ (a8 (dD (a8 (a9 3) (a8 (bN eT (a8 (a9 7) (a8 (jJ LA (a9 2) oV (m9 (HU jU (pC (.int 1))))) aF))) aF))) aF))
 (aL (bK 3 (bN dU (a8 (a9 3) (a8 (bN cG (a8 (a9 8) (a8 (aQ gM (bN m8 (a8 (a9 2) aF)) (pC (.int 1))) aF))) aF))))
 aO)))))
 (bY (a9 4)))))
abbrev p8:{r:bO // r=oW}:=⟨_,by unfold oW;walk_at "rp"⟩
def dS:PN:=zI (λa0 a1=>[some a0,some a1,none,none,none,none,none,none,none]) (λ_=>False) p8.1
def lA:bO:=(bY (aQ cV (bN fQ (a8 (a9 0) (a8 (uO (bN m8 (a8 (a9 0) aF))) aF))) (pC (.int 0))))
abbrev lD:{r:bO // r=lA}:=⟨_,by unfold lA;walk_at "rp"⟩
def cF:PN:=a27 (λa0=>[some a0]) (λR=>R .non) lD.1
def uU:bO:=(bY (aQ cV (bN dS (a8 (a9 0) (a8 (bN xV (a8 (a9 1) (a8 (bN cF (a8 (a9 0) aF)) aF))) aF))) (HU jU (pC (.int 1)))))
abbrev vB:{r:bO // r=uU}:=⟨_,by unfold uU;walk_at "rp"⟩
def fP:PN:=zI (λa0 a1=>[some a0,some a1]) (λR=>R .non) vB.1
def y9: bO:=(aL (qP (bN fP (a8 (a9 0) (a8 (a9 1) aF))) (bV 2 (aM (aG 2) (aM (aG 3) cW))))
 (bY (dD (a8 (bN fW (a8 (a9 0) (a8 (a9 2) aF))) (a8 (a9 2) (a8 (a9 3) aF))))))
abbrev yK:{r:bO // r=y9}:=⟨_,by unfold y9;walk_at "rp"⟩
def fT:PN:=zI (λa0 a1=>[some a0,some a1,none,none]) (λR=>R .non) yK.1
def CG:bO:=(bY (aQ a5A (qS (c6 (a9 1)) (aG 0) (gZ (aQ m7 (bN iE (a8 (a9 2) (a8 (a9 3) (a8 (aQ cV (aQ cV (a9 2) (a9 0)) (pC (.int 1))) aF)))) (a9 1))) (a9 0) (λenv=>[none,jn (k9 env 2),jn (k9 env 0),jn (k9 env 1)])) (cP aF)))
abbrev CQ:{r:bO // r=CG}:=⟨_,by unfold CG;walk_at "rp"⟩
def jR:PN:=T4 (λa0 a1 a2=>[some a0,some a1,some a2]) (λR=>R .non) CQ.1
def CJ: bO:=(aL (g9 (gZ (aQ a5A (a9 1) (cP aF))) (bY (a9 1)) aO)
 (aL (bK 2 (bN aW (a8 (a9 0) (a8 (bN m8 (a8 (a9 1) aF)) aF))))
 (aL (qP (aQ cV (a9 1) (a9 2)) (bV 2 (aM (aG 3) (aM (aG 4) cW))))
 (aL (bK 5 (bN aW (a8 (a9 0) (a8 (pC (.int 6)) aF))))
 (aL (bK 6 (bN uM (a8 (a9 1) aF)))
 (aL (g9 (gZ (aQ A2 (a9 5) (pC (.int 1)))) (aL (rR 6 (aQ dH (a9 4) (pC (.int 1))) (a9 3))
 aO) aO)
 (aL (g9 (qO (gZ (aQ A2 (a9 5) (pC (.int 2)))) (gZ (aQ m7 (a9 4) (pC (.int 1))))) (aL (rR 6 (aQ gM (a9 4) (pC (.int 1))) (a9 3))
 aO) aO)
 (aL (g9 (gZ (aQ m7 (a9 5) (pC (.int 2)))) (aL (gA "dict" 6 qU (a8 (a9 3) aF))
 aO) aO)
 (aL (g9 (qO (gZ (aQ m7 (a9 5) (pC (.int 3)))) (gZ (aQ uP (bN OX (a8 (a9 3) aF)) (aQ gM (aQ jV (pC (.int 10)) (pC (.int 12))) (pC (.int 1)))))) (aL (rR 6 (a9 4) (aQ dH (a9 3) (aQ cV (cP (a8 (pC (.int 1)) (a8 (HU jU (pC (.int 1))) aF))) (aQ gM (a9 5) (pC (.int 4))))))
 aO) aO)
 (bY (qS (c6 (bN iM (a8 (a9 6) aF))) (aG 0) dI (dD (a8 (a9 0) (a8 (aQ jT (a9 1) (a9 0)) aF))) (λenv=>[none,jn (k9 env 6)]))))))))))))
abbrev CU:{r:bO // r=CJ}:=⟨_,by unfold CJ;walk_at "rp"⟩
def iF:PN:=zI (λa0 a1=>[some a0,some a1,none,none,none,none,none]) (λR=>R .non) CU.1
def mD: bO:=(aL (g8 (c6 (a9 2)) (bV 2 (aM (aG 4) (aM (aG 5) cW))) (aL (g9 (gZ (aQ uP (bN eR (a8 (a9 0) (a8 (a9 3) (a8 (a9 4) aF)))) (a9 1))) (bY (iL (a9 4))) aO)
 aO))
 (bY (pC .non)))
abbrev mF:{r:bO // r=mD}:=⟨_,by unfold mD;walk_at "rp"⟩
def cS:PN:=a28 (λa0 a1 a2 a3=>[some a0,some a1,some a2,some a3,none,none]) (λR=>R .non) mF.1
def p4: bO:=(aL (g8 (c6 (a9 2)) (aG 3) (aL (g9 (gZ (aQ m7 (bN fV (a8 (aQ cV (a9 0) (a9 3)) (a8 (a9 1) aF))) (aQ cV (aQ cV (a9 0) (a9 3)) (pC (.int 3))))) (bY (iL (a9 3))) aO)
 aO))
 (bY (pC .non)))
abbrev pD:{r:bO // r=p4}:=⟨_,by unfold p4;walk_at "rp"⟩
def dX:PN:=T4 (λa0 a1 a2=>[some a0,some a1,some a2,none]) (λR=>R .non) pD.1
def p5: bO:=(aL (g8 (kP (a9 0)) (bV 2 (aM (aG 3) (aM (aG 4) cW))) (aL (g9 (qO (gZ (aQ P1 (a9 3) (a9 2))) (gZ (aQ m7 (bN i6 (a8 (a9 4) (a8 (a9 1) aF))) (pC (.int 0))))) (bY (iL (a9 3))) aO)
 aO))
 (bY (pC .non)))
abbrev pE:{r:bO // r=p5}:=⟨_,by unfold p5;walk_at "rp"⟩
def dY:PN:=T4 (λa0 a1 a2=>[some a0,some a1,some a2,none,none]) (λR=>R .non) pE.1
def uZ: bO:=(aL (bK 4 (dD (a8 (dD (a8 (pC (.str "moment")) (a8 (bN cS (a8 (a9 0) (a8 (a9 1) (a8 (a9 2) (a8 (a9 3) aF))))) aF))) (a8 (dD (a8 (pC (.str "left")) (a8 (bN dY (a8 (a9 0) (a8 (a9 2) (a8 (a9 3) aF)))) aF))) (a8 (dD (a8 (pC (.str "dear")) (a8 (bN dX (a8 (a9 0) (a8 (a9 2) (a8 (a9 3) aF)))) aF))) aF)))))
 (aL (g8 (yD (a9 4)) (bV 2 (aM (aG 5) (aM (aG 6) cW))) (aL (g9 (gZ (aQ rT (a9 6) (pC .non))) (bY (dD (a8 (a9 5) (a8 (a9 6) aF)))) aO)
 aO))
 (bY (pC .non))))
abbrev vG:{r:bO // r=uZ}:=⟨_,by unfold uZ;walk_at "rp"⟩
def eM:PN:=a28 (λa0 a1 a2 a3=>[some a0,some a1,some a2,some a3,none,none,none]) (λR=>R .non) vG.1
end Lib
local macro_rules | `(tactic| walk_at "w") => `(tactic| with_reducible (conv => whnf))
namespace L2
open PySem
theorem cB {g:iU} {b:bO} {E:PEnds}:∀ {items:List PV} {env:bC} (I:Nat->bC->Prop),I 0 env->
  (∀(i:Nat) (x:PV) (env:bC) (N:bC->Prop),items[i]? =some x->I i env->(∀env',I (i+1) env'->N env')->g x env λenv1=>b {E with nx:=N,ct:=N,bk:=E.nx} env1)->
  (∀env,I items.length env->E.nx env)->oT g b E items env
 |[],env,I,h0,hs,hd=>hd env h0
 | x::xs,env,I,h0,hs,hd=>by
  rw[oT]
  refine hs 0 x env _ rfl h0 λenv' h=>?_
  exact cB (λi=>I (i+1)) h (λi y e N hy=>hs (i+1) y e N (by simpa using hy)) λe h=>hd e (by simpa using h)
theorem zN {g:iU} {b:bO} {E:PEnds} {items:List PV} {env:bC} (J:bC->Prop) (h0:J env)
  (hs:∀(x:PV) (env:bC) (N:bC->Prop),x∈items->J env->(∀env',J env'->N env')->g x env λenv1=>b {E with nx:=N,ct:=N,bk:=E.nx} env1)
  (hd:∀env,J env->E.nx env):oT g b E items env:=
 cB (λ_=>J) h0 (λi x e N hx hJ hN=>hs x e N (a0u hx) hJ hN) hd
theorem kK {g:iU} {tt:fD} {te:aY} {Q:PV->Prop}:∀ {items acc:List PV} {env:bC} (I:Nat->List PV->bC->Prop),I 0 acc env->
  (∀(i:Nat) (x:PV) (acc:List PV) (env:bC) (N:List PV->bC->Prop),items[i]? =some x->I i acc env->(∀acc' env',I (i+1) acc' env'->N acc' env')->g x env λenv1=>tt env1 λk=>Br k (te env1 λv=>N (acc++[v]) env1) (N acc env1))->
  (∀acc env,I items.length acc env->Q (.lst acc))->kN g tt te Q items acc env
 |[],acc,env,I,h0,hs,hd=>hd acc env h0
 | x::xs,acc,env,I,h0,hs,hd=>by
  rw[kN]
  refine hs 0 x acc env (λacc env=>kN g tt te Q xs acc env) rfl h0 λacc' env' h=>?_
  exact kK (λi=>I (i+1)) h (λi y a e N hy=>hs (i+1) y a e N (by simpa using hy)) λa e h=>hd a e (by simpa using h)
theorem iJ {g:iU} {tt:fD} {te:aY} {Q:PV->Prop}:∀ {items acc:List PV} {env:bC} (f:PV->Option PV) (J:bC->Prop),J env->
  (∀(x:PV) (env:bC) (N:Option PV->bC->Prop),x∈items->J env->(∀env',J env'->N (f x) env')->g x env λenv1=>tt env1 λk=>Br k (te env1 λv=>N (some v) env1) (N none env1))->
  Q (.lst (acc++items.filterMap f))->kN g tt te Q items acc env
 |[],acc,env,f,J,h0,hs,hq=>by simpa[kN] using hq
 | x::xs,acc,env,f,J,h0,hs,hq=>by
  rw[kN]
  refine hs x env (λo e=>match o with|some v=>kN g tt te Q xs (acc++[v]) e|none=>kN g tt te Q xs acc e) a0m h0 λenv' h=>?_
  rw[a1n] at hq
  cases hf:f x with
  | none=>
   rw[hf] at hq
   exact iJ f J h (λy e N hy=>hs y e N (a0k _ hy)) hq
  | some v=>
   rw[hf] at hq
   exact iJ f J h (λy e N hy=>hs y e N (a0k _ hy)) (by simpa using hq)
theorem a7A{x y:Prop}(h:x):Br true x y:=h
theorem a79{x y:Prop}(h:y):Br false x y:=h
theorem a5P{x y:Prop}(h:y):Br (!true) x y:=h
theorem gW{p:Prop}[Decidable p]{x y:Prop}(h1:p->x)(h2:¬p->y):Br (decide p) x y:=X8 (λh=>h1 (a4i h)) λh=>h2 (of_decide_eq_false h)
theorem Y5{p:Prop}[Decidable p]{x y:Prop}(h1:¬p->x)(h2:p->y):Br (!decide p) x y:=X8 (λh=>h1 (by simpa using h)) λh=>h2 (by simpa using h)
theorem a78{b c:Bool}{x y:Prop}(e:b=c)(h:Br c x y):Br b x y:=e▸h
theorem EZ{lo:Int}{n:Nat}{x:PV}(h:x∈cU lo n):∃i:Int,x= .int i/\lo<=i/\i<lo+n:=by
 unfold cU at h
 obtain⟨k,hk,rfl⟩:=a0p.mp h
 have:=a1s.mp hk
 exact⟨_,rfl,by omega,by omega⟩
theorem dG {lo:Int} {n i:Nat} {x:PV} (h:(cU lo n)[i]? =some x):x= .int (lo+i)/\i<n:=by
 have hi:i<n:=by
  have:=(a0j.mp h).1
  rwa [bQ] at this
 rw[xJ hi] at h
 exact⟨(a1j h).symm,hi⟩
theorem bX{n:Nat}(h:n<=1000):n<=sizeLine:=a0y h (by decide)
theorem mY{n:Nat}(h:n<=1000):n<sizeLine:=a2n h (by decide)
theorem SL{xs:List PV}{i:Int}(h0:0<=i)(h1:i<xs.length):∃x,iV xs i=some x/\xs[i.toNat]? =some x:=by
 have h:i.toNat<xs.length:=by omega
 exact⟨xs[i.toNat],cE h0 (a0a h),a0a h⟩
theorem f6{ns:List Int}{P:Int->Prop}{r:Int}{Q:PV->Prop}(h0:0<=r)(h1:r<ns.length)(hP:∀n∈ns,P n)(q:∀n,P n->Q (.int n)):cV (.lst (ns.map PV.int)) (.int r) Q:=by
 have h:r.toNat<ns.length:=by omega
 refine c4 (z:=.int ns[r.toNat]) (cE h0 (by rw[a0g,a0a h];rfl)) (q _ (hP _ (a1k h)))
end L2
namespace Lib
open PySem L2
def kA(s:Sr):PV:=.tup [.str s.nm,.int s.b,.int s.e,.int s.w]
abbrev eW(bk:List Sr):PV:=.lst (bk.map kA)
abbrev dF(ks:List Int):PV:=.lst (ks.map PV.int)
structure BkOk(bk:List Sr)(n:Nat):Prop where
 len:bk.length<=n
 at_:∀(i:Nat) (s:Sr),bk[i]? =some s->SrOk s i
theorem xG(bk:List Sr):PV.flats (bk.map kA)=true:=PV.flats_of λx h=>by obtain⟨s,_,rfl⟩:=a0p.mp h;rfl
theorem qH(ks:List Int):PV.flats (ks.map PV.int)=true:=PV.flats_of λx h=>by obtain⟨s,_,rfl⟩:=a0p.mp h;rfl
def aR(s:Sr)(m:Int):Bool:=decide (s.b<=m)&&decide (m<s.e)
theorem qC {s:Sr} {m:Int} {R:PV->Prop} (h:R (.bl (aR s m))):eQ [kA s,.int m] R:=by
 unfold eQ kA
 tb_from(eE iB ?_)
 walk_at "w"
 unfold aR at h
 refine gW (λh1=>?_) (λh1=>?_)
 ·rw[a1v h1,Bool.true_and] at h
  refine eE nU ?_
  walk_at "w"
  exact h
 ·rw[a1c h1,a6p] at h
  exact h
theorem zA{bk:List Sr}{k:Int}(h0:0<=k)(h1:k<bk.length):∃s,bk[k.toNat]? =some s/\iV (bk.map kA) k=some (kA s):=by
 have h:k.toNat<bk.length:=by omega
 exact⟨bk[k.toNat],a0a h,cE h0 (by rw[a0g,a0a h];rfl)⟩
theorem tW {k:Int} {R:PV->Prop} (k0:0<=k) (k1:k<26) (h:∀nm:Str,NmOk nm k.toNat->R (.str nm)):jS [.st,.int k] R:=by
 unfold jS
 tb_from(⟨by decide,by decide,λr r0 r1=>?_⟩)
 tb_from(⟨by omega,?_⟩)
 refine⟨by omega,?_⟩
 refine cB (λi env=>∃(sp:Str) (t:Option PV),env=[some .st,some (.int k),some (.str a58),some (.str sp),t]/\sp.cps.toList.length=i/\∀c∈sp.cps.toList,97<=c/\c<=122) ⟨Str.ofString "",none,rfl,by decide+kernel,by intro c hc;rw[show (Str.ofString "").cps.toList=[] by decide+kernel] at hc;cases hc⟩ ?_ ?_
 ·rintro i x env N hx ⟨sp,t,rfl,hl,hc⟩ hN
  obtain⟨rfl,hi⟩:=dG hx
  tb_from(⟨by decide,by decide,λr2 r20 r21=>?_⟩)
  walk_at "w"
  refine XH (GK r20 r21) (by rw[GH];decide) ?_
  walk_at "w"
  have l1:sp.length=i:=by show sp.cps.size=i;rw[<- hl,a0o]
  refine⟨?_,?_⟩
  ·rw[l1]
   show i+1<=sizeLine
   exact bX (by omega)
  ·refine hN _ ⟨_,_,rfl,?_,?_⟩
   ·show (sp.cps++ #[97+r2.toNat]).toList.length=_
    rw[a4t,a1r,hl];rfl
   ·intro c hc'
    have hc':c∈(sp.cps++ #[97+r2.toNat]).toList:=hc'
    rw[a4t] at hc'
    rcases a1a.mp hc' with z|z
    ·exact hc c z
    ·have:c=97+r2.toNat:=by simpa using z
     omega
 ·rintro env ⟨sp,t,rfl,hl,hc⟩
  rw[bQ] at hl
  walk_at "w"
  refine XH (GK k0 k1) (by rw[GH];decide) ?_
  walk_at "w"
  have l1:sp.length=r.toNat:=by show sp.cps.size=_;rw[<- hl,a0o]
  refine⟨?_,?_⟩
  ·rw[l1]
   show r.toNat+1<=sizeLine
   exact bX (by omega)
  ·refine h _ ⟨⟨sp.cps.toList,?_,by omega,hc⟩⟩
   show (sp.cps++ #[97+k.toNat]).toList=_
   rw[a4t]
structure SmOk(ks:List Int)(n:Nat):Prop where
 lt:ks.Pairwise (· < ·)
 at_:∀k∈ks,0<=k/\k<(n:Int)
theorem SmOk.len {ks:List Int} {n:Nat} (h:SmOk ks n):ks.length<=n:=by
 have h2:∀(n:Nat) (ks:List Int),ks.Pairwise (· < ·)->(∀k∈ks,0<=k/\k<(n:Int))->ks.length<=n:=by
  intro n
  induction n with
  | zero=>intro ks _ h;cases ks with
   |nil=>simp
   |cons a l=>have:=h a a0m;omega
  | succ n ih=>
   intro ks hp h
   by_cases hm:(n:Int)∈ks
   ·have:(ks.erase (n:Int)).length<=n:=by
     refine ih _ (hp.sublist List.erase_sublist) λk hk=>?_
     have hk':=List.mem_of_mem_erase hk
     have nd:ks.Nodup:=hp.imp λh=>by omega
     have hne:k≠(n:Int):=λz=>by subst z;exact (List.Nodup.not_mem_erase nd) hk
     have:=h k hk'
     omega
    rw[List.length_erase_of_mem hm] at this
    omega
   ·have:=ih ks hp λk hk=>by
     have h1:=h k hk
     have:k≠(n:Int):=λz=>by subst z;exact hm hk
     omega
    omega
 exact h2 n ks h.lt h.at_
theorem C2{u x:Int}(u0:1<=u)(x1:x<=28):u*x<=u*28:=Int.mul_le_mul_of_nonneg_left x1 (by omega)
theorem EJ{a b:Int}(h0:0<=a)(h1:a<18446744073709551616):w6 a b:=.inl ⟨by omega,by omega⟩
theorem OL{P:Int->Prop}{a b c d:Int}(ha:P a)(hb:P b)(hc:P c)(hd:P d):∀n∈[a,b,c,d],P n:=by
 intro n hn
 simp only[a0q,a1e,a3j] at hn
 rcases hn with rfl|rfl|rfl|rfl<;>assumption
theorem MZ {n:Nat} {R:PV -> Prop} (hn:n <= 24) (h:∀ bk:List Sr,BkOk bk n->R (eW bk)):iC [.st,.int n] R:=by
  unfold iC
  tb_from(⟨by decide,by decide,λr1 r10 r11=>?_⟩)
  tb_from(f6 (ns:=[3,6,9,14]) (P:=λx=>0<x/\x<=14) r10 r11 (OL (by omega) (by omega) (by omega) (by omega)) λsize hsz=>?_)
  tb_from(⟨⟨by decide,by decide,by decide⟩,?_⟩)
  tb_from(⟨by decide,by decide,λr2 r20 r21=>?_⟩)
  tb_from(f6 (ns:=[1,1,7,10^(10:Int).toNat]) (P:=λx=>0<x/\x<=10000000000) r20 r21 (OL (by omega) (by omega) (by omega) (by decide)) λmany hmn=>?_)
  walk_at "w"
  refine ⟨by omega, by have : (10000000000 : Int)<2^250:=by decide
                       omega,λr3 r30 r31=>?_⟩
  walk_at "w"
  have u0:1<=1+r3:=by omega
  have u1:1+r3<=10000000000:=by omega
  refine⟨⟨by decide,by decide,by decide⟩,?_⟩
  tb_from(⟨⟨by decide,by decide,by decide⟩,?_⟩)
  tb_from(⟨EJ (by decide) (by decide),?_⟩)
  tb_from(⟨by decide,by decide,λr4 r40 r41=>?_⟩)
  walk_at "w"
  refine f6 (ns:=[0,-3,-(10 ^ (12:Int).toNat),10 ^ (12:Int).toNat-28*(1+r3)]) (P:=λx=>-1000000000000<=x/\x+28*(1+r3)<=1000000000000) r40 r41
    (OL (by omega) (by omega) (by   have : (10 : Int) ^ (12 : Int).toNat=1000000000000:=by decide
                                    rw [this]; omega) (by have : (10 : Int)^(12 : Int).toNat=1000000000000:=by decide
                                                          rw[this];omega)) λlow hlow=>?_
  walk_at "w"
  refine ⟨by omega, by have : (25 : Int)<2^250:=by decide
                       omega,λr5 r50 r51=>?_⟩
  tb_from(⟨by omega,?_⟩)
  refine⟨by omega,?_⟩
  refine cB (λi env=>∃(bk:List Sr) (t1 t2 t3 t4 t5:Option PV),env=[some .st,some (.int n),some (.int size),some (.int (1+r3)),some (.int low),some (eW bk),t1,t2,t3,t4,t5]/\bk.length=i/\∀(j:Nat) (s:Sr),bk[j]? =some s->SrOk s j) ⟨[],none,none,none,none,none,rfl,rfl,by simp⟩ ?_ ?_
  · rintro i x env N hx ⟨bk,t1,t2,t3,t4,t5,rfl,hl,hb⟩ hN
    obtain⟨rfl,hi⟩:=dG hx
    walk_at "w"
    refine ⟨by omega, by have : (14 : Int)<2^250:=by decide
                         omega,λb b0 b1=>?_⟩
    walk_at "w"
    refine ⟨by omega, by have : (14 : Int)<2^250:=by decide
                         omega,λl l0 l1=>?_⟩
    tb_from(⟨⟨by decide,by decide,by decide⟩,?_⟩)
    tb_from(⟨by decide,by decide,λr6 r60 r61=>?_⟩)
    tb_from(f6 (ns:=[4,12,100,10^(12:Int).toNat+1]) (P:=λx=>0<x/\x<=1000000000001) r60 r61 (OL (by omega) (by omega) (by omega) (by decide)) λwm hwm=>?_)
    walk_at "w"
    refine ⟨by omega, by have : (1000000000001 : Int)<2^250:=by decide
                         omega,λwo w0 w1=>?_⟩
    tb_from(⟨EJ (by omega) (by omega),?_⟩)
    tb_from(⟨EJ (by omega) (by omega),?_⟩)
    walk_at "w"
    have hb0:(1+r3)*b<=(1+r3)*28:=C2 u0 (by omega)
    have he0:(1+r3)*(b+1+l)<=(1+r3)*28:=C2 u0 (by omega)
    have hbn:0<=(1+r3)*b:=Int.mul_nonneg (by omega) b0
    have hlt:(1+r3)*b<(1+r3)*(b+1+l):=Int.mul_lt_mul_of_pos_left (by omega) (by omega)
    have add:∀(nm:Str) (p e:Int),NmOk nm (0+(i:Int)).toNat->p<e->-1000000000000<=p->e<=1000000000000->∀(t1' t2' t3' t4' t5':Option PV),
        N [some .st,some (.int n),some (.int size),some (.int (1+r3)),some (.int low),some (.lst (bk.map kA++[.tup [.str nm,.int p,.int e,.int wo]])),t1',t2',t3',t4',t5']:=by
      intro nm p e hnm h1 h2 h3 t1' t2' t3' t4' t5'
      refine hN _ ⟨bk++[⟨nm,p,e,wo⟩],t1',t2',t3',t4',t5',by simp[kA],by simp[hl],?_⟩
      intro j s hj
      by_cases hjl:j<bk.length
      · rw[a1f hjl] at hj;exact hb j s hj
      · rw [a1i (by omega)] at hj
        have hj0:j-bk.length=0:=by
          have:=(a0j.mp hj).1
          simp at this;omega
        rw[hj0] at hj
        simp at hj
        subst hj
        have:(0+(i:Int)).toNat=j:=by omega
        rw[this] at hnm
        exact⟨hnm,h1,h2,h3,w0,show wo<=1000000000000 by omega⟩
    have hsz:(bk.map kA).length<sizeLine:=mY (by simp;omega)
    refine gW (λh1=>?_) (λh1=>?_)
    · walk_at "w"
      refine⟨by decide,by decide,λr7 r70 r71=>?_⟩
      tb_from(gW (λh2=>?_) (λh2=>?_))
      · walk_at "w"
        obtain⟨s,es⟩ : ∃s,bk[i-1]? =some s:=⟨bk[i-1]'(by omega),a0a (by omega)⟩
        have ix:iV (bk.map kA) (-1)=some (kA s):=by
          unfold iV sR
          rw[if_neg (by decide),if_pos (by rw[a0d];omega)]
          show (bk.map kA)[((-1:Int)+((bk.map kA).length:Nat)).toNat]? =_
          rw[a0d,show ((-1:Int)+(bk.length:Nat)).toNat=i-1 by omega,a0g,es];rfl
        refine c4 ix ?_
        unfold kA
        tb_from(⟨(by decide:¬(HT.sIx 4 0 (some 1)=0/\HT.sIx 4 4 (some 3)=4)),?_⟩)
        tb_from(⟨rfl,?_⟩)
        have so:=hb _ _ es
        refine tW (by omega) (by omega) λnm hnm=>?_
        tb_from(eE (z:=.int s.b) rfl ?_)
        tb_from(eE (z:=.int s.e) rfl ?_)
        walk_at "w"
        exact⟨hsz,add nm s.b s.e hnm so.lt so.b0 so.e1 _ _ _ _ _⟩
      · walk_at "w"
        refine⟨rfl,?_⟩
        refine tW (by omega) (by omega) λnm hnm=>?_
        tb_from(eE tQ ?_)
        tb_from(eE iB ?_)
        walk_at "w"
        exact⟨hsz,add nm _ _ hnm (by omega) (by omega) (by omega) _ _ _ _ _⟩
    · walk_at "w"
      refine⟨rfl,?_⟩
      refine tW (by omega) (by omega) λnm hnm=>?_
      tb_from(eE tQ ?_)
      tb_from(eE iB ?_)
      walk_at "w"
      exact⟨hsz,add nm _ _ hnm (by omega) (by omega) (by omega) _ _ _ _ _⟩
  · rintro env ⟨bk,t1,t2,t3,t4,t5,rfl,hl,hb⟩
    rw[bQ] at hl
    walk_at "w"
    exact h bk ⟨by omega,hb⟩
end Lib
namespace L2
open PySem
theorem O5{x:PV}{t n:String}{b:Bool}{Q:PV->Prop}(h:x.kind=some t)(h2:KO t n=some b)(q:Q (.bl b)):CC [x,.ty n] Q:=by
 unfold CC;simp only[h,h2];exact q
theorem BV:KO "int" "bool"=some false:=by decide+kernel
theorem uH:KO "tuple" "tuple"=some true:=by decide+kernel
theorem zP{i:Int}{Q:PV->Prop}(q:Q (.bl false)):CC [.int i,.ty "bool"] Q:=O5 rfl BV q
theorem KG{xs:List PV}{Q:PV->Prop}(q:Q (.bl true)):CC [.tup xs,.ty "tuple"] Q:=O5 rfl uH q
theorem oM{xs:List PV}{n:Nat}(h:∀x∈xs,x.dep<=n):(PV.lst xs).dep<=n+1:=by
 rw[PV.dep];exact Nat.succ_le_succ (PV.deps_of h)
theorem zK{xs:List PV}{n:Nat}(h:∀x∈xs,x.dep<=n):(PV.tup xs).dep<=n+1:=by
 rw[PV.dep];exact Nat.succ_le_succ (PV.deps_of h)
theorem mQ(i:Int):(PV.int i).dep=0:=by rw[PV.dep]
theorem uR{x:PV}{Q:PV->Prop}(h:x.dep<=60)(q:Q (.bl false)):a3P x x Q:=⟨h,by omega,by rw[eqB_self];exact q⟩
theorem OZ{x:PV}{Q:PV->Prop}(h:x.dep<=60)(q:Q (.bl true)):a5A x x Q:=⟨h,by omega,by rw[eqB_self];exact q⟩
theorem GQ(ks:List Int):(PV.lst (ks.map PV.int)).dep<=1:=oM (n:=0) λx h=>by obtain⟨k,_,rfl⟩:=a0p.mp h;rw[mQ];exact a0l _
theorem ER(n:Nat):cU 0 n=((List.range n).map λ(i:Nat)=>(i:Int)).map PV.int:=by simp[cU]
end L2
namespace Lib
open PySem L2
theorem TB(s:Sr):(kA s).dep<=1:=zK (n:=0) λx h=>by
 simp only[a0q,a1e,a3j] at h
 rcases h with rfl|rfl|rfl|rfl<;>(rw[PV.dep];exact a0l _)
theorem T7(bk:List Sr):(eW bk).dep<=2:=oM (n:=1) λx h=>by obtain⟨k,_,rfl⟩:=a0p.mp h;exact TB k
theorem FW(n:Nat):SmOk ((List.range n).map λ(i:Nat)=>(i:Int)) n:=⟨by
 rw[a3q];exact List.pairwise_lt_range.imp λh=>by omega,λk h=>by
 obtain⟨i,hi,rfl⟩:=a0p.mp h
 have:=a1s.mp hi
 omega⟩
end Lib
local macro_rules | `(tactic| walk_at "w") => `(tactic| ((with_reducible (conv => whnf)); (repeat ((with_reducible first | refine L2.a7A ?_ | refine L2.a79 ?_ | refine L2.a5P ?_ | refine L2.brNF ?_); (with_reducible (conv => whnf))))))
namespace L2
open PySem
theorem NT {g:iU} {tt:fD} {a:DM} {K:List Int->bC->Prop}:∀ {items:List PV} {acc:List Int} {env:bC} (I:Nat->List Int->bC->Prop),I 0 acc env->
  (∀(i:Nat) (x:PV) (acc:List Int) (env:bC) (N:List Int->bC->Prop),items[i]? =some x->I i acc env->(∀acc' env',I (i+1) acc' env'->N acc' env')->g x env λenv1=>tt env1 λk=>Br k (a acc env1 N) (N acc env1))->
  (∀acc env,I items.length acc env->K acc env)->lK g tt a K items acc env
 |[],acc,env,I,h0,hs,hd=>hd acc env h0
 | x::xs,acc,env,I,h0,hs,hd=>by
  rw[lK]
  refine hs 0 x acc env (λacc env=>lK g tt a K xs acc env) rfl h0 λacc' env' h=>?_
  exact NT (λi=>I (i+1)) h (λi y a e N hy=>hs (i+1) y a e N (by simpa using hy)) λa e h=>hd a e (by simpa using h)
end L2
namespace Lib
open PySem L2
def gX(ss:List Sr):List Int:=ss.flatMap λs=>[s.b,s.e]
theorem zV(ss:List Sr):(gX ss).length=2*ss.length:=by
 induction ss with
 |nil=>rfl
 |cons s ss ih=>rw[gX,List.flatMap_cons,a1r,<- gX,ih];simp;omega
theorem gH{ss:List Sr}{m:Int}:m∈gX ss↔∃s∈ss,m=s.b\/m=s.e:=by
 simp[gX]
theorem xD {ss:List Sr} {R:PV->Prop} (hl:ss.length<=31) (q:R (dF (aP (gX ss)))):d5 [eW ss] R:=by
 unfold d5
 tb_from(NT (λi acc env=>acc=gX (ss.take i)/\∃t1 t2,env=[t1,t2]) ⟨rfl,none,none,rfl⟩ ?_ ?_)
 ·rintro i x acc env N hx ⟨rfl,t1,t2,rfl⟩ hN
  rw[a0g,a0r] at hx
  obtain⟨s,hs,rfl⟩:=hx
  have hi:i<ss.length:=(a0j.mp hs).1
  have hlen:(gX (ss.take i)).length<=60:=by rw[zV,a2g];omega
  have he:gX (ss.take (i+1))=gX (ss.take i)++[s.b]++[s.e]:=by
   rw[a1o,hs,gX,List.flatMap_append,<- gX];simp
  unfold kA
  tb_from(⟨(by decide:¬(HT.sIx 4 0 (some 1)=0/\HT.sIx 4 4 (some 3)=4)),?_⟩)
  show lK _ _ _ _ [.int s.b,.int s.e] _ _
  rw[lK]
  tb_from(⟨by omega,?_⟩)
  show lK _ _ _ _ [.int s.e] _ _
  rw[lK]
  walk_at "w"
  refine⟨by rw[a1r,a6g];omega,?_⟩
  show lK _ _ _ _ [] _ _
  rw[lK]
  exact hN _ _ ⟨he.symm,_,_,rfl⟩
 ·rintro acc env ⟨rfl,t1,t2,rfl⟩
  rw[a0d,a1y]
  exact q
def cR(bk:List Sr)(k:Int):Sr:=(bk[k.toNat]?).getD ⟨Str.empty,0,0,0⟩
def aU(bk:List Sr)(ks:List Int):List Sr:=ks.map (cR bk)
theorem xA{bk:List Sr}{k:Int}(h0:0<=k)(h1:k<bk.length):iV (bk.map kA) k=some (kA (cR bk k)):=by
 obtain⟨s,e1,e2⟩:=zA h0 h1
 rw[e2];unfold cR;rw[e1];rfl
def aS(ss:List Sr)(m:Int):Nat:=ss.countP λs=>aR s m
theorem OE {bk:List Sr} {m:Int} (ks:List Int):((ks.map PV.int).filterMap λx=>match x with|.int k=>if aR (cR bk k) m then some (PV.int k) else none|_=>none).length=aS (aU bk ks) m:=by
 unfold aS aU
 induction ks with
 |nil=>rfl
 | cons k ks ih=>
  rw[a0h,a0h,List.countP_cons,<- ih,a1n]
  by_cases h:aR (cR bk k) m=true
  ·simp[h]
  ·simp[h]
theorem qD {bk:List Sr} {ks:List Int} {m:Int} {R:PV->Prop} (hl:ks.length<=1000) (ok:∀k∈ks,0<=k/\k<(bk.length:Int)) (q:R (.int (aS (aU bk ks) m))):eR [eW bk,dF ks,.int m] R:=by
 unfold eR
 tb_from(⟨bX (by simpa using hl),?_⟩)
 refine iJ (λx=>match x with|.int k=>if aR (cR bk k) m then some (PV.int k) else none|_=>none) (λenv=>∃t,env=[t,some (.int m),some (eW bk)]) ⟨_,rfl⟩ ?_ ?_
 ·rintro x env N hx ⟨t,rfl⟩ hN
  obtain⟨k,hk,rfl⟩:=a0p.mp hx
  tb_from(c4 (xA (ok k hk).1 (ok k hk).2) ?_)
  tb_from(qC ?_)
  walk_at "w"
  have hN:=hN [some (.int k),some (.int m),some (eW bk)] ⟨_,rfl⟩
  dsimp only at hN
  refine X8 (λh=>?_) (λh=>?_)
  ·rw[if_pos h] at hN;exact hN
  ·rw[if_neg (by rw[h];exact a0i)] at hN;exact hN
 ·rw[a3h]
  walk_at "w"
  rw[OE]
  exact q
theorem B7 {bk:List Sr} {ks:List Int} {m:Int} {R:PV->Prop} (hl:ks.length<=1000) (ok:∀k∈ks,0<=k/\k<(bk.length:Int)) (q:R (.int (aS (aU bk ks) m))):iE [eW bk,dF ks,.int m] R:=by
 unfold iE
 tb_from(⟨bX (by simpa using hl),?_⟩)
 refine iJ (λx=>match x with|.int k=>if aR (cR bk k) m then some (PV.int k) else none|_=>none) (λenv=>∃t,env=[t,some (.int m),some (eW bk)]) ⟨_,rfl⟩ ?_ ?_
 ·rintro x env N hx ⟨t,rfl⟩ hN
  obtain⟨k,hk,rfl⟩:=a0p.mp hx
  have hN:=hN [some (.int k),some (.int m),some (eW bk)] ⟨_,rfl⟩
  dsimp only at hN
  have e:=xA (ok k hk).1 (ok k hk).2
  generalize cR bk k=s at e hN
  unfold aR at hN
  unfold kA at e
  tb_from(c4 e ?_)
  tb_from(eE iB ?_)
  tb_from(gW (λh1=>?_) (λh1=>?_))
  ·rw[a1v h1,Bool.true_and] at hN
   refine c4 e ?_
   tb_from(eE nU ?_)
   tb_from(gW (λh2=>?_) (λh2=>?_))
   ·rw[a1v h2] at hN;exact hN
   ·rw[a1c h2] at hN;exact hN
  ·rw[a1c h1,a6p] at hN;exact hN
 ·rw[a3h]
  walk_at "w"
  rw[OE]
  exact q
end Lib
namespace L2
open PySem
theorem oO:∀(n:Nat) (ks:List Int),ks.length<=n->ks.eraseDups.length<=ks.length
 | 0,ks,h=>by
  have:ks=[]:=a3p.mp (by omega)
  subst this;simp
 |n+1,[],h=>by simp
 | n+1,k::ks,h=>by
  rw[List.eraseDups_cons,a2c,a2c]
  have h1:=a3i (λb=>!b==k) ks
  have:=oO n (ks.filter λb=>!b==k) (by simp at h;omega)
  omega
theorem rF(ks:List Int):(aP ks).length<=ks.length:=by
 unfold aP
 rw[(cL _).length_eq]
 exact oO _ ks (a0l _)
theorem GJ {ds:List Int} {x:Int}:((ds.map PV.int).any λz=>z.eqB (.int x))=decide (x∈ds):=by
 rw[List.any_map]
 induction ds with
 |nil=>simp
 | cons d ds ih=>
  rw[a5m,ih]
  show ((PV.int d).eqB (.int x)||_)=_
  rw[eqB_ii]
  by_cases h:d=x
  ·subst h;simp
  ·have:¬x=d:=λz=>h z.symm
   simp[h,this]
end L2
namespace Lib
open PySem L2
theorem uJ{ss:List Sr}{x y:Int}(h:∀s∈ss,aR s x=aR s y):aS ss x=aS ss y:=by
 unfold aS
 exact List.countP_congr λs hs=>by rw[h s hs]
theorem fY{s:Sr}{m:Int}:aR s m=true↔s.b<=m/\m<s.e:=by
 unfold aR;simp
theorem lY{s:Sr}{x y:Int}(h:(s.b<=x↔s.b<=y)/\(x<s.e↔y<s.e)):aR s x=aR s y:=by
 rw[a4x,fY,fY,h.1,h.2]
theorem OD {ss:List Sr} {m:Int} (hm:(aP (gX ss))[0]? =some m):aS ss (m-1)=0:=by
 unfold aS
 refine List.countP_eq_zero.mpr λs hs=>?_
 rw[fY]
 have hb:s.b∈aP (gX ss):=bW.mpr (gH.mpr ⟨s,hs,.inl rfl⟩)
 obtain⟨j,hj,ej⟩:=a2j hb
 obtain⟨h0,e0⟩:=a0j.mp hm
 have:m<=s.b:=by
  rcases Nat.eq_zero_or_pos j with z|z
  ·subst z;rw[<- ej,e0];exact a4h _
  ·have:=(a3d.mp (gN (gX ss))) 0 j h0 hj z
   rw[e0,ej] at this;omega
 omega
theorem UT {ss:List Sr} {i:Nat} {x m:Int} (hx:(aP (gX ss))[i]? =some x) (hm:(aP (gX ss))[i+1]? =some m):aS ss x=aS ss (m-1):=by
 obtain⟨h0,e0⟩:=a0j.mp hx
 obtain⟨h1,e1⟩:=a0j.mp hm
 have pw:=a3d.mp (gN (gX ss))
 have lt:=pw i (i+1) h0 h1 (by omega)
 rw[e0,e1] at lt
 have off:∀v∈aP (gX ss),v<=x\/m<=v:=by
  intro v hv
  obtain⟨j,hj,ej⟩:=a2j hv
  rcases Nat.lt_trichotomy j i with z|z|z
  ·have:=pw j i hj h0 z
   rw[e0,ej] at this;omega
  ·subst z;rw[e0] at ej;omega
  ·rcases a4u (Nat.succ_le_of_lt z) with z2|z2
   ·subst z2;right;rw[<- ej,<- e1];exact a4h _
   ·have:=pw (i+1) j h1 hj z2
    rw[e1,ej] at this;omega
 refine uJ λs hs=>lY ?_
 have hb:=off s.b (bW.mpr (gH.mpr ⟨s,hs,.inl rfl⟩))
 have he:=off s.e (bW.mpr (gH.mpr ⟨s,hs,.inr rfl⟩))
 constructor<;>constructor<;>intro h<;>omega
def LM(ss:List Sr)(m:Int):Option PV:=if aS ss m=aS ss (m-1) then none else some (.tup [.int m,.int (aS ss m)])
def sV(ss:List Sr)(i:Nat):List PV:=((aP (gX ss)).take i).filterMap (LM ss)
def AL(ss:List Sr):List PV:=(aP (gX ss)).filterMap (LM ss)
theorem R9(ss:List Sr)(i:Nat):(sV ss i).length<=2*ss.length:=by
 unfold sV
 have h1:=List.length_filterMap_le (LM ss) ((aP (gX ss)).take i)
 have h2:=List.length_take_le i (aP (gX ss))
 have h3:=rF (gX ss)
 rw[zV] at h3
 have:((aP (gX ss)).take i).length<=(aP (gX ss)).length:=by rw[a2g];omega
 omega
theorem LN{ss:List Sr}{i:Nat}{m:Int}(hm:(aP (gX ss))[i]? =some m)(h:aS ss m=aS ss (m-1)):sV ss (i+1)=sV ss i:=by
 unfold sV
 rw[a1o,hm,List.filterMap_append]
 simp[LM,h]
theorem RA{ss:List Sr}{i:Nat}{m:Int}(hm:(aP (gX ss))[i]? =some m)(h:¬aS ss m=aS ss (m-1)):sV ss (i+1)=sV ss i++[.tup [.int m,.int (aS ss m)]]:=by
 unfold sV
 rw[a1o,hm,List.filterMap_append]
 simp[LM,h]
theorem CM(bk:List Sr)(ks:List Int):(aU bk ks).length=ks.length:=by simp[aU]
theorem UQ {bk:List Sr} {ks:List Int} {Q:PV->Prop} {e1:Option PV} (ok:∀k∈ks,0<=k/\k<(bk.length:Int)) (q:Q (eW (aU bk ks))) :
  kN (RD.aG 0) RD.dI (RD.aQ cV (RD.a9 1) (RD.a9 0)) Q (ks.map PV.int) [] [e1,some (eW bk)]:=by
 refine iJ (λx=>match x with|.int k=>some (kA (cR bk k))|_=>none) (λenv=>∃t,env=[t,some (eW bk)]) ⟨e1,rfl⟩ ?_ ?_
 ·rintro x env N hx ⟨t,rfl⟩ hN
  obtain⟨k,hk,rfl⟩:=a0p.mp hx
  tb_from(c4 (xA (ok k hk).1 (ok k hk).2) ?_)
  exact hN _ ⟨_,rfl⟩
 ·rw [a3h]
  have:(ks.map PV.int).filterMap (λx=>match x with|.int k=>some (kA (cR bk k))|_=>none)=(aU bk ks).map kA:=by
   rw[aU,a3l,a2h,<- a3u];rfl
  rw[this];exact q
theorem EF {bk:List Sr} {ks:List Int} {R:PV->Prop} (hl:ks.length<=31) (ok:∀k∈ks,0<=k/\k<(bk.length:Int)) (q:R (.lst (AL (aU bk ks)))):fS [eW bk,dF ks] R:=by
 unfold fS
 walk_at "w"
 refine⟨bX (by simp;omega),?_⟩
 refine UQ ok ?_
 walk_at "w"
 refine xD (by rw[CM];exact hl) ?_
 walk_at "w"
 refine cB (λi env=>∃(b:Int) (t4 t5:Option PV),env=[some (eW bk),some (dF ks),some (.lst (sV (aU bk ks) i)),some (.int b),t4,t5]/\∀m,(aP (gX (aU bk ks)))[i]? =some m->b=(aS (aU bk ks) (m-1):Nat)) ⟨0,none,none,rfl,λm hm=>by rw[OD hm];rfl⟩ ?_ ?_
 ·rintro i x env N hx ⟨b,t4,t5,rfl,hb⟩ hN
  rw[a0g,a0r] at hx
  obtain⟨m,hm,rfl⟩:=hx
  have hb:=hb m hm
  subst hb
  tb_from(qD (by omega) ok ?_)
  walk_at "w"
  have go:∀t5,N [some (eW bk),some (dF ks),some (.lst (sV (aU bk ks) (i+1))),some (.int (aS (aU bk ks) m)),some (.int m),t5]:=λt5=>hN _ ⟨_,_,_,rfl,λm' hm'=>by rw[UT hm hm']⟩
  refine Y5 (λh=>?_) λh=>?_
  ·tb_from(⟨rfl,?_⟩)
   walk_at "w"
   refine⟨mY (n:=(sV (aU bk ks) i).length) (by have:=R9 (aU bk ks) i;rw[CM] at this;omega),?_⟩
   rw[RA hm (by omega)] at go
   exact go _
  ·rw[LN hm (by omega)] at go
   exact go _
 ·rintro env ⟨b,t4,t5,rfl,hb⟩
  walk_at "w"
  rw[a0d,sV,a1y]
  exact q
theorem QV{bk:List Sr}{i:Nat}{s:Sr}(h:bk[i]? =some s):cR bk (i:Int)=s:=by
 unfold cR;rw[a1p,h];rfl
def mN(ss:List Sr):Int:=(ss.map Sr.w).sum
theorem OB {bk:List Sr} {ks:List Int} {Q:PV->Prop} {e1:Option PV} (ok:∀k∈ks,0<=k/\k<(bk.length:Int)) (q:Q (dF ((aU bk ks).map Sr.w))) :
  kN (RD.aG 0) RD.dI (RD.aQ cV (RD.aQ cV (RD.a9 1) (RD.a9 0)) (RD.pC (PV.int 3))) Q (ks.map PV.int) [] [e1,some (eW bk)]:=by
 refine iJ (λx=>match x with|.int k=>some (.int (cR bk k).w)|_=>none) (λenv=>∃t,env=[t,some (eW bk)]) ⟨e1,rfl⟩ ?_ ?_
 ·rintro x env N hx ⟨t,rfl⟩ hN
  obtain⟨k,hk,rfl⟩:=a0p.mp hx
  tb_from(c4 (xA (ok k hk).1 (ok k hk).2) ?_)
  unfold kA
  tb_from(eE qA ?_)
  exact hN _ ⟨_,rfl⟩
 ·rw [a3h]
  have:(ks.map PV.int).filterMap (λx=>match x with|.int k=>some (.int (cR bk k).w)|_=>none)=((aU bk ks).map Sr.w).map PV.int:=by
   rw[aU,a3l,a2h,a2h,<- a3u];rfl
  rw[this];exact q
theorem SZ{bk:List Sr}{ks:List Int}{R:PV->Prop}(hl:ks.length<=1000)(ok:∀k∈ks,0<=k/\k<(bk.length:Int))(q:R (.int (mN (aU bk ks)))):fW [eW bk,dF ks] R:=by
 unfold fW
 tb_from(⟨bX (by simpa using hl),?_⟩)
 refine OB ok ?_
 walk_at "w"
 exact FF q
def DE(ss:List Sr)(m:Int):Option (Int×Nat):=if aS ss m=aS ss (m-1) then none else some (m,aS ss m)
def AM(ss:List Sr):List (Int×Nat):=(aP (gX ss)).filterMap (DE ss)
def a75(p:Int×Nat):PV:=.tup [.int p.1,.int p.2]
theorem FY(ss:List Sr):AL ss=(AM ss).map a75:=by
 unfold AL AM
 rw[List.map_filterMap]
 congr 1;funext m
 unfold LM DE
 split<;>rfl
theorem oR {ss:List Sr} {m:Int} {l:Nat}:(m,l)∈AM ss↔m∈aP (gX ss)/\aS ss m≠aS ss (m-1)/\l=aS ss m:=by
 unfold AM
 rw[a4b]
 constructor
 ·rintro ⟨u,hu,e⟩
  unfold DE at e
  split at e
  ·cases e
  ·rename_i h
   cases e
   exact⟨hu,h,rfl⟩
 ·rintro⟨hu,h,rfl⟩
  exact⟨m,hu,by unfold DE;rw[if_neg h]⟩
theorem a1J (ss:List Sr):(AM ss).Pairwise λp q=>p.1<q.1:=by
 unfold AM
 refine List.Pairwise.filterMap (R:=λ(a b:Int)=>a<b) _ (λa b hab p hp q hq=>?_) (gN _)
 unfold DE at hp hq
 split at hp
 ·cases hp
 ·split at hq
  ·cases hq
  ·cases hp;cases hq;exact hab
theorem zU{ss:List Sr}{m:Int}(h:∀s∈ss,¬(s.b<=m/\m<s.e)):aS ss m=0:=by
 unfold aS
 refine List.countP_eq_zero.mpr λs hs=>?_
 rw[fY]
 exact h s hs
theorem ZR{ss:List Sr}{s:Sr}{m:Int}(hs:s∈ss)(h:s.b<=m/\m<s.e):0<aS ss m:=by
 unfold aS
 exact List.countP_pos_iff.mpr ⟨s,hs,fY.mpr h⟩
theorem UR {ss:List Sr} {m y:Int} {l:List Int} (h:(aP (gX ss)).filter (λx=>decide (x<=m))=l++[y]):aS ss m=aS ss y/\y<=m/\y∈aP (gX ss)/\∀v∈aP (gX ss),v<=m->v<=y:=by
 have hp:(l++[y]).Pairwise (· < ·):=by rw[<- h];exact (gN _).sublist List.filter_sublist
 have hm:y∈(aP (gX ss)).filter (λx=>decide (x<=m)):=by rw[h];simp
 have hy:y<=m:=a4i (a2f.mp hm).2
 have top:∀v∈aP (gX ss),v<=m->v<=y:=by
  intro v hv hm
  have:v∈l++[y]:=by rw[<- h];exact a2f.mpr ⟨hv,a1v hm⟩
  rcases a1a.mp this with z|z
  ·have:=(a4l.mp hp).2.2 v z y (by simp);omega
  ·simp at z;omega
 refine⟨uJ λs hs=>lY ?_,hy,(a2f.mp hm).1,top⟩
 have hb:=top s.b (bW.mpr (gH.mpr ⟨s,hs,.inl rfl⟩))
 have he:=top s.e (bW.mpr (gH.mpr ⟨s,hs,.inr rfl⟩))
 constructor<;>constructor<;>intro h<;>omega
theorem UU{ss:List Sr}{m:Int}(h:(aP (gX ss)).filter (λx=>decide (x<=m))=[]):aS ss m=0:=zU λs hs z=>by
 have:=a6f.mp h s.b (bW.mpr (gH.mpr ⟨s,hs,.inl rfl⟩))
 rw[a3k] at this
 exact this z.1
theorem HK (ss:List Sr):∀(n:Nat) (m:Int),((aP (gX ss)).filter λx=>decide (x<=m)).length<=n->(aS ss m=0/\∀p∈AM ss,¬p.1<=m)\/∃m',(m',aS ss m)∈AM ss/\m'<=m/\∀p∈AM ss,p.1<=m->p.1<=m'
 | n,m,hn=>by
  rcases List.eq_nil_or_concat ((aP (gX ss)).filter λx=>decide (x<=m)) with h|⟨l,y,h⟩
  ·refine .inl ⟨UU h,λp hp z=>?_⟩
   have:=a6f.mp h p.1 (oR (l:=p.2).mp hp).1
   rw[a3k] at this
   exact this z
  ·rw [List.concat_eq_append] at h
   obtain⟨e,hy,hu,top⟩:=UR h
   by_cases hs:aS ss y=aS ss (y-1)
   ·
    have hf:((aP (gX ss)).filter λx=>decide (x<=y-1)).length<((aP (gX ss)).filter λx=>decide (x<=m)).length:=by
     have hsub:((aP (gX ss)).filter λx=>decide (x<=y-1))=((aP (gX ss)).filter λx=>decide (x<=m)).filter λx=>decide (x<=y-1):=by
      rw[List.filter_filter]
      refine List.filter_congr λx _=>?_
      by_cases hx:x<=y-1
      ·have:x<=m:=by omega
       simp[hx,this]
      ·simp[hx]
     rw[hsub]
     refine List.length_filter_lt_length_iff_exists.mpr ⟨y,by rw[h];simp,by simp;omega⟩
    match n,hn with
    |0,hn=>omega
    | n+1,hn=>
     have key:∀p∈AM ss,p.1<=m->p.1<=y-1:=λp hp hm=>by
      obtain⟨h1,h2,h3⟩:=oR (l:=p.2).mp hp
      have:=top _ h1 hm
      have:p.1≠y:=λz=>h2 (by rw[z];exact hs)
      omega
     rcases HK ss n (y-1) (by omega) with ⟨z1,z2⟩|⟨m',z1,z2,z3⟩
     ·exact .inl ⟨by rw[e,hs,z1],λp hp hm=>z2 p hp (key p hp hm)⟩
     ·exact .inr ⟨m',by rw[e,hs];exact z1,by omega,λp hp hm=>z3 p hp (key p hp hm)⟩
   ·exact .inr ⟨y,by rw[e];exact oR.mpr ⟨hu,hs,rfl⟩,hy,λp hp hm=>top _ (oR (l:=p.2).mp hp).1 hm⟩
theorem HL(ss:List Sr)(m:Int):(aS ss m=0/\∀p∈AM ss,¬p.1<=m)\/∃m',(m',aS ss m)∈AM ss/\m'<=m/\∀p∈AM ss,p.1<=m->p.1<=m':=HK ss _ m (a0l _)
structure Crowd(ss:List Sr)(G:Nat)(f:Option Int):Prop where
 top:∀m,aS ss m<=G
 non:f=none->G=0
 fst:∀m0,f=some m0->aS ss m0=G/\0<G/\∀m<m0,aS ss m<G
theorem Crowd.none_nil{ss:List Sr}{G:Nat}(h:Crowd ss G none)(lt:∀s∈ss,s.b<s.e):ss=[]:=by
 rw[List.eq_nil_iff_forall_not_mem]
 intro s hs
 have:=ZR hs (m:=s.b) ⟨a4h _,lt s hs⟩
 have:=h.top s.b
 have:=h.non rfl
 omega
def iT:Option Int->PV
 |none=>.non
 |some m=>.int m
def OW(bk:List Sr)(ks:List Int):Option Int->List Int
 |none=>[]
 |some m=>ks.filter λk=>aR (cR bk k) m
structure CrSo(sl:List (Int×Nat))(i:Nat)(g:Nat)(f:Option Int):Prop where
 top:∀j p,j<i->sl[j]? =some p->p.2<=g
 non:f=none->g=0
 fst:∀m0,f=some m0->0<g/\∃j0,j0<i/\sl[j0]? =some (m0,g)/\∀j p,j<j0->sl[j]? =some p->p.2<g
theorem CrSo.crowd {ss:List Sr} {g:Nat} {f:Option Int} (h:CrSo (AM ss) (AM ss).length g f):Crowd ss g f:=by
 have at_:∀ {p:Int×Nat},p∈AM ss->∃j,j<(AM ss).length/\(AM ss)[j]? =some p:=λhp=>by
  obtain⟨j,hj,e⟩:=a2j hp
  exact⟨j,hj,by rw[a0a hj,e]⟩
 refine⟨λm=>?_,h.non,λm0 e=>?_⟩
 ·rcases HL ss m with ⟨z,_⟩|⟨m',hp,_⟩
  ·omega
  ·obtain⟨j,hj,e⟩:=at_ hp
   exact h.top j _ hj e
 ·obtain ⟨g0,j0,hj0,ej0,bef⟩:=h.fst m0 e
  have hm0:=oR.mp (a0u ej0)
  refine⟨hm0.2.2.symm,g0,λm hm=>?_⟩
  rcases HL ss m with ⟨z,_⟩|⟨m',hp,hle,_⟩
  ·omega
  ·obtain ⟨j,hj,ej⟩:=at_ hp
   refine bef j _ ?_ ej
   refine a5i λhle2=>?_
   rcases a4u hle2 with z|z
   ·subst z;rw[ej0] at ej;cases ej;omega
   ·have:=(a3d.mp (a1J ss)) j0 j hj0 hj z
    rw[(a0j.mp ej0).2,(a0j.mp ej).2] at this
    dsimp only at this
    omega
theorem CrSo.grow {sl:List (Int×Nat)} {i g l:Nat} {m:Int} {f:Option Int} (h:CrSo sl i g f) (e:sl[i]? =some (m,l)) (hl:g<l):CrSo sl (i+1) l (some m):=by
 refine⟨λj p hj ej=>?_,λz=>(by cases z),λm0 z=>?_⟩
 ·rcases a4u (Nat.le_of_lt_succ hj) with z|z
  ·subst z;rw[e] at ej;cases ej;exact a0l _
  ·have:=h.top j p z ej;omega
 ·cases z
  refine⟨by omega,i,by omega,e,λj p hj ej=>?_⟩
  have:=h.top j p hj ej;omega
theorem CrSo.stay {sl:List (Int×Nat)} {i g l:Nat} {m:Int} {f:Option Int} (h:CrSo sl i g f) (e:sl[i]? =some (m,l)) (hl:¬g<l):CrSo sl (i+1) g f:=by
 refine⟨λj p hj ej=>?_,h.non,λm0 z=>?_⟩
 ·rcases a4u (Nat.le_of_lt_succ hj) with z|z
  ·subst z;rw[e] at ej;cases ej;show l<=g;omega
  ·exact h.top j p z ej
 ·obtain⟨g0,j0,h1,h2,h3⟩:=h.fst m0 z
  exact⟨g0,j0,by omega,h2,h3⟩
theorem ED {bk:List Sr} {ks:List Int} {R:PV->Prop} (hl:ks.length<=31) (ok:∀k∈ks,0<=k/\k<(bk.length:Int)) (lt:∀s∈aU bk ks,s.b<s.e)
  (q:∀G f,Crowd (aU bk ks) G f->R (.tup [.int (G:Nat),iT f,dF (OW bk ks f)])):fQ [eW bk,dF ks] R:=by
 unfold fQ
 tb_from(⟨rfl,?_⟩)
 tb_from(EF hl ok ?_)
 rw[FY]
 walk_at "w"
 refine cB (λi env=>∃(g:Nat) (f:Option Int) (t4 t5:Option PV),env=[some (eW bk),some (dF ks),some (.int g),some (iT f),t4,t5]/\CrSo (AM (aU bk ks)) i g f)
  ⟨0,none,none,none,rfl,⟨λj p hj _=>absurd hj (Nat.not_lt_zero j),λ_=>rfl,λ_ z=>(by cases z)⟩⟩ ?_ ?_
 ·rintro i x env N hx ⟨g,f,t4,t5,rfl,hc⟩ hN
  rw[a0g,a0r] at hx
  obtain⟨⟨m,l⟩,hp,rfl⟩:=hx
  unfold a75
  tb_from(⟨rfl,?_⟩)
  tb_from(gW (λh=>?_) (λh=>?_))
  ·tb_from(⟨rfl,?_⟩)
   exact hN _ ⟨l,some m,_,_,rfl,hc.grow hp (by omega)⟩
  ·exact hN _ ⟨g,f,_,_,rfl,hc.stay hp (by omega)⟩
 ·rintro env ⟨g,f,t4,t5,rfl,hc⟩
  rw[a0d] at hc
  have cr:=hc.crowd
  walk_at "w"
  refine⟨bX (by rw[a0d];omega),?_⟩
  cases f with
  | none=>
   have hn:=cr.none_nil lt
   have hk:ks=[]:=by
    unfold aU at hn
    exact List.map_eq_nil_iff.mp hn
   subst hk
   exact⟨rfl,q g none cr⟩
  | some m=>
   refine iJ (λx=>match x with|.int k=>if aR (cR bk k) m then some (PV.int k) else none|_=>none) (λenv=>∃t,env=[t,some (.int m),some (eW bk)]) ⟨_,rfl⟩ ?_ ?_
   ·rintro x env N hx ⟨t,rfl⟩ hN
    obtain⟨k,hk,rfl⟩:=a0p.mp hx
    tb_from(c4 (xA (ok k hk).1 (ok k hk).2) ?_)
    tb_from(qC ?_)
    walk_at "w"
    have hN:=hN [some (.int k),some (.int m),some (eW bk)] ⟨_,rfl⟩
    dsimp only at hN
    refine X8 (λh=>?_) (λh=>?_)
    ·rw[if_pos h] at hN;exact hN
    ·rw[if_neg (by rw[h];exact a0i)] at hN;exact hN
   ·have e1:(ks.map PV.int).filterMap (λx=>match x with|.int k=>if aR (cR bk k) m then some (PV.int k) else none|_=>none)=(OW bk ks (some m)).map PV.int:=by
     unfold OW
     rw[a3l,<- a3u,a6i]
     rfl
    rw[a3h,e1]
    exact⟨qH _,q g (some m) cr⟩
theorem v8{bk:List Sr}{ks:List Int}(ok:∀k∈ks,0<=k/\k<(bk.length:Int)){s:Sr}(h:s∈aU bk ks):s∈bk:=by
 obtain⟨k,hk,rfl⟩:=a0p.mp h
 obtain⟨h0,h1⟩:=ok k hk
 refine a0u (i:=k.toNat) ?_
 unfold cR
 rw[a0a (by omega)];rfl
abbrev Pr:=Int×Int
def CN(p:Pr):PV:=.tup [.int p.1,.int p.2]
abbrev d7(pp:List Pr):PV:=.lst (pp.map CN)
theorem u9(pp:List Pr):PV.flats (pp.map CN)=true:=PV.flats_of λx h=>by obtain⟨s,_,rfl⟩:=a0p.mp h;rfl
theorem T9(p:Pr):(CN p).dep<=1:=zK (n:=0) λx h=>by
 simp only[a0q,a1e,a3j] at h
 rcases h with rfl|rfl<;>(rw[mQ];exact a0l _)
theorem u5(pp:List Pr):(d7 pp).dep<=2:=oM (n:=1) λx h=>by obtain⟨k,_,rfl⟩:=a0p.mp h;exact T9 k
def JY(kv:List Pr):PV:=.dic (kv.map λp=>.inl p.1) (kv.map λp=>.int p.2)
def UK(kv:List Pr)(m v:Int):List Pr:=if (kv.any λp=>decide (p.1=m))=true then kv.map (λp=>if p.1=m then (p.1,v) else p) else kv++[(m,v)]
theorem UI(kv:List Pr)(m:Int):kIn (kv.map λp=>(.inl p.1:bA)) (.inl m)=kv.any λp=>decide (p.1=m):=by
 unfold kIn
 rw[List.any_map]
 congr 1;funext p
 show decide ((Sum.inl p.1:bA)= .inl m)=_
 by_cases h:p.1=m
 ·simp[h]
 ·simp[h]
theorem p7 (kv:List Pr) (m v:Int):PV.dic (K1 (kv.map λp=>.inl p.1) (.inl m)) (DO (kv.map λp=>.inl p.1) (kv.map λp=>PV.int p.2) (.inl m) (.int v))=JY (UK kv m v):=by
 unfold K1 DO JY UK
 rw[UI]
 cases (kv.any λp=>decide (p.1=m)) with
 | true=>
  rw[if_pos rfl]
  dsimp only
  congr 1
  ·rw[a2h]
   refine a6s λp _=>?_
   show _=Sum.inl (if p.1=m then (p.1,v) else p).1
   split<;>rfl
  ·rw [a2h,List.zip_map,a2h]
   have:kv.zip kv=kv.map λp=>(p,p):=by
    induction kv with
    |nil=>rfl
    |cons a l ih=>rw[a2x,ih];rfl
   rw[this,a2h]
   refine a6s λp _=>?_
   show (if (Sum.inl p.1:bA)= .inl m then PV.int v else PV.int p.2)=PV.int (if p.1=m then (p.1,v) else p).2
   by_cases h:p.1=m
   ·rw[if_pos h,if_pos (by rw[h])]
   ·rw[if_neg h,if_neg (λz=>h (by injection z))]
 | false=>
  rw[if_neg a0i]
  simp
def EW(kv:List Pr)(m:Int):Option Int:=(kv.find? λp=>decide (p.1=m)).map (·.2)
theorem HD (kv:List Pr) (m:Int):DN (kv.map λp=>(.inl p.1:bA)) (kv.map λp=>PV.int p.2) (.inl m)=(EW kv m).map PV.int:=by
 unfold DN EW
 induction kv with
 |nil=>rfl
 | cons p kv ih=>
  rw[a0h,a0h,a2x,a2p,a2p]
  by_cases h:p.1=m
  ·rw[a1v (show (Sum.inl p.1:bA)= .inl m by rw[h]),a1v h];rfl
  ·rw[a1c (show ¬(Sum.inl p.1:bA)= .inl m from λz=>h (by injection z)),a1c h];exact ih
structure KvOk(kv:List Pr)(P:Int->Int->Prop)(n:Nat):Prop where
 nd:(kv.map (·.1)).Nodup
 at_:∀p∈kv,P p.1 p.2
 len:kv.length<=n
theorem KvOk.nil{P:Int->Int->Prop}:KvOk [] P 0:=⟨by simp,λp h=>(by cases h),a0l _⟩
theorem KvOk.put {kv:List Pr} {P:Int->Int->Prop} {n:Nat} (h:KvOk kv P n) {m v:Int} (hP:P m v):KvOk (UK kv m v) P (n+1):=by
 unfold UK
 split
 ·refine ⟨?_,λp hp=>?_,by rw[a0d];have:=h.len;omega⟩
  ·have:(kv.map λp=>if p.1=m then (p.1,v) else p).map (·.1)=kv.map (·.1):=by
    rw[a2h]
    refine a6s λp _=>?_
    show (if p.1=m then (p.1,v) else p).1=p.1
    split<;>rfl
   rw[this];exact h.nd
  ·obtain⟨q,hq,rfl⟩:=a0p.mp hp
   by_cases e:q.1=m
   ·rw[if_pos e,e];exact hP
   ·rw[if_neg e];exact h.at_ q hq
 ·rename_i hn
  refine⟨?_,λp hp=>?_,by rw[a1r,a6g];have:=h.len;omega⟩
  ·rw[a1m,a7f]
   refine⟨h.nd,by simp,λa ha b hb z=>hn ?_⟩
   obtain⟨p,hp,rfl⟩:=a0p.mp ha
   simp at hb
   exact a6e.mpr ⟨p,hp,by rw[z,hb];simp⟩
  ·rcases a1a.mp hp with z|z
   ·exact h.at_ p z
   ·simp at z;subst z;exact hP
theorem uI {kv:List Pr} {m:Int} (h:m∈kv.map (·.1)):∃v,EW kv m=some v/\(m,v)∈kv:=by
 unfold EW
 cases e:kv.find? λp=>decide (p.1=m) with
 | none=>
  rw[a7b] at e
  obtain⟨p,hp,rfl⟩:=a0p.mp h
  exact absurd (by simp) (e p hp)
 | some p=>
  have h1:=List.find?_some e
  have h2:=List.mem_of_find?_eq_some e
  rw[a3k] at h1
  exact⟨p.2,rfl,by rw[<- h1];exact h2⟩
structure PpOk(pp:List Pr)(P:Int->Int->Prop)(n:Nat):Prop where
 lt:pp.Pairwise λa b=>a.1<b.1
 at_:∀p∈pp,P p.1 p.2
 len:pp.length<=n
def qI(kv:List Pr):List Pr:=(l8 (kv.map (·.1))).map λm=>(m,(EW kv m).getD 0)
theorem KvOk.sort {kv:List Pr} {P:Int->Int->Prop} {n:Nat} (h:KvOk kv P n):PpOk (qI kv) P n:=by
 have nd:(l8 (kv.map (·.1))).Nodup:=(cL _).nodup_iff.mpr h.nd
 have lt:(l8 (kv.map (·.1))).Pairwise (· < ·):=((kJ _).and nd).imp fun {x y} ⟨h1,h2⟩=>by omega
 refine⟨?_,λp hp=>?_,?_⟩
 ·unfold qI;rw[a3q];exact lt.imp λh=>h
 ·obtain⟨m,hm,rfl⟩:=a0p.mp hp
  obtain⟨v,e,hv⟩:=uI ((cL _).mem_iff.mp hm)
  rw[e];exact h.at_ (m,v) hv
 ·unfold qI;rw[a0d,(cL _).length_eq,a0d];exact h.len
theorem xQ {kv:List Pr} {Q:PV->Prop} {e1:Option PV} (q:Q (d7 (qI kv))) :
  kN (RD.aG 0) RD.dI (RD.dD (RD.a8 (RD.a9 0) (RD.a8 (RD.aQ jT (RD.a9 1) (RD.a9 0)) RD.aF))) Q ((l8 (kv.map (·.1))).map PV.int) [] [e1,some (JY kv)]:=by
 refine iJ (λx=>match x with|.int m=>some (CN (m,(EW kv m).getD 0))|_=>none) (λenv=>∃t,env=[t,some (JY kv)]) ⟨e1,rfl⟩ ?_ ?_
 ·rintro x env N hx ⟨t,rfl⟩ hN
  obtain⟨m,hm,rfl⟩:=a0p.mp hx
  obtain⟨v,e,hv⟩:=uI ((cL _).mem_iff.mp hm)
  have hN:=hN [some (.int m),some (JY kv)] ⟨_,rfl⟩
  dsimp only at hN
  rw[e] at hN
  walk_at "w"
  show jT (JY kv) (.int m) _
  unfold jT JY
  dsimp only
  rw[HD,e]
  exact hN
 ·rw [a3h]
  have:((l8 (kv.map (·.1))).map PV.int).filterMap (λx=>match x with|.int m=>some (CN (m,(EW kv m).getD 0))|_=>none)=(qI kv).map CN:=by
   unfold qI
   generalize l8 (kv.map (·.1))=ms
   rw[a3l,a2h,<- a3u];rfl
  rw[this];exact q
theorem uS{kv:List Pr}{Q:PV->Prop}(hl:kv.length<64)(q:Q (.lst ((l8 (kv.map (·.1))).map PV.int))):iM [JY kv] Q:=by
 unfold iM JY
 dsimp only
 have:kv.map (λp=>(.inl p.1:bA))=(kv.map (·.1)).map Sum.inl:=by rw[a2h];rfl
 rw[this,KN]
 exact⟨by rw[a0d];exact hl,q⟩
structure PcOk(m v:Int):Prop where
 m0:-1000000000000<=m
 m1:m<1000000000000
 v0:1<=v
 v1:v<=1000000000000
theorem JL {bk:List Sr} {n:Nat} {R:PV->Prop} (hb:BkOk bk n) (hl:bk.length<=100) (q:∀pp,PpOk pp PcOk 5->R (d7 pp)):fR [.st,eW bk] R:=by
  unfold fR
  tb_from(⟨⟨by decide,by decide,by decide⟩,?_⟩)
  tb_from(⟨⟨by decide,by decide,by decide⟩,?_⟩)
  walk_at "w"
  refine cB (λi env=>∃(ms:List Int) (t3 t4 t5 t6:Option PV),env=[some .st,some (eW bk),some (dF ms),t3,t4,t5,t6,none,none,none]/\ms.length=4+2*i/\∀m∈ms,-1000000000000<=m/\m<1000000000000)
    ⟨[0,1,-(10^(12:Int).toNat),10^(12:Int).toNat-1],none,none,none,none,rfl,rfl,λm hm=>by
      simp only[a0q,a1e,a3j] at hm
      rcases hm with rfl|rfl|rfl|rfl<;>decide⟩ ?_ ?_
  · rintro i x env N hx ⟨ms,t3,t4,t5,t6,rfl,hml,hms⟩ hN
    rw[a0g,a0r] at hx
    obtain⟨s,hs,rfl⟩:=hx
    have so:=hb.at_ _ _ hs
    have hi:=(a0j.mp hs).1
    show RD.bV 4 _ (.tup [.str s.nm,.int s.b,.int s.e,.int s.w]) _ _
    tb_from(⟨rfl,?_⟩)
    walk_at "w"
    refine⟨bX (by simp;omega),?_⟩
    refine hN _ ⟨ms++[s.b,s.e-1],some (.str s.nm),some (.int s.b),some (.int s.e),some (.int s.w),by simp,by simp;omega,λm hm=>?_⟩
    have:=so.lt
    have:=so.b0
    have:=so.e1
    rcases a1a.mp hm with z|z
    · exact hms m z
    · simp at z;omega
  · rintro env ⟨ms,t3,t4,t5,t6,rfl,hml,hms⟩
    rw[a0d] at hml
    tb_from(⟨by decide,by decide,λr r0 r1=>?_⟩)
    tb_from(⟨by omega,by omega,?_⟩)
    refine cB (λi env=>∃(kv:List Pr) (t8 t9:Option PV),env=[some .st,some (eW bk),some (dF ms),t3,t4,t5,t6,some (JY kv),t8,t9]/\KvOk kv PcOk i) ⟨[],none,none,rfl,.nil⟩ ?_ ?_
    · rintro i x env N hx ⟨kv,t8,t9,rfl,hk⟩ hN
      obtain⟨rfl,hi⟩:=dG hx
      have hkl:=hk.len
      walk_at "w"
      refine⟨by rw[a0d];omega,by rw[a0d];omega,λr2 r20 r21=>?_⟩
      rw[a0d] at r21
      refine f6 (P:=λm=>-1000000000000<=m/\m<1000000000000) r20 r21 hms λm hm=>?_
      tb_from(⟨⟨by decide,by decide,by decide⟩,?_⟩)
      tb_from(⟨by decide,by decide,λr3 r30 r31=>?_⟩)
      tb_from(f6 (ns:=[3,10,60,10^(12:Int).toNat]) (P:=λx=>0<x/\x<=1000000000000) r30 r31 (OL (by omega) (by omega) (by omega) (by decide)) λtop htop=>?_)
      walk_at "w"
      refine ⟨by omega, by have : (1000000000000 : Int)<2^250:=by decide
                           omega,λr4 r40 r41=>?_⟩
      walk_at "w"
      refine⟨by rw[a0d];omega,?_⟩
      rw[p7]
      exact hN _ ⟨_,_,_,rfl,hk.put ⟨hm.1,hm.2,by omega,by omega⟩⟩
    · rintro env ⟨kv,t8,t9,rfl,hk⟩
      rw[bQ] at hk
      have hkl:=hk.len
      tb_from(uS (by omega) ?_)
      walk_at "w"
      refine⟨bX (by rw[a0d,(cL _).length_eq,a0d];omega),?_⟩
      refine xQ ?_
      have so:=hk.sort
      exact q _ ⟨so.lt,so.at_,by have:=so.len;omega⟩
def cZ(s:Sr)(pp:List Pr):Int:=((pp.filter λp=>aR s p.1).map (·.2)).sum
def gQ(s:Sr)(pp:List Pr):Int:=max 0 (s.w-cZ s pp)
def tJ(bk:List Sr)(pp:List Pr):Int:=(bk.map λs=>gQ s pp).sum
theorem BZ{s:Sr}{pp:List Pr}:(pp.map CN).filterMap (λx=>match x with|.tup [.int m,.int v]=>if aR s m then some (PV.int v) else none|_=>none)=((pp.filter λp=>aR s p.1).map (·.2)).map PV.int:=by
 rw[a3l,a2h,<- a3u,a6i]
 rfl
theorem xE {s:Sr} {pp:List Pr} {R:PV->Prop} (hl:pp.length<=1000) (q:R (.int (cZ s pp))):fV [kA s,d7 pp] R:=by
 unfold fV
 walk_at "w"
 refine⟨bX (by rw[a0d];omega),?_⟩
 refine iJ (λx=>match x with|.tup [.int m,.int v]=>if aR s m then some (PV.int v) else none|_=>none) (λenv=>∃t1 t2,env=[t1,t2,some (kA s)]) ⟨_,_,rfl⟩ ?_ ?_
 ·rintro x env N hx ⟨t1,t2,rfl⟩ hN
  obtain⟨⟨m,v⟩,hp,rfl⟩:=a0p.mp hx
  have hN:=hN [some (.int m),some (.int v),some (kA s)] ⟨_,_,rfl⟩
  unfold CN at hN
  dsimp only at hN
  show RD.bV 2 _ (.tup [.int m,.int v]) _ _
  tb_from(⟨rfl,?_⟩)
  tb_from(qC ?_)
  tb_from(X8 (λh=>?_) (λh=>?_))
  ·rw[if_pos h] at hN;exact hN
  ·rw[if_neg (by rw[h];exact a0i)] at hN;exact hN
 ·rw[a3h,BZ]
  exact FF q
theorem JN{s:Sr}{pp:List Pr}{R:PV->Prop}(hl:pp.length<=1000)(q:R (.int (gQ s pp))):i6 [kA s,d7 pp] R:=by
 unfold i6
 have e:cV (kA s) (.int 3)=λQ=>cV (kA s) (.int 3) Q:=rfl
 tb_from(eE (xs:=[.str s.nm,.int s.b,.int s.e,.int s.w]) qA ?_)
 tb_from(xE hl ?_)
 exact q
theorem B8 {s:Sr} {pp:List Pr} {R:PV->Prop} (hl:pp.length<=1000) (q:R (.int (cZ s pp))):iG [kA s,d7 pp] R:=by
 unfold iG
 walk_at "w"
 refine⟨bX (by rw[a0d];omega),?_⟩
 refine iJ (λx=>match x with|.tup [.int m,.int v]=>if aR s m then some (PV.int v) else none|_=>none) (λenv=>∃t1 t2,env=[t1,t2,some (kA s)]) ⟨_,_,rfl⟩ ?_ ?_
 ·rintro x env N hx ⟨t1,t2,rfl⟩ hN
  obtain⟨⟨m,v⟩,hp,rfl⟩:=a0p.mp hx
  have hN:=hN [some (.int m),some (.int v),some (kA s)] ⟨_,_,rfl⟩
  unfold CN aR at hN
  dsimp only at hN
  show RD.bV 2 _ (.tup [.int m,.int v]) _ _
  tb_from(⟨rfl,?_⟩)
  unfold kA at hN ⊢
  tb_from(eE iB ?_)
  tb_from(gW (λh1=>?_) (λh1=>?_))
  ·rw[a1v h1,Bool.true_and] at hN
   tb_from(eE nU ?_)
   tb_from(gW (λh2=>?_) (λh2=>?_))
   ·rw[a1v h2] at hN;exact hN
   ·rw[a1c h2] at hN;exact hN
  ·rw[a1c h1,a6p] at hN;exact hN
 ·rw[a3h,BZ]
  exact FF q
end Lib
namespace L2
open PySem
theorem BL(xs:List PV):(PV.lst xs).eqB (.lst [])=xs.isEmpty:=by
 cases xs with
 |nil=>exact eqB_self _
 |cons a l=>exact eqB_len (by simp)
theorem T8:(PV.lst []).dep<=1:=oM (n:=0) λx h=>(by cases h)
end L2
namespace Lib
open PySem L2
theorem Crowd.le_of{ss:List Sr}{G:Nat}{f:Option Int}(h:Crowd ss G f){b:Nat}(hb:∀m,aS ss m<=b):G<=b:=by
 cases f with
 |none=>rw[h.non rfl];omega
 |some m=>rw[<- (h.fst m rfl).1];exact hb m
theorem KS {ms:List Int} {P:Int->Prop} [DecidablePred P]:(∀x∈ms,¬P x)\/∃x∈ms,P x/\∀y∈ms,P y->y<=x:=by
 induction ms with
 |nil=>exact .inl λx hx=>(by cases hx)
 | cons a ms ih=>
  by_cases ha:P a
  ·rcases ih with h|⟨x,hx,px,top⟩
   ·refine .inr ⟨a,a0m,ha,λy hy py=>?_⟩
    rcases a0q.mp hy with z|z
    ·omega
    ·exact absurd py (h y z)
   ·by_cases hax:a<=x
    ·refine .inr ⟨x,a0k _ hx,px,λy hy py=>?_⟩
     rcases a0q.mp hy with z|z
     ·omega
     ·exact top y z py
    ·refine .inr ⟨a,a0m,ha,λy hy py=>?_⟩
     rcases a0q.mp hy with z|z
     ·omega
     ·have:=top y z py;omega
  ·rcases ih with h|⟨x,hx,px,top⟩
   ·refine .inl λy hy=>?_
    rcases a0q.mp hy with z|z
    ·rw[z];exact ha
    ·exact h y z
   ·refine .inr ⟨x,a0k _ hx,px,λy hy py=>?_⟩
    rcases a0q.mp hy with z|z
    ·rw[z] at py;exact absurd py ha
    ·exact top y z py
theorem oD (ss:List Sr):∀pp:List Pr,(ss.map λs=>cZ s pp).sum=(pp.map λp=>p.2*(aS ss p.1:Int)).sum
 | []=>by
  have:∀s,cZ s []=0:=λs=>rfl
  simp only[this,a5w,List.sum_nil]
  induction ss with
  |nil=>rfl
  |cons a l ih=>rw[a0h,a0s,ih];rfl
 | p::pp=>by
  have ih:=oD ss pp
  rw[a0h,a0s,<- ih]
  clear ih
  induction ss with
  |nil=>simp[aS]
  | cons s ss ih=>
   rw[a0h,a0s,a0h,a0s,ih]
   unfold aS cZ
   rw[List.countP_cons,a1t]
   by_cases h:aR s p.1=true
   ·rw[if_pos h,if_pos h,a0h,a0s]
    rw[show ((List.countP (λs=>aR s p.1) ss+1:Nat):Int)=(List.countP (λs=>aR s p.1) ss:Int)+1 by omega,Int.mul_add]
    omega
   ·rw[if_neg h,if_neg h,Nat.add_zero]
    omega
theorem IM(s:Sr)(pp:List Pr):0<=gQ s pp:=by unfold gQ;omega
theorem kR {bk:List Sr} {pp:List Pr}:∀(n:Nat) (ks:List Int),SmOk ks n->n<=bk.length->((aU bk ks).map λs=>gQ s pp).sum<=((bk.take n).map λs=>gQ s pp).sum
 | 0,ks,h,_=>by
  have:ks=[]:=a3p.mp (by have:=h.len;omega)
  subst this;simp[aU]
 | n +1,ks,h,hn=>by
  have es:bk[n]? =some (cR bk n):=by unfold cR;rw[a1p,a0a (by omega)];rfl
  rw[a1o,es,a1m,List.sum_append]
  rcases List.eq_nil_or_concat ks with z|⟨l,k,z⟩
  ·subst z
   have:=kR (bk:=bk) (pp:=pp) n [] ⟨.nil,by simp⟩ (by omega)
   have:=IM (cR bk n) pp
   simp[aU] at*
   omega
  ·rw [List.concat_eq_append] at z
   subst z
   have hp:=a4l.mp h.lt
   have hk:=h.at_ k (by simp)
   have lt:∀j∈l,j<k:=λj hj=>hp.2.2 j hj k (by simp)
   by_cases e:k=n
   ·subst e
    have:=kR (bk:=bk) (pp:=pp) n l ⟨hp.1,λj hj=>⟨(h.at_ j (by simp[hj])).1,lt j hj⟩⟩ (by omega)
    simp[aU] at*
    omega
   ·have:=kR (bk:=bk) (pp:=pp) n (l++[k]) ⟨h.lt,λj hj=>⟨(h.at_ j hj).1,by
     rcases a1a.mp hj with z|z
     ·have:=lt j z;omega
     ·simp at z;omega⟩⟩ (by omega)
    have:=IM (cR bk n) pp
    simp[aU] at*
    omega
theorem a52 (ss:List Sr) (pp:List Pr):mN ss<=(ss.map λs=>cZ s pp).sum+(ss.map λs=>gQ s pp).sum:=by
 unfold mN
 induction ss with
 |nil=>simp
 | cons s ss ih=>
  rw[a0h,a0s,a0h,a0s,a0h,a0s]
  have:s.w<=cZ s pp+gQ s pp:=by unfold gQ;omega
  omega
def gP(bk:List Sr)(b:Int)(pp:List Pr):Int:=(pp.map (·.2)).sum*b+tJ bk pp
theorem OQ {bk:List Sr} {b:Int} {pp:List Pr} {ks:List Int} (hk:SmOk ks bk.length) (h:∀m,(aS (aU bk ks) m:Int)<=b) (hp:∀p∈pp,0<=p.2):mN (aU bk ks)<=gP bk b pp:=by
 have h1:=a52 (aU bk ks) pp
 rw[oD] at h1
 have h2:=kR (bk:=bk) (pp:=pp) bk.length ks hk (a0l _)
 rw[a1y] at h2
 have h3:(pp.map λp=>p.2*(aS (aU bk ks) p.1:Int)).sum<=(pp.map (·.2)).sum*b:=by
  clear h1 h2
  induction pp with
  |nil=>simp
  | cons p pp ih=>
   rw[a0h,a0s,a0h,a0s,Int.add_mul]
   have a1:=ih λq hq=>hp q (a0k _ hq)
   have a2:=Int.mul_le_mul_of_nonneg_left (h p.1) (hp p a0m)
   omega
 unfold gP tJ
 omega
theorem UP {bk:List Sr} {Q:PV->Prop} {e1:Option PV} {j:Int} {g:Sr->Int} (hj:∀(s:Sr) (R:PV->Prop),R (.int (g s))->cV (kA s) (.int j) R) (q:Q (dF (bk.map g))) :
  kN (RD.aG 0) RD.dI (RD.aQ cV (RD.a9 0) (RD.pC (PV.int j))) Q (bk.map kA) [] [e1]:=by
 refine kK (λi acc env=>acc=((bk.take i).map g).map PV.int/\∃t,env=[t]) ⟨rfl,_,rfl⟩ ?_ ?_
 ·rintro i x acc env N hx ⟨rfl,t,rfl⟩ hN
  rw[a0g,a0r] at hx
  obtain⟨s,hs,rfl⟩:=hx
  tb_from(hj _ _ ?_)
  refine hN _ _ ⟨?_,_,rfl⟩
  rw[a1o,hs];simp
 ·rintro acc env ⟨rfl,t,rfl⟩
  rw[a0d,a1y];exact q
theorem UO {bk:List Sr} {Q:PV->Prop} {e1:Option PV} (q:Q (dF (bk.map λs=>s.e-1))) :
  kN (RD.aG 0) RD.dI (RD.aQ RD.gM (RD.aQ cV (RD.a9 0) (RD.pC (PV.int 2))) (RD.pC (.int 1))) Q (bk.map kA) [] [e1]:=by
 refine kK (λi acc env=>acc=((bk.take i).map λs=>s.e-1).map PV.int/\∃t,env=[t]) ⟨rfl,_,rfl⟩ ?_ ?_
 ·rintro i x acc env N hx ⟨rfl,t,rfl⟩ hN
  rw[a0g,a0r] at hx
  obtain⟨s,hs,rfl⟩:=hx
  tb_from(eE (xs:=[.str s.nm,.int s.b,.int s.e,.int s.w]) nU ?_)
  tb_from(hN _ _ ⟨?_,_,rfl⟩)
  rw[a1o,hs];simp
 ·rintro acc env ⟨rfl,t,rfl⟩
  rw[a0d,a1y];exact q
theorem OY {pp:List Pr} {Q:PV->Prop} (nd:(pp.map (·.1)).Nodup) (hl:pp.length<=1000) (q:Q (JY pp)):uM [d7 pp] Q:=by
 unfold uM
 refine⟨pp.map λp=>(.inl p.1,.int p.2),?_,?_,by rw[a0d];exact hl,?_⟩
 ·rw[a2h];rfl
 ·rw[a2h]
  have:pp.map ((λp:bA×PV=>p.1)∘λp=>((.inl p.1:bA),PV.int p.2))=(pp.map (·.1)).map Sum.inl:=by rw[a2h];rfl
  rw[this]
  exact List.Pairwise.map _ (λa b h z=>h (by injection z)) nd
 ·rw[a2h,a2h];exact q
theorem PpOk.kv{pp:List Pr}{P:Int->Int->Prop}{n:Nat}(h:PpOk pp P n):KvOk pp P n:=⟨by
 rw[a5s,a3q]
 exact h.lt.imp λh=>by omega,h.at_,h.len⟩
theorem YB(ks:List Int):PV.deps (ks.map PV.int)<=60:=a0y (PV.deps_of (n:=0) λx h=>by obtain⟨k,_,rfl⟩:=a0p.mp h;rw[mQ];exact a0l _) (by decide)
theorem P3{ms:List Int}{m:Int}{Q:PV->Prop}(q:Q (.bl (!decide (m∈ms)))):P1 (.int m) (dF ms) Q:=by
 unfold P1
 refine⟨by rw[mQ];decide,YB _,?_⟩
 rw[GJ];exact q
structure Rd where
 u:Nat
 v:Nat
 g:Int
 k:Option Int
 deriving DecidableEq
abbrev Gs:=List (Option Int)
abbrev Ls:=List (Option Rd)
def gt{α:Type}(l:List (Option α))(v:Nat):Option α:=l.getD v none
theorem uD {α:Type} {l:List (Option α)} {v w:Nat} {x:Option α} (hv:v<l.length):gt (l.set v x) w=if w=v then x else gt l w:=by
 unfold gt
 rw[a0c,a0c,a2m]
 by_cases h:w=v
 ·subst h;simp[hv]
 ·have h':¬v=w:=λz=>h z.symm
  simp[h,h']
def sE(φ:Nat->Int)(rs:List Rd):Prop:=∀r∈rs,φ r.u+r.g<=φ r.v
inductive Ch(ls:Ls)(st:Nat):Nat->Nat->Prop where
 |base:Ch ls st 0 st
 |step {k v:Nat} {r:Rd}:gt ls v=some r->Ch ls st k r.u->Ch ls st (k+1) v
def EK(gs:Gs):Nat:=gs.countP Option.isSome
structure GI(φ:Nat->Int)(rs:List Rd)(n st:Nat)(Gm:Int)(gs:Gs)(ls:Ls):Prop where
 lg:gs.length=n
 ll:ls.length=n
 st0:gt gs st=some 0
 stl:gt ls st=none
 ub:∀v b,gt gs v=some b->b<=φ v-φ st
 lb:∀v b,gt gs v=some b->-((EK gs:Int)*Gm)<=b
 las:∀v r,gt ls v=some r->r∈rs/\r.v=v/\∃a b,gt gs r.u=some a/\gt gs v=some b/\b<=a+r.g
 has:∀v b,gt gs v=some b->v=st\/∃r,gt ls v=some r
 ch:∀v b,gt gs v=some b->∃k,Ch ls st k v
section
variable{φ:Nat->Int}{rs:List Rd}{n st:Nat}{Gm:Int}{gs:Gs}{ls:Ls}
structure Bet(gs:Gs)(r:Rd)(a:Int):Prop where
 fr:gt gs r.u=some a
 up:∀b,gt gs r.v=some b->b<a+r.g
theorem a2O (h:GI φ rs n st Gm gs ls) (hF:sE φ rs) {v:Nat} {x:Option Rd} (hv:v<n) (hvs:v≠st):∀(k u:Nat) (a:Int),Ch ls st k u->gt gs u=some a->Ch (ls.set v x) st k u\/∃b,gt gs v=some b/\a<=b+φ u-φ v:=by
 intro k
 induction k with
 | zero=>
  intro u a hc ha
  cases hc
  exact .inl .base
 | succ k ih=>
  intro u a hc ha
  cases hc with
  | step e c=>
   rename_i r
   by_cases huv:u=v
   ·subst huv
    exact .inr ⟨a,ha,by omega⟩
   ·obtain ⟨hr,hrv,a',b',e1,e2,e3⟩:=h.las u r e
    rw[ha] at e2
    cases e2
    rcases ih r.u a' c e1 with z|⟨b,z1,z2⟩
    ·refine .inl (.step (r:=r) ?_ z)
     rw[uD (by rw[h.ll];exact hv),if_neg huv];exact e
    ·have:=hF r hr
     rw[hrv] at this
     exact .inr ⟨b,z1,by omega⟩
theorem GI.step (h:GI φ rs n st Gm gs ls) (hF:sE φ rs) (hG:∀r∈rs,-Gm<=r.g) (G0:0<=Gm) {r:Rd} {a:Int} (hr:r∈rs) (hb:Bet gs r a) (hu:r.u<n) (hv:r.v<n):GI φ rs n st Gm (gs.set r.v (some (a+r.g))) (ls.set r.v (some r)):=by
 have fr:=hF r hr
 have ua:=h.ub r.u a hb.fr
 have hvs:r.v≠st:=λz=>by
  have:=hb.up 0 (by rw[z];exact h.st0)
  rw[z] at fr
  omega
 have huv:r.u≠r.v:=λz=>by
  have:=hb.up a (by rw[<- z];exact hb.fr)
  rw[z] at fr
  omega
 have gg:∀w,gt (gs.set r.v (some (a+r.g))) w=if w=r.v then some (a+r.g) else gt gs w:=λw=>uD (by rw[h.lg];exact hv)
 have gl:∀w,gt (ls.set r.v (some r)) w=if w=r.v then some r else gt ls w:=λw=>uD (by rw[h.ll];exact hv)
 have hc1:EK gs<=EK (gs.set r.v (some (a+r.g)))/\(gt gs r.v=none->EK (gs.set r.v (some (a+r.g)))=EK gs+1):=by
  unfold EK
  rw[List.countP_set (by rw[h.lg];exact hv)]
  have e:gt gs r.v=gs[r.v]'(by rw[h.lg];exact hv):=by
   unfold gt
   rw[a0c,a0a (by rw[h.lg];exact hv)];rfl
  have pos:(gs[r.v]'(by rw[h.lg];exact hv)).isSome=true->0<gs.countP Option.isSome:=λz=>List.countP_pos_iff.mpr ⟨_,a1k _,z⟩
  constructor
  ·split
   ·rename_i z
    have:=pos z
    simp;omega
   ·simp
  ·intro z
   rw[e] at z
   rw[z];simp
 have mul1:-((EK (gs.set r.v (some (a+r.g))):Int)*Gm)<= -((EK gs:Int)*Gm):=by
  have:(EK gs:Int)*Gm<=(EK (gs.set r.v (some (a+r.g))):Int)*Gm:=Int.mul_le_mul_of_nonneg_right (by exact_mod_cast hc1.1) G0
  omega
 have chu:∃k,Ch (ls.set r.v (some r)) st k r.u:=by
  obtain⟨k,hk⟩:=h.ch r.u a hb.fr
  rcases a2O h hF (x:=some r) hv hvs k r.u a hk hb.fr with z|⟨b,z1,z2⟩
  ·exact⟨k,z⟩
  ·have:=hb.up b z1
   omega
 have chv:∃k,Ch (ls.set r.v (some r)) st k r.v:=by
  obtain⟨k,hk⟩:=chu
  exact⟨k+1,.step (by rw[gl,if_pos rfl]) hk⟩
 have chall:∀k w,Ch ls st k w->∃k',Ch (ls.set r.v (some r)) st k' w:=by
  intro k
  induction k with
  |zero=>intro w hw;cases hw;exact⟨0,.base⟩
  | succ k ih=>
   intro w hw
   cases hw with
   | step e c=>
    by_cases z:w=r.v
    ·rw[z];exact chv
    ·obtain⟨k',hk'⟩:=ih _ c
     exact⟨k'+1,.step (by rw[gl,if_neg z];exact e) hk'⟩
 refine⟨by simp[h.lg],by simp[h.ll],by rw[gg,if_neg (a3b hvs)];exact h.st0,by rw[gl,if_neg (a3b hvs)];exact h.stl,λw b hw=>?_,λw b hw=>?_,λw r' hw=>?_,λw b hw=>?_,λw b hw=>?_⟩
 ·rw[gg] at hw
  split at hw
  ·rename_i z;cases hw;rw[z];omega
  ·exact h.ub w b hw
 ·rw [gg] at hw
  split at hw
  ·cases hw
   cases hgv:gt gs r.v with
   | some b'=>
    have:=h.lb r.v b' hgv
    have:=hb.up b' hgv
    omega
   | none=>
    rw[hc1.2 hgv]
    have:=h.lb r.u a hb.fr
    have:=hG r hr
    have e:((EK gs+1:Nat):Int)*Gm=(EK gs:Int)*Gm+Gm:=by rw[Int.natCast_add,Int.add_mul];simp
    rw[e];omega
  ·have:=h.lb w b hw;omega
 ·rw [gl] at hw
  split at hw
  ·rename_i z
   cases hw
   exact⟨hr,z.symm,a,a+r.g,by rw[gg,if_neg huv];exact hb.fr,by rw[gg,if_pos z],a4h _⟩
  ·rename_i z
   obtain⟨h1,h2,a',b',e1,e2,e3⟩:=h.las w r' hw
   by_cases zu:r'.u=r.v
   ·have:=hb.up a' (by rw[<- zu];exact e1)
    exact⟨h1,h2,a+r.g,b',by rw[gg,if_pos zu],by rw[gg,if_neg z];exact e2,by omega⟩
   ·exact⟨h1,h2,a',b',by rw[gg,if_neg zu];exact e1,by rw[gg,if_neg z];exact e2,e3⟩
 ·by_cases z:w=r.v
  ·exact .inr ⟨r,by rw[gl,if_pos z]⟩
  ·rw[gg,if_neg z] at hw
   rcases h.has w b hw with y|⟨r',y⟩
   ·exact .inl y
   ·exact .inr ⟨r',by rw[gl,if_neg z];exact y⟩
 ·by_cases z:w=r.v
  ·rw[z];exact chv
  ·rw[gg,if_neg z] at hw
   obtain⟨k,hk⟩:=h.ch w b hw
   exact chall k w hk
def a4S(φ:Nat->Int)(st:Nat)(C:Nat)(gs:Gs)(v:Nat):Nat:=match gt gs v with
 |none=>C
 |some b=>(φ v-φ st-b).toNat
def m3(φ:Nat->Int)(st C n:Nat)(gs:Gs):Nat:=((List.range n).map (a4S φ st C gs)).sum
theorem RB {α:Type} {f f':α->Nat}:∀ {l:List α},(∀a∈l,f' a<=f a)->(∃a∈l,f' a<f a)->(l.map f').sum<(l.map f).sum
 |[],_,h=>by obtain⟨a,ha,_⟩:=h;cases ha
 | x ::l,h1,h2=>by
  rw[a0h,a0s,a0h,a0s]
  have le:(l.map f').sum<=(l.map f).sum:=by
   clear h2
   induction l with
   |nil=>simp
   | cons y l ih=>
    rw[a0h,a0s,a0h,a0s]
    have:=h1 y (by simp)
    have:=ih λa ha=>h1 a (by
     rcases a0q.mp ha with z|z
     ·simp[z]
     ·simp[z])
    omega
  have hx:=h1 x a0m
  obtain⟨a,ha,hlt⟩:=h2
  rcases a0q.mp ha with z|z
  ·subst z;omega
  ·have:=RB (l:=l) (λb hb=>h1 b (a0k _ hb)) ⟨a,z,hlt⟩
   omega
theorem UV (h:GI φ rs n st Gm gs ls) (hF:sE φ rs) (hG:∀r∈rs,-Gm<=r.g) (G0:0<=Gm) {C:Nat} (hC:∀v,v<n->φ v-φ st+n*Gm<C) {r:Rd} {a:Int} (hr:r∈rs) (hb:Bet gs r a) (hu:r.u<n) (hv:r.v<n) :
  m3 φ st C n (gs.set r.v (some (a+r.g)))<m3 φ st C n gs:=by
 have h':=h.step hF hG G0 hr hb hu hv
 have gg:∀w,gt (gs.set r.v (some (a+r.g))) w=if w=r.v then some (a+r.g) else gt gs w:=λw=>uD (by rw[h.lg];exact hv)
 have hcn:(EK (gs.set r.v (some (a+r.g))):Int)*Gm<=n*Gm:=by
  refine Int.mul_le_mul_of_nonneg_right ?_ G0
  have:EK (gs.set r.v (some (a+r.g)))<=(gs.set r.v (some (a+r.g))).length:=List.countP_le_length
  rw[a6h,h.lg] at this
  exact_mod_cast this
 have ub:=h'.ub r.v (a+r.g) (by rw[gg,if_pos rfl])
 have lb:=h'.lb r.v (a+r.g) (by rw[gg,if_pos rfl])
 have hlt:a4S φ st C (gs.set r.v (some (a+r.g))) r.v<a4S φ st C gs r.v:=by
  unfold a4S
  rw[gg,if_pos rfl]
  dsimp only
  cases hgv:gt gs r.v with
  | none=>
   dsimp only
   have:=hC r.v hv
   omega
  | some b=>
   dsimp only
   have:=hb.up b hgv
   omega
 refine RB (λw _=>?_) ⟨r.v,a1s.mpr hv,hlt⟩
 by_cases z:w=r.v
 ·rw[z];exact a3g hlt
 ·unfold a4S
  rw[gg,if_neg z]
  exact a0l _
def X6(gs:Gs)(rs:List Rd):Prop:=∀r∈rs,∀a,gt gs r.u=some a->∃b,gt gs r.v=some b/\a+r.g<=b
theorem T3 (hn:gt ls st=none):∀ {k k' v:Nat},Ch ls st k v->Ch ls st k' v->k=k':=by
 intro k
 induction k with
 | zero=>
  intro k' v h h'
  cases h
  cases h' with
  |base=>rfl
  |step e _=>rw[hn] at e;cases e
 | succ k ih=>
  intro k' v h h'
  cases h with
  | step e c=>
   cases h' with
   |base=>rw[hn] at e;cases e
   |step e' c'=>rw[e] at e';cases e';rw[ih c c']
inductive Way(ls:Ls)(st:Nat):Nat->List Rd->Prop where
 |base:Way ls st st []
 |step {v:Nat} {r:Rd} {p:List Rd}:gt ls v=some r->Way ls st r.u p->Way ls st v (r::p)
theorem a26:∀ {k v:Nat},Ch ls st k v->∃p,Way ls st v p/\p.length=k:=by
 intro k
 induction k with
 |zero=>intro v h;cases h;exact⟨[],.base,rfl⟩
 | succ k ih=>
  intro v h
  cases h with
  | step e c=>
   obtain⟨p,hp,hl⟩:=ih c
   exact⟨_::p,.step e hp,by simp[hl]⟩
theorem Way.ch{v:Nat}{p:List Rd}(h:Way ls st v p):Ch ls st p.length v:=by
 induction h with
 |base=>exact .base
 |step e _ ih=>exact .step e ih
end
def DQ(r:Rd):PV:=.tup [.int (r.u:Nat),.int (r.v:Nat),.int r.g,iT r.k]
def SA:Option Rd->PV
 |none=>.non
 |some r=>DQ r
abbrev ZG(gs:Gs):PV:=.lst (gs.map iT)
abbrev UY(ls:Ls):PV:=.lst (ls.map SA)
abbrev MA(rs:List Rd):PV:=.lst (rs.map DQ)
theorem K9(o:Option Int):(iT o).flat=true:=by cases o<;>rfl
theorem BM(r:Rd):(DQ r).flat=true:=by
 unfold DQ
 rw[PV.flat,PV.flats,PV.flats,PV.flats,PV.flats,PV.flats,K9];rfl
theorem UD(x:Int)(r:Rd):(PV.tup [.int x,DQ r]).flat=true:=by
 rw[PV.flat,PV.flats,PV.flats,PV.flats,BM];rfl
theorem XC{gs:Gs}{v:Nat}(h:v<gs.length):iV (gs.map iT) (v:Int)=some (iT (gt gs v)):=by
 refine cE (by omega) ?_
 rw[a1p,a0g,a0a h]
 unfold gt
 rw[a0c,a0a h];rfl
theorem XF{ls:Ls}{v:Nat}(h:v<ls.length):iV (ls.map SA) (v:Int)=some (SA (gt ls v)):=by
 refine cE (by omega) ?_
 rw[a1p,a0g,a0a h]
 unfold gt
 rw[a0c,a0a h];rfl
theorem B6:∀rs:List Rd,∃Gm:Int,0<=Gm/\∀r∈rs,-Gm<=r.g
 |[]=>⟨0,a4h _,λr h=>by cases h⟩
 | r::rs=>by
  obtain⟨G,h0,h⟩:=B6 rs
  refine⟨max G (-r.g),by omega,λq hq=>?_⟩
  rcases a0q.mp hq with z|z
  ·subst z;omega
  ·have:=h q z;omega
theorem B5 (f:Nat->Int):∀n:Nat,∃C:Nat,∀v,v<n->f v<C
 |0=>⟨0,λv h=>by omega⟩
 | n+1=>by
  obtain⟨C,h⟩:=B5 f n
  refine⟨max C ((f n).toNat+1),λv hv=>?_⟩
  by_cases e:v=n
  ·subst e;omega
  ·have:=h v (by omega);omega
theorem zQ{n v:Nat}(h:v<n):sR n (v:Int)=some v:=by
 unfold sR
 rw[if_pos (by omega),if_pos (by omega),a1p]
theorem a4D(n:Nat):(List.replicate (n:Int).toNat [PV.non]).flatten=(List.replicate n (none:Option Int)).map iT:=by
 rw[a1p,a6y];simp[iT]
theorem a4F(n:Nat):(List.replicate (n:Int).toNat [PV.non]).flatten=(List.replicate n (none:Option Rd)).map SA:=by
 rw[a1p,a6y];simp[SA]
theorem EQ{α:Type}{n v:Nat}:gt (List.replicate n (none:Option α)) v=none:=by
 unfold gt
 rw[a0c,a2e]
 split<;>rfl
theorem map_set{α:Type}(f:α->PV)(l:List α)(i:Nat)(x:α):(l.map f).set i (f x)=(l.set i x).map f:=by rw[List.map_set]
theorem O2 {φ:Nat->Int} {rs:List Rd} {n st:Nat} {Gm:Int} (hst:st<n) (G0:0<=Gm):GI φ rs n st Gm ((List.replicate n none).set st (some 0)) (List.replicate n none):=by
 have gg:∀w,gt ((List.replicate n (none:Option Int)).set st (some 0)) w=if w=st then some 0 else none:=λw=>by rw[uD (by simpa using hst),EQ]
 have one:∀v b,gt ((List.replicate n (none:Option Int)).set st (some 0)) v=some b->v=st/\b=0:=λv b h=>by
  rw[gg] at h
  split at h
  ·rename_i z;cases h;exact⟨z,rfl⟩
  ·cases h
 refine⟨by simp,by simp,by rw[gg,if_pos rfl],EQ,λv b h=>?_,λv b h=>?_,λv r h=>?_,λv b h=>.inl (one v b h).1,λv b h=>?_⟩
 ·obtain⟨rfl,rfl⟩:=one v b h;omega
 ·obtain⟨rfl,rfl⟩:=one v b h
  have:0<=(EK ((List.replicate n (none:Option Int)).set v (some 0)):Int)*Gm:=Int.mul_nonneg (by omega) G0
  omega
 ·rw[EQ] at h;cases h
 ·obtain⟨rfl,rfl⟩:=one v b h;exact⟨0,.base⟩
theorem qB {rs:List Rd} {n st:Nat} {φ:Nat->Int} {R:PV->Prop} (hF:sE φ rs) (hrs:∀r∈rs,r.u<n/\r.v<n) (hst:st<n) (hn:n<=100)
  (q:∀gs ls Gm,GI φ rs n st Gm gs ls->X6 gs rs->R (.tup [ZG gs,UY ls])):c7 [MA rs,.int n,.int st] R:=by
 obtain⟨Gm,G0,hG⟩:=B6 rs
 obtain⟨C,hC⟩:=B5 (λv=>φ v-φ st+n*Gm) n
 unfold c7
 have h1000:n<=sizeLine:=bX (by omega)
 tb_from(⟨by omega,by omega,by simpa using h1000,?_⟩)
 rw[a4D]
 tb_from(⟨by omega,by omega,by simpa using h1000,?_⟩)
 rw[a4F]
 walk_at "w"
 rw[show sR ((List.replicate n (none:Option Int)).map iT).length (st:Int)=some st from zQ (by simpa using hst)]
 walk_at "w"
 rw[show ((List.replicate n (none:Option Int)).map iT).set st (PV.int 0)=((List.replicate n (none:Option Int)).set st (some 0)).map iT from map_set iT _ st (some 0)]
 refine⟨λm env=>∃(gs:Gs) (ls:Ls) (bet:Bool) (t6 t7 t8 t9 t10:Option PV),env=[some (MA rs),some (.int n),some (.int st),some (ZG gs),some (UY ls),some (.bl bet),t6,t7,t8,t9,t10]/\GI φ rs n st Gm gs ls/\(bet=true->m=m3 φ st C n gs+1)/\(bet=false->m=0/\X6 gs rs),⟨_,_,_,true,none,none,none,none,none,rfl,O2 hst G0,λ_=>rfl,λz=>by cases z⟩,?_⟩
 rintro m env ⟨gs,ls,bet,t6,t7,t8,t9,t10,rfl,hI,hbt,hbf⟩
 walk_at "w"
 cases bet with
 | false=>
  walk_at "w"
  exact q gs ls Gm hI (hbf rfl).2
 | true=>
  have hm:=hbt rfl
  refine⟨λenv'=>∃(gs':Gs) (ls':Ls) (bet:Bool) (t6 t7 t8 t9 t10:Option PV),env'=[some (MA rs),some (.int n),some (.int st),some (ZG gs'),some (UY ls'),some (.bl bet),t6,t7,t8,t9,t10]/\GI φ rs n st Gm gs' ls'/\(bet=true->m3 φ st C n gs'<m3 φ st C n gs)/\(bet=false->X6 gs' rs),?_,?_⟩
  ·rintro env' ⟨gs',ls',bet',s6,s7,s8,s9,s10,rfl,hI',h1,h2⟩
   cases bet' with
   |true=>exact⟨m3 φ st C n gs'+1,by have:=h1 rfl;omega,gs',ls',true,_,_,_,_,_,rfl,hI',λ_=>rfl,λz=>by cases z⟩
   |false=>exact⟨0,by omega,gs',ls',false,_,_,_,_,_,rfl,hI',(λz=>by cases z),λ_=>⟨rfl,h2 rfl⟩⟩
  tb_from(cB (λi env=>∃(gs':Gs) (ls':Ls) (bet:Bool) (t6 t7 t8 t9 t10:Option PV),env=[some (MA rs),some (.int n),some (.int st),some (ZG gs'),some (UY ls'),some (.bl bet),t6,t7,t8,t9,t10]/\GI φ rs n st Gm gs' ls'/\(bet=true->m3 φ st C n gs'<m3 φ st C n gs)/\(bet=false->gs'=gs/\X6 gs' (rs.take i))) ⟨gs,ls,false,_,_,_,_,_,rfl,hI,(λz=>by cases z),λ_=>⟨rfl,λr hr=>by simp at hr⟩⟩ ?_ ?_)
  ·rintro i x env N hx ⟨gs',ls',bet,s6,s7,s8,s9,s10,rfl,hI',h1,h2⟩ hN
   rw[a0g,a0r] at hx
   obtain⟨r,hr,rfl⟩:=hx
   have hrm:=a0u hr
   obtain⟨hu,hv⟩:=hrs r hrm
   have au:=XC (gs:=gs') (v:=r.u) (by rw[hI'.lg];exact hu)
   have av:=XC (gs:=gs') (v:=r.v) (by rw[hI'.lg];exact hv)
   have later:∀bb:Option Int,gt gs' r.v=bb->∀t6' t7' t8' t9' t10':Option PV,(∀a,gt gs' r.u=some a->∃b,bb=some b/\a+r.g<=b)->N [some (MA rs),some (.int n),some (.int st),some (ZG gs'),some (UY ls'),some (.bl bet),t6',t7',t8',t9',t10']:=by
    intro bb hbb t6' t7' t8' t9' t10' hh
    refine hN _ ⟨gs',ls',bet,_,_,_,_,_,rfl,hI',h1,λz=>⟨(h2 z).1,λr' hr' a ha=>?_⟩⟩
    rw[a1o,hr] at hr'
    rcases a1a.mp hr' with y|y
    ·exact (h2 z).2 r' y a ha
    ·simp at y
     subst y
     rw[hbb];exact hh a ha
   show RD.aG 6 (.tup [.int (r.u:Nat),.int (r.v:Nat),.int r.g,iT r.k]) _ _
   tb_from(⟨rfl,?_⟩)
   tb_from(c4 au ?_)
   cases hgu:gt gs' r.u with
   | none=>
    walk_at "w"
    exact later _ rfl _ _ _ _ _ λa ha=>by rw[hgu] at ha;cases ha
   | some a=>
    tb_from(c4 av ?_)
    have better:Bet gs' r a->RD.aL (RD.xW 3 4 (RD.iL (RD.dD (RD.a8 (RD.aQ RD.dH (RD.aQ cV (RD.a9 3) (RD.a9 7)) (RD.a9 9)) (RD.a8 (RD.a9 6) RD.aF)))) (RD.a9 8) (RD.a9 8)) (RD.aL (RD.bK 5 (RD.pC (.bl true))) RD.aO) {nx:=N,rt:=R} [some (MA rs),some (.int n),some (.int st),some (ZG gs'),some (UY ls'),some (.bl bet),some (DQ r),some (.int (r.u:Nat)),some (.int (r.v:Nat)),some (.int r.g),some (iT r.k)]:=by
     intro hb
     tb_from(c4 au ?_)
     rw[hgu]
     tb_from(⟨UD _ r,?_⟩)
     walk_at "w"
     rw[show sR (gs'.map iT).length (r.v:Int)=some r.v from zQ (by rw[a0d,hI'.lg];exact hv)]
     walk_at "w"
     rw[show sR (ls'.map SA).length (r.v:Int)=some r.v from zQ (by rw[a0d,hI'.ll];exact hv)]
     walk_at "w"
     rw[show (gs'.map iT).set r.v (PV.int (a+r.g))=(gs'.set r.v (some (a+r.g))).map iT from map_set iT _ r.v (some (a+r.g))]
     rw[show (ls'.map SA).set r.v (DQ r)=(ls'.set r.v (some r)).map SA from map_set SA _ r.v (some r)]
     refine hN _ ⟨gs'.set r.v (some (a+r.g)),ls'.set r.v (some r),true,_,_,_,_,_,rfl,hI'.step hF hG G0 hrm hb hu hv,λ_=>?_,λz=>by cases z⟩
     have l1:=UV hI' hF hG G0 hC hrm hb hu hv
     cases bet with
     |true=>have:=h1 rfl;omega
     |false=>rw[(h2 rfl).1] at l1 ⊢;exact l1
    cases hgv:gt gs' r.v with
    | none=>
     walk_at "w"
     exact better ⟨hgu,λb hb=>by rw[hgv] at hb;cases hb⟩
    | some b=>
     tb_from(c4 au ?_)
     rw[hgu]
     tb_from(c4 av ?_)
     rw[hgv]
     tb_from(gW (λh=>?_) λh=>?_)
     ·exact better ⟨hgu,λb' hb'=>by rw[hgv] at hb';cases hb';exact h⟩
     ·exact later _ hgv _ _ _ _ _ λa' ha'=>by
       rw[hgu] at ha';cases ha'
       exact⟨b,rfl,by omega⟩
  ·rintro env ⟨gs',ls',bet,s6,s7,s8,s9,s10,rfl,hI',h1,h2⟩
   rw[a0d,a1y] at h2
   walk_at "w"
   exact⟨gs',ls',bet,_,_,_,_,_,rfl,hI',h1,λz=>(h2 z).2⟩
theorem ON:∀(n:Nat) (l:List Nat),l.Nodup->(∀x∈l,x<n)->l.length<=n:=by
 intro n
 induction n with
 | zero=>intro l _ h;cases l with
  |nil=>simp
  |cons a l=>have:=h a a0m;omega
 | succ n ih=>
  intro l nd h
  by_cases hm:n∈l
  ·have:(l.erase n).length<=n:=by
    refine ih _ (nd.sublist List.erase_sublist) λx hx=>?_
    have hx':=List.mem_of_mem_erase hx
    have hne:x≠n:=λz=>by subst z;exact (List.Nodup.not_mem_erase nd) hx
    have:=h x hx'
    omega
   rw[List.length_erase_of_mem hm] at this
   omega
  ·have:=ih l nd λx hx=>by
    have h1:=h x hx
    have:x≠n:=λz=>by subst z;exact hm hx
    omega
   omega
section
variable{φ:Nat->Int}{rs:List Rd}{n st:Nat}{Gm:Int}{gs:Gs}{ls:Ls}
theorem J6 {v:Nat} {p:List Rd} (h:Way ls st v p):∀r∈p,∃w k,gt ls w=some r/\Ch ls st k w/\k<=p.length/\0<k:=by
 induction h with
 |base=>intro r hr;cases hr
 | @step v r p e w ih=>
  intro r' hr'
  rcases a0q.mp hr' with z|z
  ·subst z
   exact⟨v,p.length+1,e,.step e w.ch,by simp,by omega⟩
  ·obtain⟨w',k,h1,h2,h3,h4⟩:=ih r' z
   exact⟨w',k,h1,h2,by simp;omega,h4⟩
theorem GI.wayIn(h:GI φ rs n st Gm gs ls){v:Nat}{p:List Rd}(w:Way ls st v p):∀r∈p,r∈rs/\gt ls r.v=some r:=by
 intro r hr
 obtain⟨w',k,e,_⟩:=J6 w r hr
 obtain⟨h1,h2,_⟩:=h.las w' r e
 exact⟨h1,by rw[h2];exact e⟩
theorem GI.wayNd (h:GI φ rs n st Gm gs ls) {v:Nat} {p:List Rd} (w:Way ls st v p):(p.map Rd.v).Nodup:=by
 induction w with
 |base=>exact List.nodup_nil
 | @step v r p e w ih=>
  rw[a0h,a2i]
  refine⟨λhm=>?_,ih⟩
  obtain⟨r',hr',z⟩:=a0p.mp hm
  obtain⟨w',k,e',c',hk,_⟩:=J6 w r' hr'
  obtain⟨_,h2,_⟩:=h.las w' r' e'
  obtain⟨_,h3,_⟩:=h.las v r e
  have:w'=v:=by rw[<- h2,z,h3]
  subst this
  have:=T3 h.stl c' (.step e w.ch)
  omega
theorem GI.wayLen (h:GI φ rs n st Gm gs ls) (hrs:∀r∈rs,r.u<n/\r.v<n) {v:Nat} {p:List Rd} (w:Way ls st v p):p.length<=n:=by
 have:=ON n (p.map Rd.v) (h.wayNd w) λx hx=>by
  obtain⟨r,hr,rfl⟩:=a0p.mp hx
  exact (hrs r (h.wayIn w r hr).1).2
 simpa using this
end
theorem sO {ls:Ls} {st goal:Nat} {p:List Rd} {R:PV->Prop} (hw:Way ls st goal p) (hn:gt ls st=none) (hg:goal<ls.length) (hu:∀r∈p,r.u<ls.length) (hp:p.length<=1000) (q:R (dF (p.filterMap Rd.k))):cG [UY ls,.int goal] R:=by
 unfold cG
 tb_from(⟨λm env=>∃(v:Nat) (p':List Rd) (ds:List Int) (t3 t4 t5:Option PV),env=[some (UY ls),some (.int v),some (dF ds),t3,t4,t5]/\Way ls st v p'/\m=p'.length/\ds++p'.filterMap Rd.k=p.filterMap Rd.k/\v<ls.length/\(∀r∈p',r.u<ls.length),⟨_,goal,p,[],none,none,none,rfl,hw,rfl,rfl,hg,hu⟩,?_⟩)
 rintro m env ⟨v,p',ds,t3,t4,t5,rfl,w,rfl,ht,hv,hu'⟩
 tb_from(c4 (XF hv) ?_)
 have hdl:ds.length<=1000:=by
  have:=congrArg List.length ht
  have:=List.length_filterMap_le Rd.k p
  rw[a1r] at*
  omega
 cases w with
 | base=>
  rw[hn]
  walk_at "w"
  rw[List.filterMap_nil,a5r] at ht
  rw[ht];exact q
 | @step _ r p'' e w=>
  rw[e]
  unfold SA DQ
  tb_from(⟨λenv'=>∃(v:Nat) (ds:List Int) (t3 t4 t5:Option PV),env'=[some (UY ls),some (.int v),some (dF ds),t3,t4,t5]/\Way ls st v p''/\ds++p''.filterMap Rd.k=p.filterMap Rd.k/\v<ls.length,?_,?_⟩)
  ·rintro env' ⟨v',ds',s3,s4,s5,rfl,w',ht',hv'⟩
   exact⟨p''.length,by simp,v',p'',ds',s3,s4,s5,rfl,w',rfl,ht',hv',λr' hr'=>hu' r' (a0k _ hr')⟩
  walk_at "w"
  refine c4 (z:=DQ r) (by rw[XF hv,e];rfl) ?_
  unfold DQ
  tb_from(⟨rfl,?_⟩)
  walk_at "w"
  have hr:=hu' r a0m
  rw[a1n] at ht
  cases hk:r.k with
  | none=>
   rw[hk] at ht
   walk_at "w"
   exact⟨r.u,ds,_,_,_,rfl,w,ht,hr⟩
  | some k=>
   rw[hk] at ht
   tb_from(⟨rfl,?_⟩)
   tb_from(⟨rfl,?_⟩)
   walk_at "w"
   refine⟨mY (n:=(ds.map PV.int).length) (by rw[a0d];exact hdl),?_⟩
   have ei:dF (ds++[k])= .lst (ds.map PV.int++[iT (some k)]):=by unfold dF;rw[a1m];rfl
   exact⟨r.u,ds++[k],some (.int (r.v:Nat)),some (.int r.g),some (iT (some k)),by rw[ei],w,by rw[a7h];exact ht,hr⟩
theorem zC{ks ms:List Int}{R:PV->Prop}(h1:ks.length<32)(h2:ms.length<32)(q:R (dF (aP (n8 ks ms)))):dU [dF ks,dF ms] R:=by
 unfold dU
 tb_from(qR h1 ?_)
 tb_from(qR h2 ?_)
 exact q
def wL(bk:List Sr):List Int:=if aP (gX bk)=[] then [0] else aP (gX bk)
theorem B9 {bk:List Sr} {R:PV->Prop} (hl:bk.length<=31) (q:R (dF (wL bk))):eS [eW bk] R:=by
 unfold eS
 tb_from(xD hl ?_)
 walk_at "w"
 unfold wL at q
 refine X8 (λh=>?_) λh=>?_
 ·rw[if_neg (λz=>by rw[z] at h;cases h)] at q;exact q
 ·have:aP (gX bk)=[]:=by
   cases hu:aP (gX bk) with
   |nil=>rfl
   |cons a l=>rw[hu] at h;cases h
  rw[if_pos this] at q
  walk_at "w"
  exact q
def fG(γ:Nat->Int)(i:Nat):Int:=γ (i+1)-γ i
def jK(γ:Nat->Int)(sp:List Int):List Pr:=(sp.zipIdx.filter λz=>decide (0<fG γ z.2)).map λz=>(z.1,fG γ z.2)
theorem BA {γ:Nat->Int} {n:Nat} {sp:List Int} {R:PV->Prop} (hn:n<=1000) (hs:sp.length<n) (q:R (d7 (jK γ sp))):eT [dF ((List.range n).map γ),dF sp] R:=by
 unfold eT
 have hat:∀i,i<n->iV (((List.range n).map γ).map PV.int) (i:Int)=some (.int (γ i)):=λi hi=>cE (by omega) (by
  rw[a1p,a0g,a0g,a4r hi];rfl)
 walk_at "w"
 refine⟨by omega,by rw[a0d];omega,?_⟩
 refine⟨by rw[bQ];exact bX (by rw[a0d];omega),?_⟩
 refine kK (λi acc env=>acc=((List.range i).map (fG γ)).map PV.int/\∃t,env=[t,some (dF ((List.range n).map γ))]) ⟨rfl,_,rfl⟩ ?_ ?_
 ·rintro i x acc env N hx ⟨rfl,t,rfl⟩ hN
  obtain⟨rfl,hi⟩:=dG hx
  rw[a0d] at hi
  have x0:(0:Int)+(i:Int)=i:=by omega
  rw[x0]
  walk_at "w"
  refine c4 (by have:=hat (i+1) (by omega);rw[<- this];congr 1) ?_
  tb_from(c4 (hat i (by omega)) ?_)
  tb_from(hN _ _ ⟨?_,_,rfl⟩)
  rw[a4g];simp[fG]
 ·rintro acc env ⟨rfl,t,rfl⟩
  have e1:(cU 0 ((sp.map PV.int).length:Int).toNat).length=sp.length:=by rw[bQ,a0d];omega
  rw[e1]
  walk_at "w"
  refine⟨by rw[k8];exact bX (by simp;omega),?_⟩
  refine kK (λi acc env=>acc=(((sp.take i).zipIdx.filter λz=>decide (0<fG γ z.2)).map λz=>(z.1,fG γ z.2)).map CN/\∃t1 t2,env=[t1,t2]) ⟨rfl,_,_,rfl⟩ ?_ ?_
  ·rintro i x acc env N hx ⟨rfl,t1,t2,rfl⟩ hN
   rw[B0] at hx
   obtain⟨a,b,ha,hb,rfl⟩:=hx
   rw[a0g,a0r] at ha hb
   obtain⟨s,hs',rfl⟩:=ha
   obtain⟨v,hv,rfl⟩:=hb
   rw[a0g,a0r] at hv
   obtain⟨j,hj,rfl⟩:=hv
   have hjl:=(a0j.mp hj).1
   rw[a4j] at hjl
   rw[a4r hjl] at hj
   cases hj
   have ez:(sp.take (i+1)).zipIdx=(sp.take i).zipIdx++[(s,i)]:=by
    rw[a1o,hs',a6w]
    have:(sp.take i).length=i:=by rw[a2g];omega
    simp[this]
   tb_from(⟨rfl,?_⟩)
   tb_from(gW (λh=>?_) λh=>?_)
   ·refine hN _ _ ⟨?_,_,_,rfl⟩
    rw[ez,a4v,a1t,if_pos (by simpa using h)]
    simp[CN]
   ·refine hN _ _ ⟨?_,_,_,rfl⟩
    rw[ez,a4v,a1t,if_neg (by simpa using h)]
    simp
  ·rintro acc env ⟨rfl,t1,t2,rfl⟩
   have e2:(wR (sp.map PV.int) (((List.range sp.length).map (fG γ)).map PV.int)).length=sp.length:=by rw[k8];simp
   rw[e2,a1y]
   exact⟨u9 _,q⟩
end Lib
namespace L2
open PySem
theorem NC {g:iU} {tt:fD} {tk tv:aY} {Q:PV->Prop}:∀ {items:List PV} {ks:List bA} {xs:List PV} {env:bC} (I:Nat->List bA->List PV->bC->Prop),I 0 ks xs env->
  (∀(i:Nat) (x:PV) (ks:List bA) (xs:List PV) (env:bC) (N:List bA->List PV->bC->Prop),items[i]? =some x->I i ks xs env->(∀ks' xs' env',I (i+1) ks' xs' env'->N ks' xs' env')->g x env λenv1=>tt env1 λb=>Br b (tk env1 λk=>tv env1 λy=>match KJ k with
   |some kk=>ks.length<1000/\N (K1 ks kk) (DO ks xs kk y) env1
   |none=>False) (N ks xs env1))->
  (∀ks xs env,I items.length ks xs env->Q (.dic ks xs))->wK g tt tk tv Q items ks xs env
 |[],ks,xs,env,I,h0,hs,hd=>hd ks xs env h0
 | x::items,ks,xs,env,I,h0,hs,hd=>by
  rw[wK]
  refine hs 0 x ks xs env (λks xs env=>wK g tt tk tv Q items ks xs env) rfl h0 λks' xs' env' h=>?_
  exact NC (λi=>I (i+1)) h (λi y a b e N hy=>hs (i+1) y a b e N (by simpa using hy)) λa b e h=>hd a b e (by simpa using h)
end L2
namespace Lib
open PySem L2
theorem NU(rs:List Rd):PV.flats (rs.map DQ)=true:=PV.flats_of λx h=>by obtain⟨s,_,rfl⟩:=a0p.mp h;exact BM s
def tP(m:Nat):List Rd:=(List.range m).map λi=>⟨i,i+1,0,none⟩
def tR(rooms:List Int)(m:Nat):List Rd:=((List.range m).filter λi=>decide (0<rooms.getD i 0)).map λi=>⟨i+1,i,0,none⟩
def BO(rooms:List Int):List Rd:=tP rooms.length++(tR rooms rooms.length).reverse
theorem zD {rooms:List Int} {R:PV->Prop} (hl:rooms.length<=100) (q:R (MA (BO rooms))):dW [dF rooms] R:=by
 unfold dW
 walk_at "w"
 refine⟨by omega,by rw[a0d];omega,?_⟩
 refine⟨by rw[bQ];exact bX (by rw[a0d];omega),?_⟩
 refine kK (λi acc env=>acc=(tP i).map DQ/\∃t,env=[t]) ⟨rfl,_,rfl⟩ ?_ ?_
 ·rintro i x acc env N hx ⟨rfl,t,rfl⟩ hN
  obtain⟨rfl,hi⟩:=dG hx
  have x0:(0:Int)+(i:Int)=i:=by omega
  rw[x0]
  tb_from(hN _ _ ⟨?_,_,rfl⟩)
  unfold tP
  rw[a4g,a1m,a1m];rfl
 ·rintro acc env ⟨rfl,t,rfl⟩
  have e1:(cU 0 ((rooms.map PV.int).length:Int).toNat).length=rooms.length:=by rw[bQ,a0d];omega
  rw[e1]
  walk_at "w"
  refine⟨bX (by rw[fX,a0d];omega),?_⟩
  refine kK (λi acc env=>acc=(tR rooms i).map DQ/\∃t1 t2,env=[t1,t2]) ⟨rfl,_,_,rfl⟩ ?_ ?_
  ·rintro i x acc env N hx ⟨rfl,t1,t2,rfl⟩ hN
   rw[lX,a0g,a6o,a0r] at hx
   obtain⟨r,hr,rfl⟩:=hx
   have eg:rooms.getD i 0=r:=by rw[a0c,hr];rfl
   show RD.bV 2 _ (.tup [.int (i:Int),.int r]) _ _
   tb_from(⟨rfl,?_⟩)
   tb_from(gW (λh=>?_) λh=>?_)
   ·refine hN _ _ ⟨?_,_,_,rfl⟩
    unfold tR
    rw[a4g,a4v,a1t,if_pos (by rw[eg];simpa using h),a1m,a1m];rfl
   ·refine hN _ _ ⟨?_,_,_,rfl⟩
    unfold tR
    rw[a4g,a4v,a1t,if_neg (by rw[eg];simpa using h)];simp
  ·rintro acc env ⟨rfl,t1,t2,rfl⟩
   rw[fX,a0d]
   tb_from(⟨rfl,?_⟩)
   have hb:(tR rooms rooms.length).length<=rooms.length:=by
    unfold tR
    rw[a0d]
    have:=a3i (λi=>decide (0<rooms.getD i 0)) (List.range rooms.length)
    simpa using this
   refine⟨bX (by simp[tP];omega),?_⟩
   rw[<- List.map_reverse,<- a1m]
   exact⟨NU _,q⟩
def iS(pl:List Int)(m:Int):Nat:=pl.idxOf m
theorem X9:∀(pl:List Int) (o:Nat) (m:Int),m∈pl->DN (pl.map λp=>(Sum.inl p:bA)) ((List.range' o pl.length).map λ(i:Nat)=>PV.int (i:Int)) (.inl m)=some (.int ((o+iS pl m:Nat):Int))
 |[],o,m,h=>by cases h
 | p::pl,o,m,h=>by
  unfold DN iS
  rw[a2c,List.range'_succ,a0h,a0h,a2x,a2p]
  by_cases e:p=m
  ·subst e
   simp
  ·have e':decide ((Sum.inl p:bA)= .inl m)=false:=by simp[e]
   dsimp only
   rw[e']
   have hm:m∈pl:=(a0q.mp h).resolve_left λz=>e z.symm
   have ih:=X9 pl (o+1) m hm
   unfold DN iS at ih
   dsimp only
   rw[ih,List.idxOf_cons]
   have:(p==m)=false:=by simpa using e
   rw[this]
   simp
   omega
theorem XA{pl:List Int}{m:Int}(h:m∈pl):DN (pl.map λp=>(Sum.inl p:bA)) ((List.range pl.length).map λ(i:Nat)=>PV.int (i:Int)) (.inl m)=some (.int (iS pl m:Nat)):=by
 have:=X9 pl 0 m h
 rw[<- List.range_eq_range',a5u] at this
 exact this
def dP(pl ks:List Int)(s:Sr)(k:Nat):Rd:=if (k:Int)∈ks then ⟨iS pl s.e,iS pl s.b,-s.w,some (k:Int)⟩ else ⟨iS pl s.b,iS pl s.e,s.w,some (k:Int)⟩
def WI(bk:List Sr)(pl ks:List Int):List Rd:=bk.zipIdx.map λz=>dP pl ks z.1 z.2
theorem JZ(ks:List Int):PV.deps (ks.map PV.int)<=60:=a0y (PV.deps_of (n:=0) λx h=>by obtain⟨k,_,rfl⟩:=a0p.mp h;rw[mQ];exact a0l _) (by decide)
theorem tH{ks:List bA}{xs:List PV}{m:Int}{z:PV}{Q:PV->Prop}(h:DN ks xs (.inl m)=some z)(q:Q z):jT (.dic ks xs) (.int m) Q:=by
 show (match DN ks xs (.inl m) with|some z=>Q z|none=>False)
 rw[h];exact q
theorem sP {bk:List Sr} {pl ks:List Int} {R:PV->Prop} (hb:bk.length<=31) (hp:pl.length<=100) (nd:pl.Nodup) (hin:∀s∈bk,s.b∈pl/\s.e∈pl) (hk:ks.length<=100) (q:R (MA (WI bk pl ks))):cH [eW bk,dF pl,dF ks] R:=by
 unfold cH
 tb_from(NC (λi a b env=>a=(pl.take i).map (λp=>(Sum.inl p:bA))/\b=(List.range i).map (λ(i:Nat)=>PV.int (i:Int))/\∃t1 t2,env=[t1,t2]) ⟨rfl,rfl,_,_,rfl⟩ ?_ ?_)
 ·rintro i x a b env N hx ⟨rfl,rfl,t1,t2,rfl⟩ hN
  rw[lX,a0g,a6o,a0r] at hx
  obtain⟨m,hm,rfl⟩:=hx
  have hi:=(a0j.mp hm).1
  show RD.bV 2 _ (.tup [.int (i:Int),.int m]) _ _
  tb_from(⟨rfl,?_⟩)
  tb_from(⟨rfl,?_⟩)
  walk_at "w"
  have nk:kIn ((pl.take i).map (λp=>(Sum.inl p:bA))) (.inl m)=false:=by
   unfold kIn
   rw[List.any_eq_false]
   intro k hk'
   obtain⟨p,hp',rfl⟩:=a0p.mp hk'
   have:p≠m:=by
    rintro rfl
    obtain⟨j,hj,ej⟩:=a2j hp'
    rw[a2g] at hj
    rw[List.getElem_take] at ej
    obtain⟨_,em⟩:=a0j.mp hm
    have:=(a5s.mp nd)
    have:=(a3d.mp this) j i (by omega) hi (by omega)
    exact this (ej.trans em.symm)
   simp[this]
  refine⟨by rw[a0d,a2g];omega,?_⟩
  refine hN _ _ _ ⟨?_,?_,_,_,rfl⟩
  ·unfold K1
   rw[nk,a1o,hm,a1m];rfl
  ·unfold DO
   rw[nk,a4g,a1m];rfl
 ·rintro a b env ⟨rfl,rfl,t1,t2,rfl⟩
  rw[fX,a0d,a1y]
  generalize hd:PV.dic (pl.map λp=>(Sum.inl p:bA)) ((List.range pl.length).map λ(i:Nat)=>PV.int (i:Int))=dd
  tb_from(cB (λi env=>∃t5 t6 t7 t8 t9,env=[some (eW bk),some (dF pl),some (dF ks),some dd,some (MA ((bk.take i).zipIdx.map λz=>dP pl ks z.1 z.2)),t5,t6,t7,t8,t9]) ⟨_,_,_,_,_,rfl⟩ ?_ ?_)
  ·rintro i x env N hx ⟨t5,t6,t7,t8,t9,rfl⟩ hN
   rw[lX,a0g,a6o,a0r] at hx
   obtain⟨s,hs,rfl⟩:=hx
   have hi:=(a0j.mp hs).1
   obtain⟨mb,me⟩:=hin s (a0u hs)
   have gb:=XA mb
   have ge:=XA me
   have ez:(bk.take (i+1)).zipIdx=(bk.take i).zipIdx++[(s,i)]:=by
    rw[a1o,hs,a6w]
    have:(bk.take i).length=i:=by rw[a2g];omega
    simp[this]
   have hlen:(((bk.take i).zipIdx.map λz=>dP pl ks z.1 z.2).map DQ).length<=1000:=by
    rw[a0d,a0d,a6z,a2g];omega
   have es:MA ((bk.take (i+1)).zipIdx.map λz=>dP pl ks z.1 z.2)= .lst ((((bk.take i).zipIdx.map λz=>dP pl ks z.1 z.2).map DQ)++[DQ (dP pl ks s i)]):=by
    rw[ez];unfold MA;rw[a1m,a1m];rfl
   show RD.bV 2 _ (.tup [.int (i:Int),.tup [.str s.nm,.int s.b,.int s.e,.int s.w]]) _ _
   tb_from(⟨rfl,?_⟩)
   tb_from(⟨rfl,?_⟩)
   walk_at "w"
   refine⟨by rw[mQ];decide,JZ ks,?_⟩
   rw[GJ]
   subst hd
   refine gW (λh=>?_) λh=>?_
   ·tb_from(⟨rfl,?_⟩)
    tb_from(tH ge ?_)
    tb_from(tH gb ?_)
    tb_from(⟨rfl,?_⟩)
    tb_from(⟨mY hlen,?_⟩)
    refine hN _ ⟨some (.int (i:Int)),some (.str s.nm),some (.int s.b),some (.int s.e),some (.int s.w),?_⟩
    rw[es]
    have:dP pl ks s i=⟨iS pl s.e,iS pl s.b,-s.w,some (i:Int)⟩:=if_pos h
    rw[this];rfl
   ·tb_from(⟨rfl,?_⟩)
    tb_from(tH gb ?_)
    tb_from(tH ge ?_)
    tb_from(⟨rfl,?_⟩)
    tb_from(⟨mY hlen,?_⟩)
    refine hN _ ⟨some (.int (i:Int)),some (.str s.nm),some (.int s.b),some (.int s.e),some (.int s.w),?_⟩
    rw[es]
    have:dP pl ks s i=⟨iS pl s.b,iS pl s.e,s.w,some (i:Int)⟩:=if_neg h
    rw[this];rfl
  ·rintro env ⟨t5,t6,t7,t8,t9,rfl⟩
   rw[fX,a0d,a1y]
   walk_at "w"
   exact q
def e7(bk:List Sr)(ks lim pl:List Int):List Int:=(lim.zip pl).map λ(z:Int×Int)=>z.1-((aS (aU bk ks) z.2:Nat):Int)
def gE(bk:List Sr)(pl lim ks:List Int):List Rd:=BO (e7 bk ks lim pl)++WI bk pl ks
theorem EG {bk:List Sr} {pl lim ks:List Int} {R:PV->Prop} (hb:bk.length<=31) (hp:pl.length<=100) (nd:pl.Nodup) (hin:∀s∈bk,s.b∈pl/\s.e∈pl) (hk:ks.length<=100) (ok:∀k∈ks,0<=k/\k<(bk.length:Int)) (q:R (MA (gE bk pl lim ks))):fU [eW bk,dF pl,dF lim,dF ks] R:=by
 unfold fU
 walk_at "w"
 refine⟨by rw[k8];exact bX (by simp;omega),?_⟩
 refine kK (λi acc env=>acc=(((lim.zip pl).take i).map λ(z:Int×Int)=>z.1-((aS (aU bk ks) z.2:Nat):Int)).map PV.int/\∃t1 t2,env=[t1,t2,some (eW bk),some (dF ks)]) ⟨rfl,_,_,rfl⟩ ?_ ?_
 ·rintro i x acc env N hx ⟨rfl,t1,t2,rfl⟩ hN
  rw[B0] at hx
  obtain⟨a,b,ha,hb',rfl⟩:=hx
  rw[a0g,a0r] at ha hb'
  obtain⟨l,hl,rfl⟩:=ha
  obtain⟨p,hp',rfl⟩:=hb'
  have ez:(lim.zip pl)[i]? =some (l,p):=a3e.mpr ⟨hl,hp'⟩
  tb_from(⟨rfl,?_⟩)
  tb_from(qD (by omega) ok ?_)
  tb_from(hN _ _ ⟨?_,_,_,rfl⟩)
  rw[a1o,ez];simp
 ·rintro acc env ⟨rfl,t1,t2,rfl⟩
  have e1:(wR (lim.map PV.int) (pl.map PV.int)).length=(lim.zip pl).length:=by rw[k8];simp
  rw[e1,a1y]
  have hz:(lim.zip pl).length<=pl.length:=by rw[a5p];omega
  walk_at "w"
  refine zD (rooms:=e7 bk ks lim pl) (by unfold e7;rw[a0d];omega) ?_
  tb_from(sP hb hp nd hin hk ?_)
  have hf:(BO (e7 bk ks lim pl)).length<=200:=by
   have h1:(e7 bk ks lim pl).length<=100:=by unfold e7;rw[a0d];omega
   unfold BO tP tR
   rw[a1r,a4q,a0d,a0d,a4j]
   have:=a3i (λi=>decide (0<(e7 bk ks lim pl).getD i 0)) (List.range (e7 bk ks lim pl).length)
   rw[a4j] at this
   omega
  have hs:(WI bk pl ks).length<=31:=by unfold WI;rw[a0d,a6z];omega
  refine⟨bX (by rw[a0d,a0d];omega),?_⟩
  rw[<- a1m]
  exact q
structure PlOk(bk:List Sr)(pl:List Int):Prop where
 lt:pl.Pairwise (· < ·)
 ne:0<pl.length
 mem:∀s∈bk,s.b∈pl/\s.e∈pl/\s.b<s.e
theorem PlOk.nd{bk:List Sr}{pl:List Int}(h:PlOk bk pl):pl.Nodup:=h.lt.imp λh=>by omega
theorem nI{pl:List Int}{m:Int}(h:m∈pl):iS pl m<pl.length:=List.idxOf_lt_length_of_mem h
theorem ET{pl:List Int}{m:Int}(h:m∈pl):pl[iS pl m]'(nI h)=m:=List.getElem_idxOf (nI h)
theorem PlOk.le {bk:List Sr} {pl:List Int} (h:PlOk bk pl) {m:Int} (hm:m∈pl) {c:Nat} (hc:c<pl.length):iS pl m<=c↔m<=pl[c]:=by
 have pw:=a3d.mp h.lt
 have e:=ET hm
 constructor
 ·intro z
  rcases a4u z with y|y
  ·subst y;rw[e];exact a4h _
  ·have:=pw _ _ (nI hm) hc y
   rw[e] at this;omega
 ·intro z
  refine a4n λy=>?_
  have:=pw _ _ hc (nI hm) y
  rw[e] at this;omega
theorem PlOk.over{bk:List Sr}{pl:List Int}(h:PlOk bk pl){s:Sr}(hs:s∈bk){c:Nat}(hc:c<pl.length):aR s pl[c]=true↔iS pl s.b<=c/\c<iS pl s.e:=by
 obtain⟨h1,h2,h3⟩:=h.mem s hs
 rw[fY,h.le h1 hc]
 have:=h.le h2 hc
 omega
theorem PlOk.ilt{bk:List Sr}{pl:List Int}(h:PlOk bk pl){s:Sr}(hs:s∈bk):iS pl s.b<iS pl s.e:=by
 obtain⟨h1,h2,h3⟩:=h.mem s hs
 refine a5i λz=>?_
 have:=(h.le h2 (nI h1)).mp z
 rw[ET h1] at this
 omega
def rE(c x:Nat):Int:=if x<=c then 0 else 1
def l6(c:Nat)(r:Rd):Int:=rE c r.v-rE c r.u
theorem LW {ls:Ls} {st v:Nat} {p:List Rd} (hv:∀w r,gt ls w=some r->r.v=w) (h:Way ls st v p) (c:Nat):(p.map (l6 c)).sum=rE c v-rE c st:=by
 induction h with
 |base=>simp
 | @step v r p e w ih=>
  rw[a0h,a0s,ih]
  unfold l6
  rw[hv v r e];omega
theorem vX {f:Int->Int} {len:Nat}:∀ {ns:List Int},ns.Nodup->(∀k∈ns,0<=k/\k<(len:Int))->((List.range len).map λ(j:Nat)=>if (j:Int)∈ns then f (j:Int) else 0).sum=(ns.map f).sum
 | [],_,_=>by
  rw[a5w,List.sum_nil]
  have:∀l:List Nat,(l.map λ(j:Nat)=>if (j:Int)∈([]:List Int) then f (j:Int) else 0).sum=0:=by
   intro l
   induction l with
   |nil=>rfl
   |cons a l ih=>rw[a0h,a0s,ih];simp
  exact this _
 | k :: ns,nd,h=>by
  have nd':=a2i.mp nd
  have ih:=vX (f:=f) nd'.2 λj hj=>h j (a0k _ hj)
  rw[a0h,a0s,<- ih]
  have hk:=h k a0m
  have key:∀l:List Nat,l.Nodup->(l.map λ(j:Nat)=>if (j:Int)∈k::ns then f (j:Int) else 0).sum=(if k.toNat∈l then f k else 0)+(l.map λ(j:Nat)=>if (j:Int)∈ns then f (j:Int) else 0).sum:=by
   intro l
   induction l with
   |nil=>intro _;rfl
   | cons a l ihl=>
    intro ndl
    have ndl':=a2i.mp ndl
    rw[a0h,a0s,a0h,a0s,ihl ndl'.2]
    by_cases e:(a:Int)=k
    ·have ea:a=k.toNat:=by omega
     have n1:¬(a:Int)∈ns:=by rw[e];exact nd'.1
     have n2:¬k.toNat∈l:=by rw[<- ea];exact ndl'.1
     rw[if_pos (by rw[e];exact a0m),if_neg n2,if_neg n1,if_pos (by rw[<- ea];exact a0m),e]
    ·have e1:((a:Int)∈k::ns)↔(a:Int)∈ns:=by simp[e]
     have e2:(k.toNat∈a::l)↔k.toNat∈l:=by
      have:¬k.toNat=a:=by omega
      simp[this]
     simp only[e1,e2]
     omega
  rw[key _ List.nodup_range,if_pos (a1s.mpr (by omega))]
theorem IU{α:Type}(f g:α->Int):∀l:List α,(l.map λa=>f a+g a).sum=(l.map f).sum+(l.map g).sum
 |[]=>rfl
 |a::l=>by rw[a0h,a0s,a0h,a0s,a0h,a0s,IU f g l];omega
theorem dA{α:Type}{f g:α->Int}:∀ {l:List α},(∀a∈l,f a=g a)->(l.map f).sum=(l.map g).sum
 |[],_=>rfl
 |a::l,h=>by rw[a0h,a0s,a0h,a0s,h a a0m,dA λb hb=>h b (a0k _ hb)]
theorem SmOk.nd{ks:List Int}{n:Nat}(h:SmOk ks n):ks.Nodup:=h.lt.imp λh=>by omega
theorem mE{bk:List Sr}{ks:List Int}{len:Nat}(h:SmOk ks len)(f:Sr->Int):((aU bk ks).map f).sum=((List.range len).map λ(j:Nat)=>if (j:Int)∈ks then f (cR bk (j:Int)) else 0).sum:=by
 rw[vX (f:=λk=>f (cR bk k)) h.nd h.at_]
 unfold aU
 rw[a2h];rfl
theorem zT (ss:List Sr) (m:Int):(aS ss m:Int)=(ss.map λs=>if aR s m then (1:Int) else 0).sum:=by
 unfold aS
 induction ss with
 |nil=>rfl
 | cons s ss ih=>
  rw[a0h,a0s,<- ih,List.countP_cons]
  by_cases h:aR s m=true
  ·simp[h];omega
  ·simp[h]
theorem J8 {bk:List Sr} {ks ns:List Int} {len:Nat} (hk:SmOk ks len) (nd:ns.Nodup) (hn:∀k∈ns,0<=k/\k<(len:Int)) (f:Sr->Int) :
  ((aU bk (aP (n8 ks ns))).map f).sum=((aU bk ks).map f).sum+(ns.map λk=>if k∈ks then -f (cR bk k) else f (cR bk k)).sum:=by
 have hx:SmOk (aP (n8 ks ns)) len:=⟨gN _,λk hk'=>by
  rw[bW,m6] at hk'
  rcases hk' with z|z
  ·exact hk.at_ k z.1
  ·exact hn k z.1⟩
 rw[mE hx,mE hk,<- vX (f:=λk=>if k∈ks then -f (cR bk k) else f (cR bk k)) nd hn,<- IU]
 refine dA λj _=>?_
 have e:((j:Int)∈aP (n8 ks ns))↔(((j:Int)∈ks/\(j:Int)∉ns)\/((j:Int)∈ns/\(j:Int)∉ks)):=by rw[bW,m6]
 by_cases h1:(j:Int)∈ks<;>by_cases h2:(j:Int)∈ns<;>simp[e,h1,h2]<;>omega
theorem R0 {ks ns:List Int} {len:Nat} (hk:SmOk ks len) (hn:∀k∈ns,0<=k/\k<(len:Int)):SmOk (aP (n8 ks ns)) len:=⟨gN _,λk hk'=>by
  rw[bW,m6] at hk'
  rcases hk' with z|z
  ·exact hk.at_ k z.1
  ·exact hn k z.1⟩
theorem IV {f:Rd->Int} {A B:Rd} (hAB:A≠B):∀ {p:List Rd},p.Nodup->(∀r∈p,(r=A->f r=1)/\(r=B->f r=-1)/\(r≠A->r≠B->f r=0))->(p.map f).sum=(if A∈p then 1 else 0)-(if B∈p then 1 else 0)
 |[],_,_=>by simp
 | r::p,nd,h=>by
  have nd':=a2i.mp nd
  have ih:=IV hAB nd'.2 λq hq=>h q (a0k _ hq)
  rw[a0h,a0s,ih]
  obtain⟨h1,h2,h3⟩:=h r a0m
  by_cases eA:r=A
  ·subst eA
   have nB:¬(B=r):=λz=>hAB z.symm
   rw[h1 rfl]
   simp[nd'.1,nB]
   omega
  ·by_cases eB:r=B
   ·subst eB
    have nA:¬(A=r):=hAB
    rw[h2 rfl]
    simp[nd'.1,nA]
    omega
   ·have nA:¬(A=r):=λz=>eA z.symm
    have nB:¬(B=r):=λz=>eB z.symm
    rw[h3 eA eB]
    simp[nA,nB]
theorem LI{bk:List Sr}{ks lim pl:List Int}(h:lim.length<=pl.length):(e7 bk ks lim pl).length=lim.length:=by
 unfold e7;rw[a0d,a5p];omega
theorem mI{bk:List Sr}{ks lim pl:List Int}{c:Nat}(hc:c<lim.length)(hp:c<pl.length):(e7 bk ks lim pl).getD c 0=lim[c]-((aS (aU bk ks) pl[c]:Nat):Int):=by
 unfold e7
 have ez:(lim.zip pl)[c]? =some (lim[c],pl[c]):=a3e.mpr ⟨a0a hc,a0a hp⟩
 rw[a0c,a0g,ez];rfl
theorem pJ{bk:List Sr}{j:Nat}(h:j<bk.length):cR bk (j:Int)=bk[j]:=QV (a0a h)
theorem pK{bk:List Sr}{j:Nat}(h:j<bk.length):cR bk (j:Int)∈bk:=by rw[pJ h];exact a1k h
inductive RdIs(bk:List Sr)(pl lim ks:List Int):Rd->Prop where
 |ahead {i:Nat}:i<lim.length->RdIs bk pl lim ks ⟨i,i+1,0,none⟩
 |back {i:Nat}:i<lim.length->0<(e7 bk ks lim pl).getD i 0->RdIs bk pl lim ks ⟨i+1,i,0,none⟩
 |str {j:Nat}:j<bk.length->RdIs bk pl lim ks (dP pl ks (cR bk (j:Int)) j)
theorem lH {bk:List Sr} {pl lim ks:List Int} (h:lim.length<=pl.length) {r:Rd}:r∈gE bk pl lim ks↔RdIs bk pl lim ks r:=by
 unfold gE BO
 rw[LI h]
 constructor
 ·intro hr
  rcases a1a.mp hr with z|z
  ·rcases a1a.mp z with z|z
   ·obtain⟨i,hi,rfl⟩:=a0p.mp z
    exact .ahead (a1s.mp hi)
   ·obtain⟨i,hi,rfl⟩:=a0p.mp (a6a.mp z)
    obtain⟨h1,h2⟩:=a2f.mp hi
    exact .back (a1s.mp h1) (by simpa using h2)
  ·obtain⟨⟨s,j⟩,hz,rfl⟩:=a0p.mp z
   have:=List.mem_zipIdx hz
   have hj:j<bk.length:=by simpa using this.2.1
   have es:s=cR bk (j:Int):=by rw[pJ hj];simpa using this.2.2
   dsimp only
   rw[es]
   exact .str hj
 ·intro hr
  cases hr with
  |ahead hi=>exact a2z _ (a2z _ (a0p.mpr ⟨_,a1s.mpr hi,rfl⟩))
  |back hi hr=>exact a2z _ (a0z _ (a6a.mpr (a0p.mpr ⟨_,a2f.mpr ⟨a1s.mpr hi,by simpa using hr⟩,rfl⟩)))
  | @str j hj=>
   refine a0z _ (a0p.mpr ⟨(bk[j],j),?_,by rw[pJ hj]⟩)
   exact a0u (i:=j) (by rw[List.getElem?_zipIdx,a0a hj];simp)
theorem IT{pl ks:List Int}{s:Sr}{j:Nat}:(dP pl ks s j).k=some (j:Int):=by unfold dP;split<;>rfl
theorem RdIs.num {bk:List Sr} {pl lim ks:List Int} {r:Rd} (h:RdIs bk pl lim ks r) {k:Int} (hk:r.k=some k):0<=k/\k<(bk.length:Int)/\r=dP pl ks (cR bk k) k.toNat:=by
 cases h with
 |ahead=>cases hk
 |back=>cases hk
 | @str j hj=>
  rw[IT] at hk
  cases hk
  exact⟨by omega,by omega,by rw[a1p]⟩
theorem RdIs.lt {bk:List Sr} {pl lim ks:List Int} (hP:PlOk bk pl) (hl:lim.length+1=pl.length) {r:Rd} (h:RdIs bk pl lim ks r):r.u<pl.length/\r.v<pl.length:=by
 cases h with
 |ahead=>dsimp only;omega
 |back=>dsimp only;omega
 | @str j hj=>
  obtain⟨h1,h2,_⟩:=hP.mem _ (pK hj)
  have:=nI h1
  have:=nI h2
  unfold dP
  split<;>exact⟨by assumption,by assumption⟩
section
variable{bk:List Sr}{pl lim ks:List Int}{p:List Rd}
theorem zX (hp:p.Nodup) (hin:∀r∈p,RdIs bk pl lim ks r):(p.filterMap Rd.k).Nodup:=by
 induction p with
 |nil=>exact List.nodup_nil
 | cons r p ih=>
  have hp':=a2i.mp hp
  have ih:=ih hp'.2 λq hq=>hin q (a0k _ hq)
  rw[a1n]
  cases hk:r.k with
  |none=>exact ih
  | some k=>
   refine a2i.mpr ⟨λhm=>?_,ih⟩
   obtain⟨r',hr',hk'⟩:=a4b.mp hm
   have e1:=((hin r a0m).num hk).2.2
   have e2:=((hin r' (a0k _ hr')).num hk').2.2
   exact hp'.1 (by rw[e1,<- e2];exact hr')
theorem mU(hin:∀r∈p,RdIs bk pl lim ks r):∀k∈p.filterMap Rd.k,0<=k/\k<(bk.length:Int):=by
 intro k hk
 obtain⟨r,hr,e⟩:=a4b.mp hk
 have:=(hin r hr).num e
 exact⟨this.1,this.2.1⟩
theorem IW (f:Rd->Int) (hin:∀r∈p,RdIs bk pl lim ks r):(p.map f).sum=(p.map λr=>if r.k=none then f r else 0).sum+((p.filterMap Rd.k).map λk=>f (dP pl ks (cR bk k) k.toNat)).sum:=by
 induction p with
 |nil=>rfl
 | cons r p ih=>
  have ih:=ih λq hq=>hin q (a0k _ hq)
  rw[a0h,a0s,ih,a0h,a0s,a1n]
  cases hk:r.k with
  |none=>simp;omega
  | some k=>
   have e:=((hin r a0m).num hk).2.2
   simp only[reduceCtorEq,if_false]
   rw[a0h,a0s,<- e];omega
theorem JV (hP:PlOk bk pl) {j:Nat} (hj:j<bk.length) {c:Nat} (hc:c<pl.length):l6 c (dP pl ks (cR bk (j:Int)) j)=if (j:Int)∈ks then -(if aR (cR bk (j:Int)) pl[c] then (1:Int) else 0) else (if aR (cR bk (j:Int)) pl[c] then (1:Int) else 0):=by
 have ho:=hP.over (pK hj) hc
 have hl:=hP.ilt (pK hj)
 unfold l6 dP rE
 by_cases hk:(j:Int)∈ks
 ·rw [if_pos hk,if_pos hk]
  dsimp only
  by_cases h:aR (cR bk (j:Int)) pl[c]=true
  ·have:=ho.mp h
   rw[if_pos h]
   rw[if_pos this.1,if_neg (by omega)];rfl
  ·rw[if_neg h]
   have:¬(iS pl (cR bk (j:Int)).b<=c/\c<iS pl (cR bk (j:Int)).e):=λz=>h (ho.mpr z)
   by_cases h1:iS pl (cR bk (j:Int)).b<=c
   ·rw[if_pos h1,if_pos (by omega)];rfl
   ·rw[if_neg h1,if_neg (by omega)];rfl
 ·rw [if_neg hk,if_neg hk]
  dsimp only
  by_cases h:aR (cR bk (j:Int)) pl[c]=true
  ·have:=ho.mp h
   rw[if_pos h]
   rw[if_pos this.1,if_neg (by omega)];rfl
  ·rw[if_neg h]
   have:¬(iS pl (cR bk (j:Int)).b<=c/\c<iS pl (cR bk (j:Int)).e):=λz=>h (ho.mpr z)
   by_cases h1:iS pl (cR bk (j:Int)).b<=c
   ·rw[if_pos h1,if_pos (by omega)];rfl
   ·rw[if_neg h1,if_neg (by omega)];rfl
theorem ZS (hP:PlOk bk pl) (hk:SmOk ks bk.length) (hp:p.Nodup) (hin:∀r∈p,RdIs bk pl lim ks r) {c:Nat} (hc:c<pl.length) :
  ((aS (aU bk (aP (n8 ks (p.filterMap Rd.k)))) pl[c]:Nat):Int)=(aS (aU bk ks) pl[c]:Nat)+(p.map (l6 c)).sum-((if (⟨c,c+1,0,none⟩ : Rd)∈p then 1 else 0)-(if (⟨c+1,c,0,none⟩ : Rd)∈p then 1 else 0)):=by
 have h1:=J8 (bk:=bk) hk (zX hp hin) (mU hin) λs=>if aR s pl[c] then (1:Int) else 0
 rw[zT,h1,<- zT,IW (l6 c) hin]
 have h2:((p.filterMap Rd.k).map λk=>if k∈ks then -(if aR (cR bk k) pl[c] then (1:Int) else 0) else (if aR (cR bk k) pl[c] then (1:Int) else 0)).sum=((p.filterMap Rd.k).map λk=>l6 c (dP pl ks (cR bk k) k.toNat)).sum:=by
  refine dA λk hk'=>?_
  obtain⟨k0,k1⟩:=mU hin k hk'
  have:=JV (ks:=ks) hP (j:=k.toNat) (by omega) hc
  have e:((k.toNat:Nat):Int)=k:=by omega
  rw[e] at this
  exact this.symm
 rw[h2]
 have h3:(p.map λr=>if r.k=none then l6 c r else 0).sum=(if (⟨c,c+1,0,none⟩ : Rd)∈p then 1 else 0)-(if (⟨c+1,c,0,none⟩ : Rd)∈p then 1 else 0):=by
  refine IV (λz=>by injection z with z1 z2;omega) hp λr hr=>⟨λe=>?_,λe=>?_,λn1 n2=>?_⟩
  ·subst e;simp[l6,rE]
  ·subst e;simp[l6,rE]
  ·cases hin r hr with
   | @ahead i hi=>
    have:i≠c:=λz=>n1 (by rw[z])
    simp only[a6q]
    unfold l6 rE
    dsimp only
    by_cases h:i<=c
    ·rw[if_pos h,if_pos (by omega)];rfl
    ·rw[if_neg h,if_neg (by omega)];rfl
   | @back i hi hr=>
    have:i≠c:=λz=>n2 (by rw[z])
    simp only[a6q]
    unfold l6 rE
    dsimp only
    by_cases h:i<=c
    ·rw[if_pos h,if_pos (by omega)];rfl
    ·rw[if_neg h,if_neg (by omega)];rfl
   |@str j hj=>rw[if_neg (by rw[IT];simp)]
 rw[h3]
 omega
theorem a53 (hk:SmOk ks bk.length) (hp:p.Nodup) (hin:∀r∈p,RdIs bk pl lim ks r):mN (aU bk (aP (n8 ks (p.filterMap Rd.k))))=mN (aU bk ks)+(p.map Rd.g).sum:=by
 have h1:=J8 (bk:=bk) hk (zX hp hin) (mU hin) Sr.w
 unfold mN
 rw[h1,IW Rd.g hin]
 have h2:((p.filterMap Rd.k).map λk=>if k∈ks then -(cR bk k).w else (cR bk k).w).sum=((p.filterMap Rd.k).map λk=>(dP pl ks (cR bk k) k.toNat).g).sum:=by
  refine dA λk hk'=>?_
  obtain⟨k0,k1⟩:=mU hin k hk'
  have e:((k.toNat:Nat):Int)=k:=by omega
  unfold dP
  rw[e]
  split<;>rfl
 have h3:(p.map λr=>if r.k=none then r.g else 0).sum=0:=by
  have:(p.map λr=>if r.k=none then r.g else 0).sum=(p.map λ_=>(0:Int)).sum:=dA λr hr=>by
   cases hin r hr with
   |ahead=>rfl
   |back=>rfl
   |@str j hj=>rw[if_neg (by rw[IT];simp)]
  rw[this]
  clear this hp hin h1 h2
  induction p with
  |nil=>rfl
  |cons a l ih=>rw[a0h,a0s,ih];rfl
 rw[h2,h3];omega
end
theorem iP(f:Nat->Int)(m:Nat):((List.range (m+1)).map f).sum=((List.range m).map f).sum+f m:=by
 rw[a4g,a1m,List.sum_append];simp
theorem MR (bk:List Sr) (f:Sr->Int):(bk.map f).sum=((List.range bk.length).map λ(j:Nat)=>f (cR bk (j:Int))).sum:=by
 have:bk.map f=(List.range bk.length).map λ(j:Nat)=>f (cR bk (j:Int)):=by
  apply a3z
  ·simp
  ·intro i h1 h2
   simp at h1 h2 ⊢
   rw[pJ h1]
 rw[this]
theorem A5 {γ:Nat->Int} {sp:List Int} (F:Int->Int) (h0:∀c,c<sp.length->0<=fG γ c):((jK γ sp).map λp=>p.2*F p.1).sum=((List.range sp.length).map λc=>fG γ c*F (sp.getD c 0)).sum:=by
 unfold jK
 have key:∀m,m<=sp.length->(((((sp.take m).zipIdx.filter λz=>decide (0<fG γ z.2)).map λz=>((z.1,fG γ z.2):Pr))).map λp=>p.2*F p.1).sum=((List.range m).map λc=>fG γ c*F (sp.getD c 0)).sum:=by
  intro m
  induction m with
  |zero=>intro _;rfl
  | succ m ih=>
   intro hm
   have hs:sp[m]? =some (sp.getD m 0):=by
    rw[a0c,a0a (by omega)];rfl
   have ez:(sp.take (m+1)).zipIdx=(sp.take m).zipIdx++[(sp.getD m 0,m)]:=by
    rw[a1o,hs,a6w]
    have:(sp.take m).length=m:=by rw[a2g];omega
    simp[this]
   rw[ez,a4v,a1m,a1m,List.sum_append,ih (by omega),iP]
   congr 1
   rw[a1t]
   by_cases h:0<fG γ m
   ·rw[if_pos (by simpa using h)];simp
   ·have:=h0 m (by omega)
    have e:fG γ m=0:=by omega
    rw[if_neg (by simpa using h),e];simp
 have:=key sp.length (a0l _)
 rw[a1y] at this
 exact this
theorem QR(γ:Nat->Int)(m:Nat):((List.range m).map (fG γ)).sum=γ m-γ 0:=by
 induction m with
 |zero=>simp
 |succ m ih=>rw[iP,ih];unfold fG;omega
theorem yP (γ:Nat->Int) {a b:Nat} (hab:a<=b):∀m,((List.range m).map λc=>fG γ c*(if a<=c/\c<b then 1 else 0)).sum=γ (min b m)-γ (min a m)
 |0=>by simp
 | m+1=>by
  rw[iP,yP γ hab m]
  by_cases h:a<=m/\m<b
  ·rw[if_pos h,a6t]
   rw[show min b (m+1)=m+1 by omega,show min a (m+1)=a by omega,show min b m=m by omega,show min a m=a by omega]
   unfold fG;omega
  ·rw[if_neg h,Int.mul_zero]
   by_cases h2:a<=m
   ·rw[show min b (m+1)=min b m by omega,show min a (m+1)=min a m by omega];omega
   ·rw[show min b (m+1)=m+1 by omega,show min a (m+1)=m+1 by omega,show min b m=m by omega,show min a m=m by omega];omega
theorem WU (s:Sr) (pp:List Pr):cZ s pp=(pp.map λp=>p.2*(if aR s p.1 then 1 else 0)).sum:=by
 unfold cZ
 induction pp with
 |nil=>rfl
 | cons p pp ih=>
  rw[a1t,a0h,a0s,<- ih]
  by_cases h:aR s p.1=true
  ·rw[if_pos h,if_pos h,a0h,a0s];omega
  ·rw[if_neg h,if_neg h];omega
section
variable{bk:List Sr}{pl ks:List Int}{lim:List Int}{γ:Nat->Int}
theorem oP(hl:lim.length+1=pl.length)(fe:sE γ (gE bk pl lim ks)){c:Nat}(hc:c<lim.length):0<=fG γ c:=by
 have:=fe _ ((lH (by omega)).mpr (.ahead hc))
 unfold fG
 dsimp only at this
 omega
theorem nH{pl:List Int}{c:Nat}(hc:c+1<pl.length):pl.dropLast.getD c 0=pl[c]:=by
 rw[a0c,List.dropLast_eq_take,List.getElem?_take,if_pos (by omega),a0a (by omega)];rfl
theorem WV (hP:PlOk bk pl) (hl:lim.length+1=pl.length) (fe:sE γ (gE bk pl lim ks)) {s:Sr} (hs:s∈bk):cZ s (jK γ pl.dropLast)=γ (iS pl s.e)-γ (iS pl s.b):=by
 have hdl:pl.dropLast.length=lim.length:=by rw[a3v];omega
 rw[WU,A5 (λm=>if aR s m then 1 else 0) λc hc=>oP hl fe (by omega),hdl]
 have:((List.range lim.length).map λc=>fG γ c*(if aR s (pl.dropLast.getD c 0) then 1 else 0)).sum=((List.range lim.length).map λc=>fG γ c*(if iS pl s.b<=c/\c<iS pl s.e then 1 else 0)).sum:=dA λc hc=>by
  have hc':=a1s.mp hc
  rw[nH (by omega)]
  have ho:=hP.over hs (c:=c) (by omega)
  by_cases h:aR s pl[c]=true
  ·rw[if_pos h,if_pos (ho.mp h)]
  ·rw[if_neg h,if_neg (λz=>h (ho.mpr z))]
 obtain⟨_,h2,_⟩:=hP.mem s hs
 have hi:=hP.ilt hs
 have he:=nI h2
 rw[this,yP γ (by omega) lim.length,show min (iS pl s.e) lim.length=iS pl s.e by omega,show min (iS pl s.b) lim.length=iS pl s.b by omega]
theorem N8 (hP:PlOk bk pl) (hk:SmOk ks bk.length) (hl:lim.length+1=pl.length) (fe:sE γ (gE bk pl lim ks)) :
  tJ bk (jK γ pl.dropLast)=mN (aU bk ks)-((jK γ pl.dropLast).map λp=>p.2*((aS (aU bk ks) p.1:Nat):Int)).sum:=by
 unfold tJ
 rw[MR,<- oD]
 unfold mN
 rw[mE hk,mE hk]
 have neg:∀(f g:Nat->Int) (l:List Nat),(l.map f).sum-(l.map g).sum=(l.map λj=>f j-g j).sum:=by
  intro f g l
  induction l with
  |nil=>rfl
  |cons a l ih=>rw[a0h,a0s,a0h,a0s,a0h,a0s,<- ih];omega
 rw[neg]
 refine dA λj hj=>?_
 have hj':=a1s.mp hj
 have ht:=WV hP hl fe (pK hj')
 have hr:=fe _ ((lH (by omega)).mpr (.str hj'))
 unfold gQ
 rw[ht]
 unfold dP at hr
 by_cases h:(j:Int)∈ks
 ·rw[if_pos h] at hr
  rw[if_pos h,if_pos h]
  dsimp only at hr
  omega
 ·rw[if_neg h] at hr
  rw[if_neg h,if_neg h]
  dsimp only at hr
  omega
theorem VH (hl:lim.length+1=pl.length) (fe:sE γ (gE bk pl lim ks)) (hld:∀(c:Nat) (h:c<lim.length),((aS (aU bk ks) (pl[c]'(by omega)):Nat):Int)<=lim[c]) (L:Int->Int) (hL:∀(c:Nat) (h:c<lim.length),L (pl[c]'(by omega))=lim[c]) :
  ((jK γ pl.dropLast).map λp=>p.2*((aS (aU bk ks) p.1:Nat):Int)).sum=((jK γ pl.dropLast).map λp=>p.2*L p.1).sum:=by
 have hdl:pl.dropLast.length=lim.length:=by rw[a3v];omega
 rw[A5 (λm=>((aS (aU bk ks) m:Nat):Int)) λc hc=>oP hl fe (by omega),A5 L λc hc=>oP hl fe (by omega),hdl]
 refine dA λc hc=>?_
 have hc':=a1s.mp hc
 rw[nH (by omega),hL c hc']
 have h1:=hld c hc'
 by_cases e:((aS (aU bk ks) (pl[c]'(by omega)):Nat):Int)=lim[c]
 ·rw[e]
 ·have hb:=fe _ ((lH (by omega)).mpr (.back hc' (by rw[mI hc' (by omega)];omega)))
  have h2:=oP hl fe hc'
  have:fG γ c=0:=by
   unfold fG at h2 ⊢
   dsimp only at hb
   omega
  rw[this];simp
end
abbrev m5(pl:List Int)(many:Nat):List Int:=List.replicate (pl.length-1) (many:Int)
structure BS(bk:List Sr)(pl:List Int)(many:Nat)(ks:List Int):Prop where
 sm:SmOk ks bk.length
 ld:∀(c:Nat) (h:c+1<pl.length),aS (aU bk ks) (pl[c]'(by omega))<=many
 pot:∃φ,sE φ (gE bk pl (m5 pl many) ks)
theorem OI{pl:List Int}{many:Nat}(h:0<pl.length):(m5 pl many).length+1=pl.length:=by
 rw[a1z];omega
theorem mT{pl:List Int}{many c:Nat}(h:c<(m5 pl many).length):(m5 pl many)[c]=(many:Int):=List.getElem_replicate ..
section
variable{bk:List Sr}{pl ks:List Int}{many:Nat}{γ:Nat->Int}
theorem BS.claim (h:BS bk pl many ks) (hP:PlOk bk pl) (fe:sE γ (gE bk pl (m5 pl many) ks)):gP bk (many:Int) (jK γ pl.dropLast)=mN (aU bk ks)/\((jK γ pl.dropLast).map (·.2)).sum=γ (pl.length-1)-γ 0:=by
 have hl:=OI (many:=many) hP.ne
 have h1:=N8 hP h.sm hl fe
 have hll:(m5 pl many).length=pl.length-1:=a1z ..
 have h2:=VH (bk:=bk) (ks:=ks) hl fe (λc hc=>by rw[mT];have:=h.ld c (by omega);omega) (λ_=>(many:Int)) (λc hc=>(mT hc).symm)
 have h3:((jK γ pl.dropLast).map λp=>p.2*(many:Int)).sum=((jK γ pl.dropLast).map (·.2)).sum*(many:Int):=by
  generalize jK γ pl.dropLast=pp
  induction pp with
  |nil=>simp
  |cons p pp ih=>rw[a0h,a0s,ih,a0h,a0s,Int.add_mul]
 refine⟨?_,?_⟩
 ·unfold gP
  rw[h1,h2,h3];omega
 ·have h4:=A5 (γ:=γ) (sp:=pl.dropLast) (λ_=>1) λc hc=>oP hl fe (by rw[a3v] at hc;omega)
  have h5:((jK γ pl.dropLast).map λp=>p.2*1).sum=((jK γ pl.dropLast).map (·.2)).sum:=dA λp _=>a6t _
  have h6:((List.range pl.dropLast.length).map λc=>fG γ c*1).sum=((List.range pl.dropLast.length).map (fG γ)).sum:=dA λc _=>a6t _
  rw[<- h5,h4,h6,QR,a3v]
theorem OC (hP:PlOk bk pl) (hk:SmOk ks bk.length) {b:Nat} (h:∀(c:Nat) (h:c+1<pl.length),aS (aU bk ks) (pl[c]'(by omega))<=b) (m:Int):aS (aU bk ks) m<=b:=by
 rcases KS (ms:=pl) (P:=λx=>x<=m) with hn|⟨x,hx,px,top⟩
 ·rw[zU λs hs z=>hn s.b (hP.mem s (v8 hk.at_ hs)).1 z.1];omega
 ·have e:aS (aU bk ks) m=aS (aU bk ks) x:=uJ λs hs=>lY (by
   obtain⟨h1,h2,_⟩:=hP.mem s (v8 hk.at_ hs)
   have:=top _ h1
   have:=top _ h2
   constructor<;>constructor<;>intro z<;>omega)
  rw[e]
  have hi:=nI hx
  have eg:=ET hx
  by_cases hlast:iS pl x+1<pl.length
  ·have:=h _ hlast
   rw[eg] at this;exact this
  ·have:aS (aU bk ks) x=0:=zU λs hs z=>by
    have hm:=hP.mem s (v8 hk.at_ hs)
    have h3:=nI hm.2.1
    have:=(hP.le hm.2.1 hi).mp (by omega)
    rw[eg] at this
    omega
   omega
theorem BS.next (h:BS bk pl many ks) (hP:PlOk bk pl) (fe:sE γ (gE bk pl (m5 pl many) ks)) {ls:Ls} {p:List Rd} (hv:∀w r,gt ls w=some r->r.v=w) (hw:Way ls 0 (pl.length-1) p) (hp:p.Nodup) (hin:∀r∈p,r∈gE bk pl (m5 pl many) ks/\γ r.v=γ r.u+r.g) :
  BS bk pl (many+1) (aP (n8 ks (p.filterMap Rd.k)))/\mN (aU bk (aP (n8 ks (p.filterMap Rd.k))))=mN (aU bk ks)+(γ (pl.length-1)-γ 0):=by
 have hne:=hP.ne
 have hll:(m5 pl many).length=pl.length-1:=a1z ..
 have hll':(m5 pl (many+1)).length=pl.length-1:=a1z ..
 have his:∀r∈p,RdIs bk pl (m5 pl many) ks r:=λr hr=>(lH (by omega)).mp (hin r hr).1
 have sm':=R0 h.sm (mU his)
 have ldc:∀(c:Nat) (hc:c+1<pl.length),((aS (aU bk (aP (n8 ks (p.filterMap Rd.k)))) (pl[c]'(by omega)):Nat):Int)=(aS (aU bk ks) (pl[c]'(by omega)):Nat)+1-((if (⟨c,c+1,0,none⟩ : Rd)∈p then 1 else 0)-(if (⟨c+1,c,0,none⟩ : Rd)∈p then 1 else 0)):=by
  intro c hc
  have:=ZS hP h.sm hp his (c:=c) (by omega)
  rw[LW hv hw c] at this
  rw[this]
  have s1:rE c (pl.length-1)=1:=by unfold rE;rw[if_neg (by omega)]
  have s0:rE c 0=0:=by unfold rE;rw[if_pos (by omega)]
  rw[s1,s0];omega
 have room:∀c,(⟨c+1,c,0,none⟩ : Rd)∈p->∀hc:c+1<pl.length,((aS (aU bk ks) (pl[c]'(by omega)):Nat):Int)<many:=by
  intro c hm hc
  have hi:=his _ hm
  generalize hr:(⟨c+1,c,0,none⟩ : Rd)=r at hi
  cases hi with
  |@ahead i _=>injection hr with z1 z2;omega
  | @back i hi' hroom=>
   injection hr with z1 z2
   subst z2
   rw[mI hi' (by omega),mT] at hroom
   omega
  |@str j hj=>have:=congrArg Rd.k hr;rw[IT] at this;cases this
 refine⟨⟨sm',λc hc=>?_,γ,λr hr=>?_⟩,?_⟩
 ·have e:=ldc c hc
  have:=h.ld c hc
  by_cases hb:(⟨c+1,c,0,none⟩ : Rd)∈p
  ·have:=room c hb hc
   rw[if_pos hb] at e
   split at e<;>omega
  ·rw[if_neg hb] at e
   split at e<;>omega
 ·have hr':=(lH (by omega)).mp hr
  cases hr' with
  |@ahead i hi=>exact fe _ ((lH (by omega)).mpr (.ahead (by omega)))
  | @back i hi hroom=>
   rw[mI hi (by omega),mT] at hroom
   have hi2:i+1<pl.length:=by omega
   have e:=ldc i hi2
   have h1:=h.ld i hi2
   by_cases hfull:aS (aU bk ks) (pl[i]'(by omega))=many
   ·have ha:(⟨i,i+1,0,none⟩ : Rd)∈p:=by
     refine Classical.byContradiction λhna=>?_
     rw[if_neg hna] at e
     have hnb:¬(⟨i+1,i,0,none⟩ : Rd)∈p:=λhb=>by have:=room i hb hi2;omega
     rw[if_neg hnb] at e
     omega
    have:=(hin _ ha).2
    dsimp only at this ⊢
    omega
   ·exact fe _ ((lH (by omega)).mpr (.back (by omega) (by rw[mI (by omega) (by omega),mT];omega)))
  | @str j hj=>
   have hold:=fe _ ((lH (by omega)).mpr (.str (ks:=ks) hj))
   have e:((j:Int)∈aP (n8 ks (p.filterMap Rd.k)))↔(((j:Int)∈ks/\(j:Int)∉p.filterMap Rd.k)\/((j:Int)∈p.filterMap Rd.k/\(j:Int)∉ks)):=by rw[bW,m6]
   by_cases hm:(j:Int)∈p.filterMap Rd.k
   ·obtain ⟨r,hrp,hrk⟩:=a4b.mp hm
    have er:=((his r hrp).num hrk).2.2
    rw[a1p] at er
    have ht:=(hin r hrp).2
    rw[er] at ht
    unfold dP at ht ⊢
    by_cases hk:(j:Int)∈ks
    ·rw[if_pos hk] at ht
     rw[if_neg (λz=>by rcases e.mp z with y|y<;>simp_all)]
     dsimp only at ht ⊢
     omega
    ·rw[if_neg hk] at ht
     rw[if_pos (e.mpr (.inr ⟨hm,hk⟩))]
     dsimp only at ht ⊢
     omega
   ·unfold dP at hold ⊢
    by_cases hk:(j:Int)∈ks
    ·rw[if_pos hk] at hold
     rw[if_pos (e.mpr (.inl ⟨hk,hm⟩))]
     exact hold
    ·rw[if_neg hk] at hold
     rw[if_neg (λz=>by rcases e.mp z with y|y<;>simp_all)]
     exact hold
 ·rw [a53 h.sm hp his]
  congr 1
  have:∀ {v:Nat} {q:List Rd},Way ls 0 v q->(∀r∈q,γ r.v=γ r.u+r.g)->(q.map Rd.g).sum=γ v-γ 0:=by
   intro v q hq
   induction hq with
   |base=>intro _;simp
   | @step v r q e w ih=>
    intro ht
    rw[a0h,a0s,ih λr' hr'=>ht r' (a0k _ hr')]
    have:=ht r a0m
    rw[hv v r e] at this
    omega
  exact this hw λr hr=>(hin r hr).2
theorem BS.start (hP:PlOk bk pl) (hw:∀s∈bk,0<=s.w):BS bk pl 0 []:=by
 refine⟨⟨.nil,by simp⟩,λc h=>by show aS [] _<=0;exact a0l _,λv=>(bk.map λs=>if iS pl s.e<=v then s.w else 0).sum,λr hr=>?_⟩
 have hne:=hP.ne
 have hll:(m5 pl 0).length=pl.length-1:=a1z ..
 have mono:∀ {a b:Nat},a<=b->(bk.map λs=>if iS pl s.e<=a then s.w else 0).sum<=(bk.map λs=>if iS pl s.e<=b then s.w else 0).sum:=by
  intro a b hab
  clear hP hr
  induction bk with
  |nil=>exact a4h _
  | cons s ss ih=>
   rw[a0h,a0s,a0h,a0s]
   have h1:=ih λt ht=>hw t (a0k _ ht)
   have h2:=hw s a0m
   split<;>split<;>omega
 cases (lH (by omega)).mp hr with
 |@ahead i hi=>dsimp only;have:=mono (show i<=i+1 by omega);omega
 | @back i hi hroom=>
  rw[mI hi (by omega),mT] at hroom
  have:aS (aU bk []) (pl[i]'(by omega))=0:=rfl
  omega
 | @str j hj=>
  have hs:=pK hj
  have hl:=hP.ilt hs
  unfold dP
  rw[if_neg (by simp)]
  dsimp only
  generalize cR bk (j:Int)=s at hs hl
  clear hr hj
  have key:∀ss:List Sr,(∀t∈ss,0<=t.w)->s∈ss->(ss.map λt=>if iS pl t.e<=iS pl s.b then t.w else 0).sum+s.w<=(ss.map λt=>if iS pl t.e<=iS pl s.e then t.w else 0).sum:=by
   intro ss
   induction ss with
   |nil=>intro _ h;cases h
   | cons t ss ih=>
    intro h0 hm
    rw[a0h,a0s,a0h,a0s]
    have m1:(ss.map λt=>if iS pl t.e<=iS pl s.b then t.w else 0).sum<=(ss.map λt=>if iS pl t.e<=iS pl s.e then t.w else 0).sum:=by
     have h0':∀t∈ss,0<=t.w:=λt ht=>h0 t (a0k _ ht)
     clear ih hm h0
     induction ss with
     |nil=>exact a4h _
     | cons t ss ih=>
      rw[a0h,a0s,a0h,a0s]
      have h1:=ih λt ht=>h0' t (a0k _ ht)
      have h2:=h0' t a0m
      split<;>split<;>omega
    rcases a0q.mp hm with z|z
    ·subst z
     rw[if_neg (by omega),if_pos (a0l _)];omega
    ·have:=ih (λt ht=>h0 t (a0k _ ht)) z
     have h2:=h0 t a0m
     split<;>split<;>omega
  exact key bk hw hs
end
def M9(gs:Gs)(v:Nat):Int:=(gt gs v).getD 0
section
variable{φ:Nat->Int}{rs:List Rd}{n:Nat}{Gm:Int}{gs:Gs}{ls:Ls}
theorem kI (h:GI φ rs n 0 Gm gs ls) (hf:X6 gs rs) (ha:∀i,i+1<n->(⟨i,i+1,0,none⟩ : Rd)∈rs):∀v,v<n->gt gs v=some (M9 gs v)
 |0,_=>by unfold M9;rw[h.st0];rfl
 | v+1,hv=>by
  have ih:=kI h hf ha v (by omega)
  obtain⟨b,hb,_⟩:=hf _ (ha v hv) _ ih
  dsimp only at hb
  unfold M9;rw[hb];rfl
theorem BQ(h:GI φ rs n 0 Gm gs ls)(hf:X6 gs rs)(ha:∀i,i+1<n->(⟨i,i+1,0,none⟩ : Rd)∈rs)(hrs:∀r∈rs,r.u<n/\r.v<n):sE (M9 gs) rs:=λr hr=>by
 obtain⟨b,hb,le⟩:=hf r hr _ (kI h hf ha r.u (hrs r hr).1)
 have e:=kI h hf ha r.v (hrs r hr).2
 rw[hb] at e
 injection e with e
 omega
theorem UE (h:GI φ rs n 0 Gm gs ls) (hf:X6 gs rs) (ha:∀i,i+1<n->(⟨i,i+1,0,none⟩ : Rd)∈rs):ZG gs=dF ((List.range n).map (M9 gs)):=by
 have:gs.map iT=((List.range n).map (M9 gs)).map PV.int:=by
  apply a3z
  ·simp[h.lg]
  ·intro i h1 h2
   have hi:i<gs.length:=by simpa using h1
   have hn:i<n:=by rw[<- h.lg];exact hi
   have e:=kI h hf ha i hn
   unfold gt at e
   rw[a0c,a0a hi] at e
   simp only[Option.getD_some] at e
   rw[a5j,e,a5j,a5j,List.getElem_range];rfl
 show PV.lst _=PV.lst _
 rw[this]
theorem UF(h:GI φ rs n 0 Gm gs ls)(hf:X6 gs rs)(ha:∀i,i+1<n->(⟨i,i+1,0,none⟩ : Rd)∈rs)(hrs:∀r∈rs,r.u<n/\r.v<n)(hn:0<n):∃p,Way ls 0 (n-1) p/\p.Nodup/\p.length<=n/\∀r∈p,r∈rs/\M9 gs r.v=M9 gs r.u+r.g:=by
 obtain⟨k,hk⟩:=h.ch _ _ (kI h hf ha (n-1) (by omega))
 obtain⟨p,hp,_⟩:=a26 hk
 refine⟨p,hp,(a3q.mp (h.wayNd hp)).imp λhne heq=>hne (congrArg _ heq),h.wayLen hrs hp,λr hr=>?_⟩
 obtain⟨h1,h2⟩:=h.wayIn hp r hr
 refine⟨h1,?_⟩
 obtain⟨_,_,a,b,e1,e2,le⟩:=h.las _ _ h2
 have f:=BQ h hf ha hrs r h1
 rw[kI h hf ha r.u (hrs r h1).1] at e1
 rw[kI h hf ha r.v (hrs r h1).2] at e2
 injection e1 with e1
 injection e2 with e2
 omega
end
structure Bst(bk:List Sr)(b:Nat)(ks:List Int)(pp:List Pr):Prop where
 sm:SmOk ks bk.length
 ld:∀m,aS (aU bk ks) m<=b
 cl:gP bk (b:Int) pp=mN (aU bk ks)
 pr:PpOk pp (λm x=>1<=x/\∃s∈bk,m=s.b\/m=s.e) (2*bk.length)
 nx:∃ks',SmOk ks' bk.length/\(∀m,aS (aU bk ks') m<=b+1)/\gP bk ((b:Int)+1) pp=mN (aU bk ks')
theorem tX(bk:List Sr)(b:Int)(pp:List Pr):gP bk (b+1) pp=gP bk b pp+(pp.map (·.2)).sum:=by
 unfold gP
 rw[Int.mul_add];omega
theorem Bst.nn{bk:List Sr}{b:Nat}{ks:List Int}{pp:List Pr}(h:Bst bk b ks pp):∀p∈pp,0<=p.2:=λp hp=>by have:=(h.pr.at_ p hp).1;omega
theorem a3X {bk:List Sr} {n:Nat} (hb:∀s∈bk,s.b<s.e):PlOk bk (wL bk):=by
 unfold wL
 split
 ·rename_i e
  have:bk=[]:=by
   cases bk with
   |nil=>rfl
   | cons s ss=>
    have:s.b∈aP (gX (s::ss)):=bW.mpr (gH.mpr ⟨s,a0m,.inl rfl⟩)
    rw[e] at this;cases this
  subst this
  exact⟨by simp,by simp,λs hs=>by cases hs⟩
 ·rename_i e
  refine⟨gN _,List.length_pos_iff.mpr e,λs hs=>⟨bW.mpr (gH.mpr ⟨s,hs,.inl rfl⟩),bW.mpr (gH.mpr ⟨s,hs,.inr rfl⟩),hb s hs⟩⟩
theorem a0Q {bk:List Sr}:(wL bk).length<=2*bk.length+1:=by
 unfold wL
 split
 ·simp
 ·have:=rF (gX bk)
  rw[zV] at this
  omega
theorem a0R{bk:List Sr}{m:Int}(h:m∈(wL bk).dropLast):∃s∈bk,m=s.b\/m=s.e:=by
 unfold wL at h
 split at h
 ·cases h
 ·exact gH.mp (bW.mp (List.dropLast_subset _ h))
theorem a3Z {γ:Nat->Int} {sp:List Int} (lt:sp.Pairwise (· < ·)) {P:Int->Prop} (hP:∀m∈sp,P m) {n:Nat} (hn:sp.length<=n):PpOk (jK γ sp) (λm x=>1<=x/\P m) n:=by
 unfold jK
 refine⟨?_,λp hp=>?_,?_⟩
 ·rw[a3q]
  refine List.Pairwise.filter _ ?_
  have:(sp.zipIdx.map Prod.fst).Pairwise (· < ·):=by rw[List.zipIdx_map_fst];exact lt
  exact a3q.mp this
 ·obtain⟨z,hz,rfl⟩:=a0p.mp hp
  obtain⟨h1,h2⟩:=a2f.mp hz
  have h2:0<fG γ z.2:=by simpa using h2
  refine⟨by dsimp only;omega,hP _ ?_⟩
  have:=List.mem_map_of_mem (f:=Prod.fst) h1
  rw[List.zipIdx_map_fst] at this
  exact this
 ·rw[a0d]
  have:=a3i (λz:Int×Nat=>decide (0<fG γ z.2)) sp.zipIdx
  rw[a6z] at this
  omega
theorem N9 (xs:List Int):qG (xs.map PV.int) none (some (-1))=xs.dropLast.map PV.int:=by
 unfold qG
 rw[HT.sIx_none]
 have:HT.sIx (xs.map PV.int).length (xs.map PV.int).length (some (-1))=xs.length-1:=by
  unfold HT.sIx
  simp
  omega
 rw[this,List.dropLast_eq_take,List.drop_zero,Nat.sub_zero,List.map_take]
abbrev Tl:=List Int×List Pr
def WT(z:Tl):PV:=.tup [dF z.1,d7 z.2]
theorem ZV {l:List Int} {n:Nat} (nd:l.Nodup) (h:∀k∈l,0<=k/\k<(n:Int)):l.length<=n:=by
 have:=ON n (l.map Int.toNat) (by
  rw[a5s,a3q]
  refine List.Pairwise.imp_of_mem (fun {a b} ha hb hne z=>hne ?_) nd
  have:=h a ha
  have:=h b hb
  omega) λx hx=>by
   obtain⟨k,hk,rfl⟩:=a0p.mp hx
   have:=h k hk
   omega
 simpa using this
theorem a4E(m:Nat)(x:Int):(List.replicate (m:Int).toNat [PV.int x]).flatten=(List.replicate m x).map PV.int:=by
 rw[a1p,a6y];simp
theorem zB {bk:List Sr} {B:Nat} {R:PV->Prop} (hb:bk.length<=31) (hlt:∀s∈bk,s.b<s.e) (hw:∀s∈bk,0<=s.w) (hB:B<=100)
  (q:∀tl:List Tl,tl.length=B+1->(∀(j:Nat) (h:j<tl.length),Bst bk j tl[j].1 tl[j].2)->R (.lst (tl.map WT))):dS [eW bk,.int B] R:=by
 unfold dS
 have hP:PlOk bk (wL bk):=a3X (n:=0) hlt
 have hpl:=a0Q (bk:=bk)
 tb_from(B9 hb ?_)
 generalize hpe:wL bk=pl at hP hpl ⊢
 have hne:=hP.ne
 tb_from(⟨by omega,by omega,?_⟩)
 refine cB (λi env=>∃(ks:List Int) (tl:List Tl) (t5 t6 t7 t8:Option PV),env=[some (eW bk),some (.int B),some (dF pl),some (dF ks),some (.lst (tl.map WT)),t5,t6,t7,t8]/\BS bk pl i ks/\tl.length=i/\∀(j:Nat) (h:j<tl.length),Bst bk j tl[j].1 tl[j].2) ⟨[],[],none,none,none,none,rfl,BS.start hP hw,rfl,λj h=>by cases h⟩ ?_ ?_
 ·rintro i x env N hx ⟨ks,tl,t5,t6,t7,t8,rfl,bs,hti,hall⟩ hN
  obtain⟨rfl,hi⟩:=dG hx
  have hkl:=bs.sm.len
  have x0:(0:Int)+(i:Int)=i:=by omega
  rw[x0]
  walk_at "w"
  have hmap:(pl.map PV.int).length=pl.length:=a0d ..
  have e1:((pl.map PV.int).length:Int)-1=((pl.length-1:Nat):Int):=by rw[hmap];omega
  refine⟨by omega,by omega,bX (by rw[e1];simp;omega),?_⟩
  rw[e1,a4E]
  have hll:(m5 pl i).length=pl.length-1:=a1z ..
  tb_from(EG hb (by omega) hP.nd (λs hs=>⟨(hP.mem s hs).1,(hP.mem s hs).2.1⟩) (by omega) bs.sm.at_ (lim:=m5 pl i) ?_)
  walk_at "w"
  obtain⟨φ,hφ⟩:=bs.pot
  have hrs:∀r∈gE bk pl (m5 pl i) ks,r.u<pl.length/\r.v<pl.length:=λr hr=>RdIs.lt hP (by omega) ((lH (by omega)).mp hr)
  have ha:∀j,j+1<pl.length->(⟨j,j+1,0,none⟩ : Rd)∈gE bk pl (m5 pl i) ks:=λj hj=>(lH (by omega)).mpr (.ahead (by omega))
  rw[hmap]
  refine qB hφ hrs (st:=0) hne (by omega) λgs ls Gm gi fx=>?_
  have hγ:=BQ gi fx ha hrs
  obtain⟨p,hp,pnd,plen,pin⟩:=UF gi fx ha hrs hne
  have his:∀r∈p,RdIs bk pl (m5 pl i) ks r:=λr hr=>(lH (by omega)).mp (pin r hr).1
  obtain⟨bn,wn⟩:=bs.next hP hγ (λw r e=>(gi.las w r e).2.1) hp pnd pin
  obtain⟨c1,c2⟩:=bs.claim hP hγ
  rw[UE gi fx ha]
  tb_from(⟨rfl,?_⟩)
  tb_from(⟨rfl,?_⟩)
  walk_at "w"
  rw[N9]
  refine BA (by omega) (by rw[a3v];omega) ?_
  walk_at "w"
  refine⟨mY (by rw[a0d];omega),?_⟩
  walk_at "w"
  have e2:(λ(i j:Int)=>PV.int (i-j)) ((pl.map PV.int).length:Int) 1= .int ((pl.length-1:Nat):Int):=by dsimp only;rw[e1]
  rw[e2]
  refine sO hp gi.stl (by rw[gi.ll];omega) (λr hr=>by rw[gi.ll];exact (hrs r (pin r hr).1).1) (by omega) ?_
  walk_at "w"
  have nl:=ZV (zX pnd his) (mU his)
  refine zC (by omega) (by omega) ?_
  walk_at "w"
  have et:(tl++[(ks,jK (M9 gs) pl.dropLast)]).map WT=tl.map WT++[.tup [dF ks,d7 (jK (M9 gs) pl.dropLast)]]:=by rw[a1m];rfl
  refine hN _ ⟨_,tl++[(ks,jK (M9 gs) pl.dropLast)],_,_,_,_,by rw[et],bn,by simp[hti],λj hj=>?_⟩
  have hlen:(tl++[(ks,jK (M9 gs) pl.dropLast)]).length=i+1:=by simp[hti]
  by_cases hji:j<tl.length
  ·rw[List.getElem_append_left hji];exact hall j hji
  ·have ej:j=tl.length:=by omega
   subst ej
   rw[List.getElem_append_right (a0l _)]
   simp only[Nat.sub_self,List.getElem_cons_zero]
   rw[hti]
   refine⟨bs.sm,OC hP bs.sm bs.ld,c1,a3Z (hP.lt.sublist (List.dropLast_sublist _)) (λm hm=>a0R (by rw[hpe];exact hm)) (by rw[a3v];omega),_,bn.sm,OC hP bn.sm bn.ld,?_⟩
   rw[tX,c1,c2,wn]
 ·rintro env ⟨ks,tl,t5,t6,t7,t8,rfl,bs,hti,hall⟩
  walk_at "w"
  rw[bQ] at hti
  exact q tl (by omega) hall
theorem v9 (bk:List Sr):aU bk ((List.range bk.length).map λ(i:Nat)=>(i:Int))=bk:=by
 unfold aU
 apply a3z
 ·simp
 ·intro i h1 h2
  rw[a5j,a5j,List.getElem_range,pJ h2]
theorem KR {bk:List Sr} {ks:List Int} (h:SmOk ks bk.length) (m:Int):aS (aU bk ks) m<=aS bk m:=by
 have e1:=zT (aU bk ks) m
 have e2:=zT bk m
 rw[mE h] at e1
 rw[MR] at e2
 have:∀l:List Nat,(l.map λ(j:Nat)=>if (j:Int)∈ks then (if aR (cR bk (j:Int)) m then (1:Int) else 0) else 0).sum<=(l.map λ(j:Nat)=>if aR (cR bk (j:Int)) m then (1:Int) else 0).sum:=by
  intro l
  induction l with
  |nil=>exact a4h _
  | cons j l ih=>
   rw[a0h,a0s,a0h,a0s]
   split<;>split<;>omega
 have:=this (List.range bk.length)
 omega
theorem sN{bk:List Sr}{R:PV->Prop}(hb:bk.length<=31)(hlt:∀s∈bk,s.b<s.e)(q:∀G f,Crowd bk G f->R (.int (G:Nat))):cF [eW bk] R:=by
 unfold cF
 walk_at "w"
 have hm:(bk.map kA).length=bk.length:=a0d ..
 refine⟨by omega,by omega,?_⟩
 rw[hm,a1p,ER]
 walk_at "w"
 have sm:=FW bk.length
 refine ED (by simpa using hb) sm.at_ (by rw[v9];exact hlt) λG f hc=>?_
 rw[v9] at hc
 tb_from(eE rfl ?_)
 exact q G f hc
theorem Bst.stays {bk:List Sr} {G b:Nat} {f:Option Int} {ks:List Int} {pp:List Pr} (hc:Crowd bk G f) (h:Bst bk G ks pp) (hb:G<=b) (hne:G<b):Bst bk b ks pp:=by
 obtain⟨ks',s',l',c'⟩:=h.nx
 have h1:=OQ (b:=(G:Int)) s' (λm=>by have:=KR s' m;have:=hc.top m;omega) h.nn
 rw[tX,h.cl] at c'
 rw[h.cl] at h1
 have hp:pp=[]:=by
  cases pp with
  |nil=>rfl
  | cons p pp=>
   have p1:=(h.pr.at_ p a0m).1
   have:∀l:List Pr,(∀p∈l,0<=p.2)->0<=(l.map (·.2)).sum:=by
    intro l
    induction l with
    |nil=>intro _;exact a4h _
    | cons a l ih=>
     intro hl
     have h1:=hl a a0m
     have h2:=ih λp hp=>hl p (a0k _ hp)
     rw[a0h,a0s];omega
   have:=this pp λp hp=>h.nn p (a0k _ hp)
   rw[a0h,a0s] at c'
   omega
 subst hp
 have e:∀c:Int,gP bk c []=gP bk (G:Int) []:=λc=>by unfold gP;simp
 exact⟨h.sm,λm=>a0y (h.ld m) hb,by rw[e];exact h.cl,h.pr,ks,h.sm,λm=>a0y (h.ld m) (by omega),by rw[e];exact h.cl⟩
theorem EC {bk:List Sr} {b:Nat} {R:PV->Prop} (hb:bk.length<=31) (hlt:∀s∈bk,s.b<s.e) (hw:∀s∈bk,0<=s.w) (q:∀ks pp,Bst bk b ks pp->R (.tup [dF ks,d7 pp])):fP [eW bk,.int b] R:=by
 unfold fP
 tb_from(sN hb hlt λG f hc=>?_)
 have hG:G<=bk.length:=hc.le_of λm=>List.countP_le_length
 walk_at "w"
 have em:min (b:Int) (G:Int)=((min b G:Nat):Int):=by omega
 rw[em]
 refine zB hb hlt hw (by omega) λtl hl hall=>?_
 walk_at "w"
 have hlast:=hall (min b G) (by omega)
 refine c4 (z:=WT (tl[min b G]'(by omega))) ?_ ?_
 ·have e:tl=tl.dropLast++[tl[min b G]'(by omega)]:=by
   have h1:=(List.dropLast_concat_getLast (l:=tl) (λz=>by rw[z] at hl;cases hl)).symm
   rw[List.getLast_eq_getElem] at h1
   have h2:tl.length-1=min b G:=by omega
   simp only[h2] at h1
   exact h1
  have e2:tl.map WT=tl.dropLast.map WT++[WT (tl[min b G]'(by omega))]:=by
   have:=congrArg (List.map WT) e
   rw[a1m] at this
   exact this
  rw[e2]
  exact MN _ _
 ·refine q _ _ ?_
  by_cases h:b<=G
  ·have e:min b G=b:=by omega
   simp only[e] at hlast ⊢
   exact hlast
  ·have e:min b G=G:=by omega
   simp only[e] at hlast ⊢
   exact hlast.stays hc (by omega) (by omega)
theorem JM{bk:List Sr}{b:Nat}{R:PV->Prop}(hb:bk.length<=31)(hlt:∀s∈bk,s.b<s.e)(hw:∀s∈bk,0<=s.w)(q:∀ks pp,Bst bk b ks pp->R (.tup [.int (mN (aU bk ks)),dF ks,d7 pp])):fT [eW bk,.int b] R:=by
 unfold fT
 tb_from(EC hb hlt hw λks pp h=>?_)
 tb_from(⟨rfl,?_⟩)
 walk_at "w"
 have:=h.sm.len
 refine SZ (by omega) h.sm.at_ ?_
 walk_at "w"
 exact q ks pp h
def a2C(bk:List Sr)(ks:List Int)(b:Int):Prop:=∀k∈ks,(aS (aU bk ks) (cR bk k).b:Int)<=b
theorem N0 {bk:List Sr} {ks:List Int} {b:Int} {R:PV->Prop} (hl:ks.length<=100) (ok:∀k∈ks,0<=k/\k<(bk.length:Int)) (q:∀r,(r=true↔a2C bk ks b)->R (.bl r)):jR [eW bk,dF ks,.int b] R:=by
 unfold jR
 walk_at "w"
 refine⟨bX (by rw[a0d];omega),?_⟩
 refine iJ (λx=>match x with|.int k=>if (aS (aU bk ks) (cR bk k).b:Int)>b then some (.int k) else none|_=>none) (λenv=>∃t,env=[t,some (.int b),some (eW bk),some (dF ks)]) ⟨_,rfl⟩ ?_ ?_
 ·rintro x env N hx ⟨t,rfl⟩ hN
  obtain⟨k,hk,rfl⟩:=a0p.mp hx
  have hN:=hN [some (.int k),some (.int b),some (eW bk),some (dF ks)] ⟨_,rfl⟩
  dsimp only at hN
  tb_from(c4 (xA (ok k hk).1 (ok k hk).2) ?_)
  tb_from(eE (xs:=[.str (cR bk k).nm,.int (cR bk k).b,.int (cR bk k).e,.int (cR bk k).w]) iB ?_)
  refine B7 (by omega) ok ?_
  tb_from(gW (λh=>?_) λh=>?_)
  ·rw[if_pos h] at hN;exact hN
  ·rw[if_neg h] at hN;exact hN
 have e1:(ks.map PV.int).filterMap (λx=>match x with|.int k=>if (aS (aU bk ks) (cR bk k).b:Int)>b then some (.int k) else none|_=>none)=(ks.filter λk=>decide ((aS (aU bk ks) (cR bk k).b:Int)>b)).map PV.int:=by
  rw[a3l,<- a3u,a6i]
  congr 1;funext k
  show (if (aS (aU bk ks) (cR bk k).b:Int)>b then some (PV.int k) else none)=_
  by_cases h:(aS (aU bk ks) (cR bk k).b:Int)>b<;>simp[h]
 rw[a3h,e1]
 refine⟨a0y (GQ _) (by decide),a2n T8 (by decide),?_⟩
 rw[BL]
 refine q _ ?_
 rw[List.isEmpty_iff,List.map_eq_nil_iff,a6f]
 unfold a2C
 constructor
 ·intro h m hm
  have:=h m hm
  rw[a3k] at this
  omega
 ·intro h m hm
  have:=h m hm
  rw[a3k]
  omega
def O7(kv:List Pr)(m:Int):List Pr:=kv.filter λp=>!decide (p.1=m)
theorem zJ (kv:List Pr) (m:Int):PV.dic (TC (kv.map λp=>.inl p.1) (.inl m)) (BJ (kv.map λp=>.inl p.1) (kv.map λp=>PV.int p.2) (.inl m))=JY (O7 kv m):=by
 have h:TC (kv.map λp=>(.inl p.1:bA)) (.inl m)=(O7 kv m).map (λp=>.inl p.1)/\BJ (kv.map λp=>(.inl p.1:bA)) (kv.map λp=>PV.int p.2) (.inl m)=(O7 kv m).map λp=>PV.int p.2:=by
  induction kv with
  |nil=>exact⟨rfl,rfl⟩
  | cons p kv ih=>
   unfold O7 TC at*
   rw[a0h,a0h,a1t,a1t,BJ,ih.1,ih.2]
   by_cases e:p.1=m
   ·simp[e]
   ·have e':¬(Sum.inl p.1:bA)= .inl m:=λz=>e (by injection z)
    simp[e,e']
 rw[h.1,h.2];rfl
theorem KvOk.del{kv:List Pr}{P:Int->Int->Prop}{n:Nat}(h:KvOk kv P n)(m:Int):KvOk (O7 kv m) P n:=⟨h.nd.sublist (List.filter_sublist.map _),λp hp=>h.at_ p (a2f.mp hp).1,a0y (a3i _ _) h.len⟩
theorem KvOk.le{kv:List Pr}{P:Int->Int->Prop}{n k:Nat}(h:KvOk kv P n)(hn:n<=k):KvOk kv P k:=⟨h.nd,h.at_,a0y h.len hn⟩
def a67:Option Int->PV
 |none=>.non
 |some i=>.int i
set_option maxHeartbeats 4000000 in
theorem N1 {pp:List Pr} {n:Nat} {R:PV->Prop} (hp:PpOk pp (λ_ v=>1<=v) n) (hn:n<=60) (q:∀pp',PpOk pp' (λ_ v=>1<=v) (n+1)->R (d7 pp')):iF [.st,d7 pp] R:=by
 have hl:=hp.len
 unfold iF
 walk_at "w"
 cases pp with
 | nil=>
  refine OZ (a0y (u5 []) (by decide)) ?_
  walk_at "w"
  exact q [] ⟨.nil,by simp,by simp⟩
 |cons p0 pp0=>
 refine⟨a0y (u5 _) (by decide),by rw[PV.dep];decide,?_⟩
 rw[BL,show (List.map CN (p0::pp0)).isEmpty=false from rfl]
 walk_at "w"
 generalize hpp:p0::pp0=pp at*
 have h1:1<=pp.length:=by rw[<- hpp];simp
 rw[a0d]
 refine⟨by omega,by omega,λa a0 a1=>?_⟩
 walk_at "w"
 obtain⟨x,ea,ex⟩:=SL (xs:=pp.map CN) a0 (by rw[a0d];exact a1)
 rw[a0g,a0r] at ex
 obtain⟨⟨m,v⟩,hmv,rfl⟩:=ex
 have hin:(m,v)∈pp:=a0u hmv
 have hv:1<=v:=hp.at_ _ hin
 refine c4 ea ?_
 show RD.bV 2 _ (.tup [.int m,.int v]) _ _
 tb_from(⟨rfl,?_⟩)
 tb_from(⟨by decide,by decide,λw w0 w1=>?_⟩)
 walk_at "w"
 have kv0:=hp.kv
 refine OY kv0.nd (by omega) ?_
 walk_at "w"
 have fin:∀(kv:List Pr) (e1:Option PV),KvOk kv (λ_ v=>1<=v) (n+1)->(RD.qS (RD.c6 (RD.bN iM (RD.a8 (RD.a9 6) RD.aF))) (RD.aG 0) RD.dI (RD.dD (RD.a8 (RD.a9 0) (RD.a8 (RD.aQ jT (RD.a9 1) (RD.a9 0)) RD.aF))) λenv=>[none,jn (k9 env 6)])
   [some .st,some (d7 pp),some (.int a),some (.int m),some (.int v),some (.int w),some (JY kv)] R:=by
  intro kv e1 hk
  have hkl:=hk.len
  tb_from(uS (by omega) ?_)
  walk_at "w"
  refine⟨bX (by rw[a0d,(cL _).length_eq,a0d];omega),?_⟩
  refine xQ ?_
  exact q _ hk.sort
 have kle:=kv0.le (k:=n+1) (by omega)
 have hmk:m∈pp.map (·.1):=a0p.mpr ⟨_,hin,rfl⟩
 have hsome:(DN (pp.map λp=>(.inl p.1:bA)) (pp.map λp=>PV.int p.2) (.inl m)).isSome=true:=by
  obtain⟨v,e,_⟩:=uI hmk
  rw[HD,e];rfl
 rcases (by omega:w=0\/w=1\/w=2\/w=3\/w=4\/w=5) with rfl|rfl|rfl|rfl|rfl|rfl
 ·refine gW (λh=>absurd h (by decide)) λ_=>?_
  tb_from(gW (λh=>absurd h (by decide)) λ_=>?_)
  tb_from(gW (λh=>absurd h (by decide)) λ_=>?_)
  tb_from(gW (λh=>absurd h (by decide)) λ_=>?_)
  exact fin _ none kle
 ·refine gW (λ_=>?_) λh=>absurd rfl h
  walk_at "w"
  refine⟨by rw[a0d];omega,?_⟩
  rw[p7]
  tb_from(gW (λh=>absurd h (by decide)) λ_=>?_)
  tb_from(gW (λh=>absurd h (by decide)) λ_=>?_)
  tb_from(gW (λh=>absurd h (by decide)) λ_=>?_)
  exact fin _ none (kv0.put (by omega))
 ·refine gW (λh=>absurd h (by decide)) λ_=>?_
  tb_from(gW (λ_=>?_) λh=>absurd rfl h)
  tb_from(gW (λhv2=>?_) λ_=>?_)
  ·walk_at "w"
   refine⟨by rw[a0d];omega,?_⟩
   rw[p7]
   tb_from(gW (λh=>absurd h (by decide)) λ_=>?_)
   tb_from(gW (λh=>absurd h (by decide)) λ_=>?_)
   exact fin _ none (kv0.put (by omega))
  ·tb_from(gW (λh=>absurd h (by decide)) λ_=>?_)
   tb_from(gW (λh=>absurd h (by decide)) λ_=>?_)
   exact fin _ none kle
 ·refine gW (λh=>absurd h (by decide)) λ_=>?_
  tb_from(gW (λh=>absurd h (by decide)) λ_=>?_)
  tb_from(gW (λ_=>?_) λh=>absurd (by decide) h)
  tb_from(⟨rfl,?_⟩)
  tb_from(⟨hsome,?_⟩)
  rw[zJ]
  tb_from(gW (λh=>absurd h (by decide)) λ_=>?_)
  exact fin _ none ((kv0.del m).le (by omega))
 ·refine gW (λh=>absurd h (by decide)) λ_=>?_
  tb_from(gW (λh=>absurd h (by decide)) λ_=>?_)
  tb_from(gW (λ_=>?_) λh=>absurd (by decide) h)
  tb_from(⟨rfl,?_⟩)
  tb_from(⟨hsome,?_⟩)
  rw[zJ]
  tb_from(gW (λ_=>?_) λh=>absurd (by decide) h)
  walk_at "w"
  unfold OX
  tb_from(⟨⟨by decide,by decide,by decide⟩,?_⟩)
  tb_from(gW (λ_=>?_) λ_=>?_)
  ·tb_from(c4 (z:=.int (1)) rfl ?_)
   walk_at "w"
   refine⟨by rw[a0d];have:=(kv0.del m).len;omega,?_⟩
   rw[p7]
   exact fin _ none ((kv0.del m).put (by omega))
  ·exact fin _ none ((kv0.del m).le (by omega))
 ·refine gW (λh=>absurd h (by decide)) λ_=>?_
  tb_from(gW (λh=>absurd h (by decide)) λ_=>?_)
  tb_from(gW (λ_=>?_) λh=>absurd (by decide) h)
  tb_from(⟨rfl,?_⟩)
  tb_from(⟨hsome,?_⟩)
  rw[zJ]
  tb_from(gW (λ_=>?_) λh=>absurd (by decide) h)
  walk_at "w"
  unfold OX
  tb_from(⟨⟨by decide,by decide,by decide⟩,?_⟩)
  tb_from(gW (λ_=>?_) λ_=>?_)
  ·tb_from(c4 (z:=.int (-1)) rfl ?_)
   walk_at "w"
   refine⟨by rw[a0d];have:=(kv0.del m).len;omega,?_⟩
   rw[p7]
   exact fin _ none ((kv0.del m).put (by omega))
  ·exact fin _ none ((kv0.del m).le (by omega))
end Lib
set_option maxHeartbeats 4000000
namespace K25
open PySem L2
abbrev eQ:PN:=Lib.eQ
abbrev d5:PN:=Lib.d5
abbrev fW:PN:=Lib.fW
abbrev dW:PN:=Lib.dW
abbrev cH:PN:=Lib.cH
abbrev c7:PN:=Lib.c7
abbrev cG:PN:=Lib.cG
abbrev dU:PN:=Lib.dU
abbrev eT:PN:=Lib.eT
abbrev xF:PN:=FB
abbrev aW:PN:=HR
abbrev iE:PN:=Lib.iE
abbrev iG:PN:=Lib.iG
abbrev eR:PN:=Lib.eR
abbrev fV:PN:=Lib.fV
abbrev eS:PN:=Lib.eS
abbrev jS:PN:=Lib.jS
abbrev jR:PN:=Lib.jR
abbrev fR:PN:=Lib.fR
def xY: bO:=(aL (bK 2 (mB (aQ A1 (qS (c6 (a9 1)) (aG 0) dI (aQ cV (a9 0) (pC (.int 1))) (fun env=>[none])) (qS (c6 (a9 1)) (aG 0) dI (aQ gM (aQ cV (a9 0) (pC (.int 2))) (pC (.int 1))) (fun env=>[none])))))
 (aL (bK 3 (bN aW (a8 (a9 0) (a8 (pC (.int 2)) aF))))
 (aL (bK 4 (aQ cV (cP (a8 (pC (.int 9)) (a8 (aQ jV (pC (.int 10)) (pC (.int 12))) aF))) (bN aW (a8 (a9 0) (a8 (pC (.int 2)) aF)))))
 (bY (qS (c6 (jJ LA (a9 2) (m9 (a9 3)) (m9 (aQ dH (pC (.int 48)) (a9 3))))) (aG 0) dI (dD (a8 (a9 0) (a8 (aQ dH (pC (.int 1)) (bN aW (a8 (a9 1) (a8 (a9 2) aF)))) aF))) (λenv=>[none,jn (k9 env 0),jn (k9 env 4)]))))))
abbrev yG:{r:bO // r=xY}:=⟨_,by unfold xY;walk_at "rp"⟩
def jQ:PN:=zI (λa0 a1=>[some a0,some a1,none,none,none]) (λ_=>False) yG.1
abbrev iF:PN:=Lib.iF
def HV: bO:=(aL (g8 (c6 (a9 2)) (bV 2 (aM (aG 4) (aM (aG 5) cW))) (aL (g9 (gZ (aQ uP (bN iE (a8 (a9 0) (a8 (a9 3) (a8 (a9 4) aF)))) (a9 1))) (bY (dD (a8 (pC (.str "moment")) (a8 (iL (a9 4)) aF)))) aO)
 aO))
 (aL (g8 (f7 (bN m8 (a8 (a9 0) aF))) (aG 6) (aL (g9 (qO (gZ (aQ P1 (a9 6) (a9 3))) (gZ (aQ m7 (aQ cV (aQ cV (a9 0) (a9 6)) (pC (.int 3))) (bN iG (a8 (aQ cV (a9 0) (a9 6)) (a8 (a9 2) aF)))))) (bY (dD (a8 (pC (.str "left")) (a8 (a9 6) aF)))) aO)
 aO))
 (aL (g8 (c6 (a9 3)) (aG 6) (aL (g9 (gZ (aQ uP (aQ cV (aQ cV (a9 0) (a9 6)) (pC (.int 3))) (bN iG (a8 (aQ cV (a9 0) (a9 6)) (a8 (a9 2) aF))))) (bY (dD (a8 (pC (.str "dear")) (a8 (iL (a9 6)) aF)))) aO)
 aO))
 (bY (pC .non)))))
abbrev IF:{r:bO // r=HV}:=⟨_,by unfold HV;walk_at "rp"⟩
def oK:PN:=a28 (λa0 a1 a2 a3=>[some a0,some a1,some a2,some a3,none,none,none]) (λR=>R .non) IF.1
abbrev fS:PN:=Lib.fS
abbrev i6:PN:=Lib.i6
abbrev cS:PN:=Lib.cS
abbrev dX:PN:=Lib.dX
abbrev fU:PN:=Lib.fU
abbrev iC:PN:=Lib.iC
def uW: bO:=(aL (bK 3 (cP aF))
 (aL (g8 (f7 (bN m8 (a8 (a9 1) aF))) (aG 4) (aL (g9 (qO (gZ (aQ m7 (bN aW (a8 (a9 0) (a8 (pC (.int 3)) aF))) (pC (.int 0)))) (gZ (bN jR (a8 (a9 1) (a8 (aQ A1 (a9 3) (cP (a8 (a9 4) aF))) (a8 (a9 2) aF)))))) (aL (gA "list" 3 dJ (a8 (a9 4) aF))
 aO) aO)
 aO))
 (bY (a9 3))))
abbrev vD:{r:bO // r=uW}:=⟨_,by unfold uW;walk_at "rp"⟩
def iD:PN:=T4 (λa0 a1 a2=>[some a0,some a1,some a2,none,none]) (λ_=>False) vD.1
abbrev fQ:PN:=Lib.fQ
abbrev dY:PN:=Lib.dY
abbrev dS:PN:=Lib.dS
abbrev eM:PN:=Lib.eM
abbrev cF:PN:=Lib.cF
abbrev fP:PN:=Lib.fP
def y0: bO:=(aL (bK 4 (cP (a8 (jI (bN hV (a8 (a9 0) aF))) (a8 (jI (bN hV (a8 (a9 2) aF))) (a8 (jI (bN hV (a8 (a9 3) aF))) aF)))))
 (aL (bK 5 (bN eM (a8 (aQ cV (a9 4) (pC (.int 0))) (a8 (a9 1) (a8 (aQ cV (a9 4) (pC (.int 1))) (a8 (aQ cV (a9 4) (pC (.int 2))) aF))))))
 (aL (bK 6 (bN oK (a8 (a9 0) (a8 (a9 1) (a8 (a9 2) (a8 (a9 3) aF))))))
 (aL (g9 (a2A (gZ (aQ a3P (a9 5) (a9 6))) (gZ (aQ a3P (a9 4) (cP (a8 (a9 0) (a8 (a9 2) (a8 (a9 3) aF))))))) (bY (pC (.bl false))) aO)
 (aL (uT 4 (pC (.int 1)) p6 aF)
 (aL (g9 (gZ (aQ a3P (bN eM (a8 (aQ cV (a9 4) (pC (.int 0))) (a8 (a9 1) (a8 (aQ cV (a9 4) (pC (.int 1))) (a8 (aQ cV (a9 4) (pC (.int 2))) aF))))) (bN oK (a8 (a9 0) (a8 (a9 1) (a8 (cP aF) (a8 (a9 3) aF))))))) (bY (pC (.bl false))) aO)
 (bY (P5 (aQ L7 (a9 5) (pC .non)) (xT (bN CC (a8 (a9 5) (a8 (pC (.ty "tuple")) aF))) (CD (bN CC (a8 (aQ cV (a9 5) (pC (.int 1))) (a8 (pC (.ty "bool")) aF)))))))))))))
abbrev yI:{r:bO // r=y0}:=⟨_,by unfold y0;walk_at "rp"⟩
def i5:PN:=a28 (λa0 a1 a2 a3=>[some a0,some a1,some a2,some a3,none,none,none]) (λR=>R .non) yI.1
abbrev fT:PN:=Lib.fT
def XI: bO:=(aL (g8 (f7 (bN xU (a8 (pC (.int 1)) (a8 (bN xV (a8 (bN oU (a8 (a9 0) aF)) (a8 (pC (.int 16)) aF))) aF)))) (aG 1) (aL (bK 2 (bN xF (a8 (a9 0) (a8 (a9 1) aF))))
 (aL (bK 3 (xT (aQ A2 (a9 1) (pC (.int 0))) (aQ A2 (bN aW (a8 (a9 2) (a8 (pC (.int 6)) aF))) (pC (.int 5)))))
 (aL (bK 4 (bN iC (a8 (a9 2) (a8 (aQ cV (cP (a8 (pC (.int 8)) (a8 (pC (.int 24)) aF))) (bN rS (a8 (a9 3) aF))) aF))))
 (aL (bK 5 (bN aW (a8 (a9 2) (a8 (aQ cV (cP (a8 (pC (.int 5)) (a8 (pC (.int 25)) aF))) (bN rS (a8 (a9 3) aF))) aF))))
 (aL (qP (bN fT (a8 (a9 4) (a8 (a9 5) aF))) (bV 3 (aM (aG 6) (aM (aG 7) (aM (aG 8) cW)))))
 (aL (bK 9 (bN iF (a8 (a9 2) (a8 (a9 8) aF))))
 (aL (bK 10 (bN jQ (a8 (a9 2) (a8 (a9 4) aF))))
 (aL (bK 11 (bN iD (a8 (a9 2) (a8 (a9 4) (a8 (a9 5) aF)))))
 (aL (g8 (c6 (cP (a8 (bN hV (a8 (a9 7) aF)) (a8 (a9 11) aF)))) (aG 12) (aL (g8 (c6 (cP (a8 (a9 8) (a8 (a9 9) (a8 (bN fR (a8 (a9 2) (a8 (a9 4) aF))) (a8 (a9 10) aF)))))) (aG 13) (aL (g9 (L8 (gZ (bN i5 (a8 (a9 4) (a8 (a9 5) (a8 (a9 13) (a8 (a9 12) aF))))))) (bY (pC (.bl false))) aO)
 aO))
 aO))
 aO))))))))))
 (bY (bN i5 (a8 (cP (a8 (dD (a8 (pC (.str "a")) (a8 (pC (.int 0)) (a8 (pC (.int 2)) (a8 (pC (.int 3)) aF))))) (a8 (dD (a8 (pC (.str "b")) (a8 (pC (.int 1)) (a8 (pC (.int 3)) (a8 (pC (.int 4)) aF))))) aF))) (a8 (pC (.int 1)) (a8 (cP (a8 (dD (a8 (pC (.int 1)) (a8 (pC (.int 4)) aF))) aF)) (a8 (cP (a8 (pC (.int 0)) aF)) aF)))))))
abbrev XN:{r:bO // r=XI}:=⟨_,by unfold XI;walk_at "rp"⟩
def NA:PN:=a27 (λa0=>[some a0,none,none,none,none,none,none,none,none,none,none,none,none,none]) (λR=>R .non) XN.1
end K25
set_option maxHeartbeats 4000000
namespace K25
open PySem L2 Lib
theorem JK {bk:List Sr} {n:Nat} {R:PV->Prop} (hb:BkOk bk n) (hl:bk.length<=24) (q:∀pp:List Pr,(∀p∈pp,1<=p.2)->pp.length<=48->R (d7 pp)):jQ [.st,eW bk] R:=by
  unfold jQ
  walk_at "w"
  refine⟨bX (by rw[a0d];omega),?_⟩
  refine UP (g:=Sr.b) (λs R h=>eE iB h) ?_
  walk_at "w"
  refine⟨bX (by rw[a0d];omega),?_⟩
  refine UO ?_
  walk_at "w"
  refine⟨bX (by simp;omega),?_⟩
  rw[<- a1m]
  refine qR (by simp;omega) ?_
  generalize hms:aP (bk.map Sr.b++bk.map λs=>s.e-1)=ms
  have hml:ms.length<=48:=by
    rw[<- hms]
    have:=rF (bk.map Sr.b++bk.map λs=>s.e-1)
    simp at this;omega
  tb_from(⟨by decide,by decide,λr r0 r1=>?_⟩)
  tb_from(⟨⟨by decide,by decide,by decide⟩,?_⟩)
  tb_from(⟨by decide,by decide,λc c0 c1=>?_⟩)
  walk_at "w"
  refine f6 (ns:=[9,10^(12:Int).toNat]) (P:=λx=>0<x/\x<=1000000000000) c0 (by show c<(2:Int);omega) (λy hy=>by simp only[a0q,a1e,a3j,show (10:Int)^(12:Int).toNat=1000000000000 from by decide] at hy;omega) λtop htop=>?_
  walk_at "w"
  have ecut:qG (ms.map PV.int) (some r) (some (48+r))=(qG ms (some r) (some (48+r))).map PV.int:=by
    unfold qG
    rw[a0d,List.map_take,List.map_drop]
  rw[ecut]
  generalize hcs:qG ms (some r) (some (48+r))=cs
  have hcl:cs.length<=48:=by
    rw[<- hcs];unfold qG
    rw[a2g,a6c];omega
  refine⟨bX (by rw[a0d];omega),?_⟩
  refine kK (λi acc env=>(∃t,env=[t,some .st,some (.int top)])/\∃pp:List Pr,acc=pp.map CN/\(∀p∈pp,1<=p.2)/\pp.length<=i) ⟨⟨_,rfl⟩,[],rfl,by simp,by simp⟩ ?_ ?_
  · rintro i x acc env N hx ⟨⟨t,rfl⟩,pp,rfl,hp,hpl⟩ hN
    rw[a0g,a0r] at hx
    obtain⟨m,hm,rfl⟩:=hx
    walk_at "w"
    refine ⟨by omega, by have : (1000000000000 : Int)<2^250:=by decide
                         omega,λr2 r20 r21=>?_⟩
    refine hN _ _ ⟨⟨_,rfl⟩,pp++[(m,1+r2)],by simp[CN],λp hp'=>?_,by simp;omega⟩
    rcases a1a.mp hp' with y|y
    · exact hp p y
    · simp at y;subst y;dsimp only;omega
  · rintro acc env ⟨⟨t,rfl⟩,pp,rfl,hp,hpl⟩
    rw[a0d] at hpl
    exact q pp hp (by omega)
theorem a6V {bk:List Sr} {pp:List Pr} (h:bk≠[]\/pp≠[]):pp.map CN≠bk.map kA:=λe=>by
 cases pp with
 | nil=>cases bk with
  |nil=>rcases h with h|h<;>exact h rfl
  |cons=>cases e
 | cons p pp=>cases bk with
  |nil=>cases e
  | cons s bk=>
   rw[a0h,a0h] at e
   injection e with e
   injection e with e
   injection e with _ e
   injection e with _ e
   cases e
theorem a6W {bk:List Sr} {pp:List Pr} {ks:List Int}:a2I [eW bk,d7 pp,dF ks] 1 (pp.map CN) (.lst []):=λm z e hm=>by
 match m,e with
 |1,_=>exact absurd rfl hm
 | 0,e=>
  cases e
  refine .inr ⟨_,rfl,xG _,λz=>?_⟩
  cases pp with
  |nil=>rfl
  |cons p pp=>exact absurd z.symm (a6V (.inr (List.cons_ne_nil _ _)))
 | 2,e=>
  cases e
  refine .inr ⟨_,rfl,qH _,λz=>?_⟩
  cases pp with
  |nil=>rfl
  | cons p pp=>cases ks with
   |nil=>cases z
   | cons k ks=>
    rw[a0h,a0h] at z
    injection z with z
    cases z
def sM(bk:List Sr)(b:Int)(pp:List Pr)(ks:List Int):Option Int:=(pp.find? λp=>decide ((aS (aU bk ks) p.1:Int)<b)).map (·.1)
def sL(bk:List Sr)(pp:List Pr)(ks:List Int):Option Int:=((List.range bk.length).find? λ(i:Nat)=>decide ((i:Int)∉ks/\cZ (cR bk i) pp<(cR bk i).w)).map λi=>(i:Int)
def sD(bk:List Sr)(pp:List Pr)(ks:List Int):Option Int:=ks.find? λk=>decide ((cR bk k).w<cZ (cR bk k) pp)
def zM (bk:List Sr) (b:Int) (pp:List Pr) (ks:List Int):PV:=match sM bk b pp ks with
 |some m=>.tup [.str "moment",.int m]
 | none=>match sL bk pp ks with
  |some m=>.tup [.str "left",.int m]
  | none=>match sD bk pp ks with
   |some m=>.tup [.str "dear",.int m]
   |none=>.non
theorem kH {α:Type} {P:α->Bool}:∀ {l:List α} {i:Nat} {x:α},(∀y∈l.take i,P y=false)->l[i]? =some x->P x=true->l.find? P=some x
 |[],i,x,_,e,_=>by simp at e
 | a::l,0,x,_,e,h=>by
  simp at e;subst e
  rw[a2p,h]
 | a::l,i+1,x,ha,e,h=>by
  rw[a2p,ha a (by simp)]
  exact kH (i:=i) (λy hy=>ha y (by rw[List.take_succ_cons];exact a0k _ hy)) (by simpa using e) h
theorem mS{α:Type}{P:α->Bool}{l:List α}(h:∀y∈l,P y=false):l.find? P=none:=a7b.mpr λy hy=>by rw[h y hy];exact a0i
section
variable{bk:List Sr}{b:Int}{pp:List Pr}{ks:List Int}{R:PV->Prop}
theorem RO (hl:ks.length<=1000) (hk:SmOk ks bk.length) (q:R (a67 (sM bk b pp ks))):cS [eW bk,.int b,d7 pp,dF ks] R:=by
 unfold cS
 tb_from(cB (λi env=>(∀p∈pp.take i,decide ((aS (aU bk ks) p.1:Int)<b)=false)/\∃t1 t2,env=[some (eW bk),some (.int b),some (d7 pp),some (dF ks),t1,t2]) ⟨by simp,_,_,rfl⟩ ?_ ?_)
 ·rintro i x env N hx ⟨ha,t1,t2,rfl⟩ hN
  rw[a0g,a0r] at hx
  obtain⟨⟨m,v⟩,hp,rfl⟩:=hx
  show RD.bV 2 _ (.tup [.int m,.int v]) _ _
  tb_from(⟨rfl,?_⟩)
  tb_from(qD hl hk.at_ ?_)
  tb_from(gW (λh=>?_) λh=>?_)
  ·unfold sM at q
   rw[kH (x:=(m,v)) ha hp (a1v h)] at q
   exact⟨rfl,q⟩
  ·refine hN _ ⟨λp hpp=>?_,_,_,rfl⟩
   rw[a1o,hp] at hpp
   rcases a1a.mp hpp with z|z
   ·exact ha p z
   ·simp at z;subst z;exact a1c h
 ·rintro env ⟨ha,t1,t2,rfl⟩
  rw[a0d,a1y] at ha
  unfold sM at q
  rw[mS ha] at q
  exact q
theorem a1W (hb:bk.length<=1000) (hl:pp.length<=1000) (q:R (a67 (sL bk pp ks))):dY [eW bk,d7 pp,dF ks] R:=by
 unfold dY
 tb_from(cB (λj env=>(∀i∈(List.range bk.length).take j,decide ((i:Int)∉ks/\cZ (cR bk i) pp<(cR bk i).w)=false)/\∃t1 t2,env=[some (eW bk),some (d7 pp),some (dF ks),t1,t2]) ⟨by simp,_,_,rfl⟩ ?_ ?_)
 ·rintro i x env N hx ⟨ha,t1,t2,rfl⟩ hN
  rw[lX,a0g,a6o,a0r] at hx
  obtain⟨s,hs,rfl⟩:=hx
  show RD.bV 2 _ (.tup [.int (i:Int),kA s]) _ _
  tb_from(⟨rfl,?_⟩)
  tb_from(P3 ?_)
  have hsi:=QV hs
  have hi:=(a0j.mp hs).1
  have er:(List.range bk.length)[i]? =some i:=a4r hi
  have go:∀h:¬((i:Int)∉ks/\cZ s pp<s.w),N [some (eW bk),some (d7 pp),some (dF ks),some (.int (i:Int)),some (kA s)]:=λh=>by
   refine hN _ ⟨λj hj=>?_,_,_,rfl⟩
   rw[a1o,er] at hj
   rcases a1a.mp hj with z|z
   ·exact ha j z
   ·simp at z;subst z;rw[hsi];exact a1c h
  refine Y5 (λh1=>?_) λh1=>go λz=>z.1 h1
  refine JN hl ?_
  walk_at "w"
  have er2:0<gQ s pp↔cZ s pp<s.w:=by unfold gQ;omega
  refine gW (λh=>?_) λh=>go λz=>h (er2.mpr z.2)
  unfold sL at q
  rw[kH ha er (by rw[hsi];exact a1v ⟨h1,er2.mp h⟩)] at q
  exact⟨rfl,q⟩
 ·rintro env ⟨ha,t1,t2,rfl⟩
  rw[fX,a0d] at ha
  rw[a4a (by simp)] at ha
  unfold sL at q
  rw[mS ha] at q
  exact q
theorem a1V (hl:pp.length<=1000) (hk:SmOk ks bk.length) (q:R (a67 (sD bk pp ks))):dX [eW bk,d7 pp,dF ks] R:=by
 unfold dX
 tb_from(cB (λj env=>(∀k∈ks.take j,decide ((cR bk k).w<cZ (cR bk k) pp)=false)/\∃t1,env=[some (eW bk),some (d7 pp),some (dF ks),t1]) ⟨by simp,_,rfl⟩ ?_ ?_)
 ·rintro i x env N hx ⟨ha,t1,rfl⟩ hN
  rw[a0g,a0r] at hx
  obtain⟨k,hkk,rfl⟩:=hx
  obtain⟨k0,k1⟩:=hk.at_ k (a0u hkk)
  obtain⟨s,hs,ea⟩:=zA (bk:=bk) k0 k1
  have hsi:cR bk k=s:=by unfold cR;rw[hs];rfl
  tb_from(c4 ea ?_)
  tb_from(xE hl ?_)
  tb_from(c4 ea ?_)
  tb_from(eE (xs:=[.str s.nm,.int s.b,.int s.e,.int s.w]) qA ?_)
  tb_from(gW (λh=>?_) λh=>?_)
  ·unfold sD at q
   rw[kH ha hkk (by rw[hsi];exact a1v h)] at q
   exact⟨rfl,q⟩
  ·refine hN _ ⟨λj hj=>?_,_,rfl⟩
   rw[a1o,hkk] at hj
   rcases a1a.mp hj with z|z
   ·exact ha j z
   ·simp at z;subst z;rw[hsi];exact a1c h
 ·rintro env ⟨ha,t1,rfl⟩
  rw[a0d,a1y] at ha
  unfold sD at q
  rw[mS ha] at q
  exact q
theorem J2 (hb:bk.length<=1000) (hp:pp.length<=1000) (hl:ks.length<=1000) (hk:SmOk ks bk.length) (q:R (zM bk b pp ks)):eM [eW bk,.int b,d7 pp,dF ks] R:=by
 unfold zM at q
 unfold eM
 tb_from(RO hl hk ?_)
 tb_from(a1W hb hp ?_)
 tb_from(a1V hp hk ?_)
 walk_at "w"
 cases e1:sM bk b pp ks with
 | some i=>
  rw[e1] at q
  tb_from(⟨rfl,?_⟩)
  walk_at "w"
  exact q
 | none=>
  rw[e1] at q
  tb_from(⟨rfl,?_⟩)
  walk_at "w"
  cases e2:sL bk pp ks with
  | some i=>
   rw[e2] at q
   tb_from(⟨rfl,?_⟩)
   walk_at "w"
   exact q
  | none=>
   rw[e2] at q
   tb_from(⟨rfl,?_⟩)
   walk_at "w"
   cases e3:sD bk pp ks with
   | some i=>
    rw[e3] at q
    tb_from(⟨rfl,?_⟩)
    walk_at "w"
    exact q
   | none=>
    rw[e3] at q
    tb_from(⟨rfl,?_⟩)
    walk_at "w"
    exact q
end
section
variable{bk:List Sr}{b:Int}{pp:List Pr}{ks:List Int}{R:PV->Prop}
theorem GM (hb:bk.length<=1000) (hp:pp.length<=1000) (hl:ks.length<=1000) (hk:SmOk ks bk.length) (q:R (zM bk b pp ks)):oK [eW bk,.int b,d7 pp,dF ks] R:=by
 unfold zM at q
 unfold oK
 tb_from(cB (λi env=>(∀p∈pp.take i,decide ((aS (aU bk ks) p.1:Int)<b)=false)/\∃t1 t2,env=[some (eW bk),some (.int b),some (d7 pp),some (dF ks),t1,t2,none]) ⟨by simp,_,_,rfl⟩ ?_ ?_)
 ·rintro i x env N hx ⟨ha,t1,t2,rfl⟩ hN
  rw[a0g,a0r] at hx
  obtain⟨⟨m,v⟩,hpp,rfl⟩:=hx
  show RD.bV 2 _ (.tup [.int m,.int v]) _ _
  tb_from(⟨rfl,?_⟩)
  tb_from(B7 (by omega) hk.at_ ?_)
  tb_from(gW (λh=>?_) λh=>?_)
  ·have e:sM bk b pp ks=some m:=by unfold sM;rw[kH (x:=(m,v)) ha hpp (a1v h)];rfl
   rw[e] at q
   walk_at "w"
   exact⟨rfl,q⟩
  ·refine hN _ ⟨λp hpp2=>?_,_,_,rfl⟩
   rw[a1o,hpp] at hpp2
   rcases a1a.mp hpp2 with z|z
   ·exact ha p z
   ·simp at z;subst z;exact a1c h
 ·rintro env ⟨ha,t1,t2,rfl⟩
  rw[a0d,a1y] at ha
  have e1:sM bk b pp ks=none:=by unfold sM;rw[mS ha];rfl
  rw[e1] at q
  dsimp only at q
  walk_at "w"
  refine⟨by omega,by rw[a0d];omega,?_⟩
  refine cB (λj env=>(∀i∈(List.range bk.length).take j,decide ((i:Int)∉ks/\cZ (cR bk i) pp<(cR bk i).w)=false)/\∃t3,env=[some (eW bk),some (.int b),some (d7 pp),some (dF ks),t1,t2,t3]) ⟨by simp,_,rfl⟩ ?_ ?_
  ·rintro i x env N hx ⟨ha,t3,rfl⟩ hN
   obtain⟨rfl,hi⟩:=dG hx
   rw[a0d,a1p] at hi
   have er:(List.range bk.length)[i]? =some i:=a4r hi
   have z0:(0:Int)+(i:Int)=i:=by omega
   rw[z0]
   obtain⟨s,hs,ea⟩:=zA (bk:=bk) (k:=(i:Int)) (by omega) (by omega)
   have hsi:cR bk (i:Int)=s:=by unfold cR;rw[hs];rfl
   have go:∀h:¬((i:Int)∉ks/\cZ s pp<s.w),N [some (eW bk),some (.int b),some (d7 pp),some (dF ks),t1,t2,some (.int (i:Int))]:=λh=>by
    refine hN _ ⟨λj hj=>?_,_,rfl⟩
    rw[a1o,er] at hj
    rcases a1a.mp hj with z|z
    ·exact ha j z
    ·simp at z;subst z;rw[hsi];exact a1c h
   tb_from(P3 ?_)
   tb_from(Y5 (λh1=>?_) λh1=>go λz=>z.1 h1)
   tb_from(c4 ea ?_)
   tb_from(eE (xs:=[.str s.nm,.int s.b,.int s.e,.int s.w]) qA ?_)
   tb_from(c4 ea ?_)
   refine B8 hp ?_
   tb_from(gW (λh=>?_) λh=>go λz=>h z.2)
   have e2:sL bk pp ks=some (i:Int):=by unfold sL;rw[kH ha er (by rw[hsi];exact a1v ⟨h1,h⟩)];rfl
   rw[e2] at q
   exact q
  ·rintro env ⟨ha,t3,rfl⟩
   rw[bQ] at ha
   rw[a4a (by rw[a4j,a0d];omega)] at ha
   have e2:sL bk pp ks=none:=by unfold sL;rw[mS ha];rfl
   rw[e2] at q
   dsimp only at q
   tb_from(cB (λj env=>(∀k∈ks.take j,decide ((cR bk k).w<cZ (cR bk k) pp)=false)/\∃t3,env=[some (eW bk),some (.int b),some (d7 pp),some (dF ks),t1,t2,t3]) ⟨by simp,_,rfl⟩ ?_ ?_)
   ·rintro i x env N hx ⟨ha,t3,rfl⟩ hN
    rw[a0g,a0r] at hx
    obtain⟨k,hkk,rfl⟩:=hx
    obtain⟨k0,k1⟩:=hk.at_ k (a0u hkk)
    obtain⟨s,hs,ea⟩:=zA (bk:=bk) k0 k1
    have hsi:cR bk k=s:=by unfold cR;rw[hs];rfl
    tb_from(c4 ea ?_)
    tb_from(eE (xs:=[.str s.nm,.int s.b,.int s.e,.int s.w]) qA ?_)
    tb_from(c4 ea ?_)
    refine B8 hp ?_
    tb_from(gW (λh=>?_) λh=>?_)
    ·have e3:sD bk pp ks=some k:=by unfold sD;rw[kH ha hkk (by rw[hsi];exact a1v h)]
     rw[e3] at q
     exact⟨rfl,q⟩
    ·refine hN _ ⟨λj hj=>?_,_,rfl⟩
     rw[a1o,hkk] at hj
     rcases a1a.mp hj with z|z
     ·exact ha j z
     ·simp at z;subst z;rw[hsi];exact a1c h
   ·rintro env ⟨ha,t3,rfl⟩
    rw[a0d,a1y] at ha
    have e3:sD bk pp ks=none:=by unfold sD;rw[mS ha]
    rw[e3] at q
    exact q
theorem GV:(zM bk b pp ks).dep<=60:=by
 have ht:∀(w:Str) (m:Int),(PV.tup [.str w,.int m]).dep<=60:=λw m=>a0y (zK (n:=0) λx h=>by
  simp only[a0q,a1e,a3j] at h
  rcases h with rfl|rfl<;>(rw[PV.dep.eq_def];simp)) (by decide)
 unfold zM
 split
 ·exact ht _ _
 ·split
  ·exact ht _ _
  ·split
   ·exact ht _ _
   ·rw[PV.dep.eq_def];simp
theorem K3:zM bk b pp ks= .non\/∃w m,zM bk b pp ks= .tup [.str w,.int m]:=by
 unfold zM
 split
 ·exact .inr ⟨_,_,rfl⟩
 ·split
  ·exact .inr ⟨_,_,rfl⟩
  ·split
   ·exact .inr ⟨_,_,rfl⟩
   ·exact .inl rfl
theorem EE (hb:bk.length<=24) (q:∀ks,SmOk ks bk.length->R (dF ks)):iD [.st,eW bk,.int b] R:=by
 unfold iD
 walk_at "w"
 refine⟨by omega,by rw[a0d];omega,?_⟩
 refine cB (λi env=>∃(ks:List Int) (t:Option PV),env=[some .st,some (eW bk),some (.int b),some (dF ks),t]/\SmOk ks i) ⟨[],_,rfl,.nil,by simp⟩ ?_ ?_
 ·rintro i x env N hx ⟨ks,t,rfl,sm⟩ hN
  obtain⟨rfl,hi⟩:=dG hx
  rw[a0d,a1p] at hi
  have z0:(0:Int)+(i:Int)=i:=by omega
  rw[z0]
  have hkl:=sm.len
  have sm1:SmOk ks (i+1):=⟨sm.lt,λk hk=>by have:=sm.at_ k hk;omega⟩
  have sm2:SmOk (ks++[(i:Int)]) (i+1):=⟨a4l.mpr ⟨sm.lt,by simp,λa ha c hc=>by have:=sm.at_ a ha;simp at hc;omega⟩,λk hk'=>by
   rcases a1a.mp hk' with y|y
   ·have:=sm.at_ k y;omega
   ·simp at y;omega⟩
  tb_from(⟨by decide,by decide,λr r0 r1=>?_⟩)
  tb_from(gW (λh=>?_) λh=>hN _ ⟨_,_,rfl,sm1⟩)
  walk_at "w"
  refine⟨bX (by simp;omega),?_⟩
  rw[show ks.map PV.int++[PV.int (i:Int)]=(ks++[(i:Int)]).map PV.int by simp]
  refine N0 (by simp;omega) (λk hk=>by have:=sm2.at_ k hk;omega) λr hr=>?_
  tb_from(X8 (λh=>?_) λh=>hN _ ⟨_,_,rfl,sm1⟩)
  tb_from(⟨rfl,?_⟩)
  walk_at "w"
  refine⟨a2n (show (ks.map PV.int).length<=1000 by rw[a0d];omega) (show 1000<sizeLine by decide),?_⟩
  rw[show ks.map PV.int++[PV.int (i:Int)]=(ks++[(i:Int)]).map PV.int by simp]
  exact hN _ ⟨_,_,rfl,sm2⟩
 ·rintro env ⟨ks,t,rfl,sm⟩
  rw[bQ,a0d,a1p] at sm
  exact q ks sm
theorem xC (hb:bk.length<=24) (hp:pp.length<=60) (hk:SmOk ks bk.length) (q:R (.bl true)):i5 [eW bk,.int b,d7 pp,dF ks] R:=by
 have hkl:=hk.len
 unfold i5
 tb_from(⟨xG _,?_⟩)
 tb_from(⟨u9 _,?_⟩)
 tb_from(⟨qH _,?_⟩)
 tb_from(c4 tQ ?_)
 tb_from(c4 iB ?_)
 tb_from(c4 nU ?_)
 tb_from(J2 (by omega) (by omega) (by omega) hk ?_)
 tb_from(GM (by omega) (by omega) (by omega) hk ?_)
 tb_from(uR GV ?_)
 tb_from(uR (a0y (oM (n:=2) λx h=>?_) (by decide)) ?_)
 ·simp only[a0q,a1e,a3j] at h
  rcases h with rfl|rfl|rfl
  ·exact T7 bk
  ·exact u5 pp
  ·exact a0y (GQ ks) (by decide)
 tb_from(P9 (xs:=[eW bk,d7 pp,dF ks]) (k:=1) (n:=1) rfl (λQ q=>q) rfl rfl (u9 _) ?_)
 tb_from(⟨a6W,?_⟩)
 tb_from(c4 tQ ?_)
 tb_from(c4 iB ?_)
 tb_from(c4 nU ?_)
 tb_from(J2 (pp:=[]) (by omega) (by simp) (by omega) hk ?_)
 tb_from(GM (pp:=[]) (by omega) (by simp) (by omega) hk ?_)
 refine uR GV ?_
 walk_at "w"
 rcases K3 (bk:=bk) (b:=b) (pp:=pp) (ks:=ks) with e|⟨w,m,e⟩
 ·rw[e]
  walk_at "w"
  exact q
 ·rw[e]
  tb_from(a78 (c:=false) rfl ?_)
  tb_from(KG ?_)
  tb_from(eE iB ?_)
  refine zP ?_
  walk_at "w"
  exact q
end
set_option maxHeartbeats 16000000 in
theorem N5 {ns:List Int} {i:Int} {g:Bool} {t4 t5 t6 t7 t8 t9 ta tb tc td:Option PV} {N:bC->Prop} {E:PEnds} (en:E.nx=N)
    (hN:∀env,(∃t1 t2 t3 t4 t5 t6 t7 t8 t9 ta tb tc td,env=[some (.scr ns),t1,t2,t3,t4,t5,t6,t7,t8,t9,ta,tb,tc,td])->N env) :
    (RD.aL (RD.bK 4 (RD.bN iC (RD.a8 (RD.a9 2) (RD.a8 (RD.aQ cV (RD.cP (RD.a8 (RD.pC (.int 8)) (RD.a8 (RD.pC (.int 24)) RD.aF))) (RD.bN RD.rS (RD.a8 (RD.a9 3) RD.aF))) RD.aF))))  (RD.aL (RD.bK 5 (RD.bN aW (RD.a8 (RD.a9 2) (RD.a8 (RD.aQ cV (RD.cP (RD.a8 (RD.pC (.int 5)) (RD.a8 (RD.pC (.int 25)) RD.aF))) (RD.bN RD.rS (RD.a8 (RD.a9 3) RD.aF))) RD.aF))))  (RD.aL (RD.qP (RD.bN fT (RD.a8 (RD.a9 4) (RD.a8 (RD.a9 5) RD.aF))) (RD.bV 3 (RD.aM (RD.aG 6) (RD.aM (RD.aG 7) (RD.aM (RD.aG 8) RD.cW)))))  (RD.aL (RD.bK 9 (RD.bN iF (RD.a8 (RD.a9 2) (RD.a8 (RD.a9 8) RD.aF))))  (RD.aL (RD.bK 10 (RD.bN jQ (RD.a8 (RD.a9 2) (RD.a8 (RD.a9 4) RD.aF))))  (RD.aL (RD.bK 11 (RD.bN iD (RD.a8 (RD.a9 2) (RD.a8 (RD.a9 4) (RD.a8 (RD.a9 5) RD.aF)))))  (RD.aL (RD.g8 (RD.c6 (RD.cP (RD.a8 (RD.bN RD.hV (RD.a8 (RD.a9 7) RD.aF)) (RD.a8 (RD.a9 11) RD.aF)))) (RD.aG 12) (RD.aL (RD.g8 (RD.c6 (RD.cP (RD.a8 (RD.a9 8) (RD.a8 (RD.a9 9) (RD.a8 (RD.bN fR (RD.a8 (RD.a9 2) (RD.a8 (RD.a9 4) RD.aF))) (RD.a8 (RD.a9 10) RD.aF)))))) (RD.aG 13) (RD.aL (RD.g9 (RD.L8 (RD.gZ (RD.bN i5 (RD.a8 (RD.a9 4) (RD.a8 (RD.a9 5) (RD.a8 (RD.a9 13) (RD.a8 (RD.a9 12) RD.aF))))))) (RD.bY (RD.pC (.bl false))) RD.aO)  RD.aO))  RD.aO))  RD.aO))))))) E [some (.scr ns),some (.int i),some .st,some (.bl g),t4,t5,t6,t7,t8,t9,ta,tb,tc,td]:=by
  subst en
  walk_at "w"
  refine f6 (ns:=[8,24]) (P:=λx=>0<=x/\x<=24) (by split<;>decide) (by split<;>decide) (λy hy=>by simp only[a0q,a1e,a3j] at hy;omega) λtop htop=>?_
  obtain⟨top,rfl⟩ : ∃j:Nat,top=(j:Int):=⟨top.toNat,by omega⟩
  tb_from(MZ (n:=top) (by omega) λbk hb=>?_)
  have hlen:=hb.len
  have hso:∀t∈bk,∃i:Nat,bk[i]? =some t:=λt ht=>by
    obtain⟨i,hi,e⟩:=a2j ht
    exact⟨i,by rw[a0a hi,e]⟩
  have hlt:∀s∈bk,s.b<s.e:=λt ht=>by obtain⟨i,e⟩:=hso t ht;exact (hb.at_ i t e).lt
  have hw0:∀s∈bk,0<=s.w:=λt ht=>by obtain⟨i,e⟩:=hso t ht;exact (hb.at_ i t e).w0
  walk_at "w"
  refine f6 (ns:=[5,25]) (P:=λx=>0<x/\x<=25) (by split<;>decide) (by split<;>decide) (λy hy=>by simp only[a0q,a1e,a3j] at hy;omega) λt2 ht2=>?_
  walk_at "w"
  refine ⟨by omega, by have : (25 : Int)<2^250:=by decide
                       omega,λb b0 b1=>?_⟩
  obtain⟨b,rfl⟩ : ∃j:Nat,b=(j:Int):=⟨b.toNat,by omega⟩
  tb_from(JM (by omega) hlt hw0 λks pp hB=>?_)
  have hkl:=hB.sm.len
  have hpl:=hB.pr.len
  have hP:PpOk pp (λ_ v=>1<=v) 48:=⟨hB.pr.lt,λp hp=>(hB.pr.at_ p hp).1,by omega⟩
  tb_from(⟨rfl,?_⟩)
  walk_at "w"
  simp only[eU]
  refine N1 hP (by omega) λpp2 hP2=>?_
  have hpl2:=hP2.len
  tb_from(JK hb (by omega) λdd hdd hdl=>?_)
  tb_from(EE (by omega) λcs hcs=>?_)
  walk_at "w"
  simp only[eU]
  refine zN (λenv=>∃tc td,env=[some (.scr ns),some (.int i),some .st,some (.bl g),some (eW bk),some (.int (b:Int)),some (.int (mN (aU bk ks))),some (dF ks),some (d7 pp),some (d7 pp2),some (d7 dd),some (dF cs),tc,td]) ⟨_,_,rfl⟩ ?_ ?_
  · rintro x env N2 hx2 ⟨tc,td,rfl⟩ hN2
    obtain ⟨js,hjs,rfl⟩ : ∃js,SmOk js bk.length/\x=dF js:=by
      simp only[a0q,a1e,a3j] at hx2
      rcases hx2 with rfl|rfl
      · exact⟨ks,hB.sm,rfl⟩
      · exact⟨cs,hcs,rfl⟩
    tb_from(JL hb (by omega) λp3 hp3=>?_)
    have hpl3:=hp3.len
    walk_at "w"
    simp only[eU]
    refine zN (λenv=>∃td,env=[some (.scr ns),some (.int i),some .st,some (.bl g),some (eW bk),some (.int (b:Int)),some (.int (mN (aU bk ks))),some (dF ks),some (d7 pp),some (d7 pp2),some (d7 dd),some (dF cs),some (dF js),td]) ⟨_,rfl⟩ ?_ ?_
    · rintro x env N3 hx3 ⟨td,rfl⟩ hN3
      obtain ⟨rr,hrr,rfl⟩ : ∃rr:List Pr,rr.length<=60/\x=d7 rr:=by
        simp only[a0q,a1e,a3j] at hx3
        rcases hx3 with rfl|rfl|rfl|rfl
        · exact⟨pp,by omega,rfl⟩
        · exact⟨pp2,by omega,rfl⟩
        · exact⟨p3,by omega,rfl⟩
        · exact⟨dd,by omega,rfl⟩
      tb_from(xC (by omega) hrr hjs ?_)
      walk_at "w"
      exact hN3 _ ⟨_,rfl⟩
    · rintro env ⟨td,rfl⟩
      exact hN2 _ ⟨_,_,rfl⟩
  · rintro env ⟨tc,td,rfl⟩
    exact hN _ ⟨_,_,_,_,_,_,_,_,_,_,_,_,_,rfl⟩
set_option maxHeartbeats 16000000 in
theorem ZQ:∀ns:List Int,ns.length<=63->NA [.scr ns] λr=>r= .bl true:=by
 intro ns hns
 unfold NA
 tb_from(⟨by omega,?_⟩)
 refine⟨by omega,?_⟩
 refine zN (λenv=>∃t1 t2 t3 t4 t5 t6 t7 t8 t9 ta tb tc td,env=[some (.scr ns),t1,t2,t3,t4,t5,t6,t7,t8,t9,ta,tb,tc,td]) ⟨_,_,_,_,_,_,_,_,_,_,_,_,_,rfl⟩ ?_ ?_
 ·rintro x env N hx ⟨t1,t2,t3,t4,t5,t6,t7,t8,t9,ta,tb,tc,td,rfl⟩ hN
  obtain⟨i,rfl,i0,i1⟩:=EZ hx
  tb_from(⟨by omega,by omega,?_⟩)
  tb_from(X8 (λh=>?_) λh=>?_)
  ·refine⟨by decide,by decide,λr r0 r1=>?_⟩
   exact N5 rfl hN
  ·dsimp only
   exact N5 (g:=false) rfl hN
 ·rintro env ⟨t1,t2,t3,t4,t5,t6,t7,t8,t9,ta,tb,tc,td,rfl⟩
  tb_from(xC (bk:=[⟨"a",0,2,3⟩,⟨"b",1,3,4⟩]) (pp:=[(1,4)]) (ks:=[0]) (by simp) (by simp) ⟨by simp,by simp⟩ rfl)
end K25
set_option maxHeartbeats 4000000
local macro_rules | `(tactic| walk_at "lk") => `(tactic| with_reducible first | assumption | exact L2.b5 | (apply L2.lk_ne; (walk_at "ne"); (walk_at "lk")))
local macro_rules | `(tactic| walk_at "ne") => `(tactic| with_reducible first | assumption | exact Ne.symm (by assumption) | (apply L2.ne_new; assumption; (walk_at "lk")) | (apply Ne.symm; apply L2.ne_new; assumption; (walk_at "lk")))
local macro_rules | `(tactic| walk_at "at") => `(tactic| with_reducible first | exact L2.tQ | exact L2.iB | exact L2.nU | exact L2.qA | exact L2.at_b | exact L2.at_e | exact L2.at_w | exact L2.at_n | assumption)
local macro_rules | `(tactic| walk_at "side") => `(tactic| first | assumption | omega | (apply L2.Y9 <;> omega) | (apply L2.YA <;> omega) | (apply L2.T2; omega; first | assumption | (apply L2.a3F; omega)))
local macro_rules | `(tactic| walk_at "len") => `(tactic| first | assumption | omega | (simp only [List.length_cons, List.length_nil, List.length_append]; omega))
local macro_rules | `(tactic| walk_at "st1") => `(tactic| with_reducible first
  |refine L2.step ?_
  |(apply L2.a6E;(walk_at "side"))
  |(apply L2.W8;(walk_at "lk");(walk_at "at"))
  |(apply L2.rIxTp_s;(walk_at "lk");(walk_at "at"))
  |(apply L2.iteT)|(apply L2.iteF)|(apply L2.iteNT_s)|(apply L2.iteNF_s)
  |(apply L2.a3B;(walk_at "len"))
  |(apply L2.a1E;(walk_at "lk"))|(apply L2.a1F;(walk_at "lk"))|(apply L2.a1G;(walk_at "lk"))
  |(apply L2.gTup2_s;(walk_at "lk"))|(apply L2.gTup3_s;(walk_at "lk"))|(apply L2.gTup4_s;(walk_at "lk"))
  |(apply L2.IL;assumption)|(apply L2.rLenL_s;(walk_at "lk"))|(apply L2.rLenT_s;(walk_at "lk"))
  |(apply L2.rListOfL_s;(walk_at "lk"))
  |(apply L2.tyL_s;(walk_at "lk"))
  |(apply L2.rAppend_s;(walk_at "lk");(apply L2.lenT_s;(walk_at "len")))
  |(apply L2.sl13_s;(walk_at "lk"))
  |(apply L2.rCat_s;(walk_at "lk");(walk_at "lk");(apply L2.lenL_s;(walk_at "len")))
  |(apply L2.exfl_s;(walk_at "lk"))
  |(apply L2.exacc_s;(walk_at "lk");(walk_at "len"))
  |(apply L2.rListR_s;(walk_at "lk");omega)
  |(apply L2.rAddS_s;(apply L2.lenL_s;omega)))
local macro_rules | `(tactic| walk_at "st") => `(tactic| (repeat walk_at "st1"))
local macro_rules | `(tactic| walk_at "but") => `(tactic| with_reducible (repeat (first | assumption | exact L2.But.refl | refine L2.But.put_of ?_ | (refine L2.But.new_of ?_ (by assumption)) | (refine L2.But.own_of ?_ (by assumption)))))
local macro_rules | `(tactic| walk_at "same") => `(tactic| with_reducible (repeat (first | assumption | exact L2.Same.refl _ | (refine L2.Same.new_of ?_ (by assumption)))))
local macro_rules | `(tactic| walk_at "tups") => `(tactic| with_reducible (repeat (first | assumption | exact L2.Tups.refl | (refine L2.Tups.new_of ?_ (by assumption)) | (apply L2.Tups.put_of; rotate_left; (walk_at "lk")))))
local macro_rules | `(tactic| walk_at "n") => `(tactic| exact L2.XG (by first | exact Or.inl (by decide +kernel) | exact Or.inr (by decide +kernel)) rfl (by decide +kernel) (by decide +kernel))
local macro_rules | `(tactic| walk_at "d") => `(tactic| (refine' L2.YC ?da ?dl ?dc ?dk; (case da => k_is); (case dl => k_is); (case dc => k_is); (case dk => k_is)))
namespace K25
open PySem L2
def top(i:Nat):Stmt:=PySem.Challenge.pw_benchworth_k25_slack.main.body.getD i (.Pass ⟨0,0,0,0⟩)
structure Txt(K:PySem.W.Frag)(mg:Str->Option Value):Prop where
 b_abs:mg "abs"=none
 b_bool:mg "bool"=none
 b_dict:mg "dict"=none
 b_enumerate:mg "enumerate"=none
 b_int:mg "int"=none
 b_isinstance:mg "isinstance"=none
 b_len:mg "len"=none
 b_list:mg "list"=none
 b_max:mg "max"=none
 b_min:mg "min"=none
 b_range:mg "range"=none
 b_set:mg "set"=none
 b_sorted:mg "sorted"=none
 b_sum:mg "sum"=none
 b_tuple:mg "tuple"=none
 b_zip:mg "zip"=none
section
variable{P:Program}{w:World}{K:Aa}{mg:Str->Option Value}{base:Heap}
theorem a7B{X:Cx}{md:List Md}{e:Expr}{pe:aY}(h:VE X md e (.c .fl) pe):VE X md e (.p .fl) pe:=dC h rfl
theorem a7C{X:Cx}{md:List Md}{e:Expr}{pe:aY}(h:VE X md e (.c .sh) pe):VE X md e (.p .sh) pe:=dC h rfl
theorem DP{X:Cx}{md:List Md}{e:Expr}{pe:aY}(h:VE X md e (.o .fl) pe):VE X md e (.p .fl) pe:=dC h rfl
theorem O8{X:Cx}{md:List Md}{e:Expr}{pe:aY}(h:VE X md e (.o .fl) pe):VE X md e .bw pe:=dC h rfl
theorem a63{X:Cx}{md:List Md}{e:Expr}{pe:aY}(h:VE X md e (.o .sh) pe):VE X md e (.p .sh) pe:=dC h rfl
theorem UM{X:Cx}{md:List Md}{e:Expr}{pe:aY}(h:VE X md e (.o .sh) pe):VE X md e .bw pe:=dC h rfl
theorem a7D{X:Cx}{md:List Md}{e:Expr}{pe:aY}(h:VE X md e (.o .sn) pe):VE X md e (.p .sn) pe:=dC h rfl
theorem a7E{X:Cx}{md:List Md}{e:Expr}{pe:aY}(h:VE X md e (.p .fl) pe):VE X md e (.p .sh) pe:=dC h rfl
theorem a7F{X:Cx}{md:List Md}{e:Expr}{pe:aY}(h:VE X md e (.v .fl) pe):VE X md e (.p .fl) pe:=dC h rfl
theorem a72{X:Cx}{md:List Md}{e:Expr}{pe:aY}(h:VE X md e (.v .fl) pe):VE X md e (.v .sh) pe:=dC h rfl
theorem aE{X:Cx}{md:List Md}{e:Expr}{pe:aY}(h:VE X md e (.v .fl) pe):VE X md e .bw pe:=dC h rfl
theorem jF{X:Cx}{md:List Md}{e:Expr}{pe:aY}(h:VE X md e (.v .sh) pe):VE X md e (.p .sh) pe:=dC h rfl
theorem iI{X:Cx}{md:List Md}{e:Expr}{pe:aY}(h:VE X md e (.v .sh) pe):VE X md e .bw pe:=dC h rfl
theorem a5Z{X:Cx}{md:List Md}{e:Expr}{pe:aY}(h:VE X md e (.v .sn) pe):VE X md e (.p .sn) pe:=dC h rfl
theorem a3A{X:Cx}{md:List Md}{e:Expr}{pe:aY}(h:VE X md e (.v .sn) pe):VE X md e (.v .sh) pe:=dC h rfl
theorem a60{X:Cx}{md:List Md}{e:Expr}{pe:aY}(h:VE X md e (.v .sn) pe):VE X md e .bw pe:=dC h rfl
theorem BW{X:Cx}{md:List Md}{e:Expr}{pe:aY}(h:VE X md e (.z .fl) pe):VE X md e (.v .sn) pe:=dC h rfl
theorem a61{X:Cx}{md:List Md}{e:Expr}{pe:aY}(h:VE X md e (.z .sh) pe):VE X md e (.v .sh) pe:=dC h rfl
theorem a62{X:Cx}{md:List Md}{e:Expr}{pe:aY}(h:VE X md e (.z .sn) pe):VE X md e (.v .sn) pe:=dC h rfl
theorem KP{X:Cx}{md:List Md}{e:Expr}{pe:aY}(h:VE X md e .n pe):VE X md e .bw pe:=dC h rfl
abbrev qW:Stmt:=top 1
abbrev JB:List Str:=["stretch", "moment"]
theorem LX:SN JB ["stretch", "moment"] qW:=bS
abbrev i8:=l4 1 "is_over" ["stretch", "moment"] [.bw,.bw] (.v .fl) eQ
theorem F1(D:Df K mg "is_over" qW)(T:Txt K mg): i8 P w K mg base:=
 have z:=LX
 DI (mn:=[.no,.no]) (B1 Lib.yF.2) D z λf cdv A outer s H E hr=>
 (aN (aX (RR FN kQ a6J a1C (iI (aJ (vp .sh z) (aE aC) (λ_ _=>rfl))) (vb z) (iI (aJ (vp .sh z) (aE aC) (λ_ _=>rfl)))) rfl))
abbrev hZ:Stmt:=top 2
abbrev yW:List Str:=["book"]
theorem AX:SN yW ["book"] hZ:=bS
abbrev gG:=l4 1 "moments_of" ["book"] [.bw] (.o .fl) d5
theorem wH(D:Df K mg "moments_of" hZ)(T:Txt K mg): gG P w K mg base:=
 have z:=AX
 a4V (mn:=[.no]) (a2S Lib.pB.2) D z λf cdv A outer s H E hr=>
 (aN (aX (G3 (N':=["stretch", "moment"]) (n:=2) (cap:=[]) (mb:=[(.v .sh),.no]) (m2:=[(.v .sh),.no]) (λ_=>rfl) rfl (show LcOk ["book"] (aD hZ) _ _ _ _ from tG (by rfl) (by rfl) (by decide+kernel)) rfl rfl gD T.b_sorted (cK (vr (.v .sh) z)) (λ_ _ _ _=>(gq 0)) (λ_ _ _ _=>eC) (λ_ _ _ _=>a4U (m1:=[(.v .sh),(.v .sh)]) (m2:=[(.v .sh),(.v .sh)]) rfl rfl rfl rfl (RW (RU (jF (bG (m:=(.v .sh)) qo rfl rfl)) (kZ (aE aC)) (kZ (aE aC)))) (gq 1) eC (a1X rfl rfl bo))) rfl))
abbrev oC:Stmt:=top 16
abbrev DX:List Str:=["book", "some"]
theorem GD:SN DX ["book", "some"] oC:=bS
abbrev lT:=l4 1 "worth_of" ["book", "some"] [.bw,.bw] (.v .fl) fW
theorem CA(D:Df K mg "worth_of" oC)(T:Txt K mg): lT P w K mg base:=
 have z:=GD
 DI (mn:=[.no,.no]) (B1 Lib.vH.2) D z λf cdv A outer s H E hr=>
 (aN (aX (b8 (FL rfl) AH gD T.b_sum EB (a7 (UM (J4 ["number", "book"] 1 [0] [(.v .sh),(.v .sh)] (cK (vr (.v .sh) z)) (λ_ _ _ _=>(gq 0)) (λ_ _ _ _=>eC) (λ_ _ _ _=>(aJ (jF (aJ (jF (bG (m:=(.v .sh)) (qk cD) rfl rfl)) bo (λ_ _=>rfl))) (aE aC) (λ_ _=>rfl))))) aB) E7 E4) rfl))
abbrev kT:Stmt:=top 19
abbrev yV:List Str:=["rooms", "ahead", "back"]
theorem AW:SN yV ["rooms"] kT:=bS
abbrev jA:=l4 1 "free_roads" ["rooms"] [.bw] (.o .fl) dW
theorem wG (D:Df K mg "free_roads" kT) (T:Txt K mg)  : jA P w K mg base:=
  have z:=AW
  a4V (mn:=[.no,.no,.no]) (a2S Lib.pA.2) D z λf cdv A outer s H E hr=>
  (aA (a5B 1 z ["at"] 1 [] [(.v .fl)] (e9 gD T.b_range (aE (b8 dZ eL gD T.b_len eY (a7 (vb z) aB) fN fM))) (λ_ _ _ _=>(gq 0)) (λ_ _ _ _=>eC) (λ_ _ _ _=>(bR .fl (a7 (bG (m:=(.v .fl)) qo rfl rfl) (a7 (bI bP lL bo (aE aC)) (a7 aC (a7 eI aB)))) rfl)))
 (aA (a5B 2 z ["at", "room"] 2 [] [(.v .sh),(.v .sh)] (tK gD T.b_enumerate (vr (.v .sh) z)) (λ_ _ _ _=>(cC (n:=2) rfl (aI (gq 0) (aI (gq 1) bU)))) (λ_ _ _ _=>(j7 (b7 eO LJ bo (aE aC) (aV _)))) (λ_ _ _ _=>(bR .sh (a7 (bI bP lL bo (aE aC)) (a7 (bG (m:=(.v .sh)) qo rfl rfl) (a7 aC (a7 eI aB)))) rfl)))
 (aN (aX (k3 (vZ (vp .sh z) (a63 (a21 (vk .sh z) (aE (kY (aE aC))))))) rfl))))
abbrev eK:Stmt:=top 20
abbrev sH:List Str:=["book", "places", "chosen", "place_of", "roads", "number", "name", "begin", "end", "worth"]
theorem sY:SN sH ["book", "places", "chosen"] eK:=bS
abbrev fK:=l4 1 "stretch_roads" ["book", "places", "chosen"] [.bw,.bw,.bw] (.o .fl) cH
theorem qN (D:Df K mg "stretch_roads" eK) (T:Txt K mg)  : fK P w K mg base:=
  have z:=sY
  XW (mn:=[.no,.no,.no,.no,.no,.no,.no,.no,.no,.no]) (XB Lib.lG.2) D z λf cdv A outer s H E hr=>
  (aA (RZ (i:=3) (N':=["at", "moment"]) (n:=2) (cap:=[]) (mb:=[(.v .sh),(.v .sh)]) z.s.nd rfl (ln z 3) rfl (.inl rfl) rfl (by decide) (λ_=>rfl) rfl (show LcOk ["book", "places", "chosen", "place_of", "roads", "number", "name", "begin", "end", "worth"] (aD eK) _ _ _ _ from tG (by rfl) (by rfl) (by decide+kernel)) rfl rfl (tK gD T.b_enumerate (vr (.v .sh) z)) (λ_ _ _ _=>(cC (n:=2) rfl (aI (gq 0) (aI (gq 1) bU)))) (λ_ _ _ _=>eC) (λ_ _ _ _=>bo) (λ_ _ _ _=>(gJ bo)))
 (aA (iR 4 z (bL .fl aB rfl))
 (aA (d3 a1h rfl rfl (tK gD T.b_enumerate (vr (.v .sh) z)) (cC (n:=2) rfl (aI (gn 5 z) (aI (cC (n:=4) rfl (aI (gn 6 z) (aI (gn 7 z) (aI (gn 8 z) (aI (gn 9 z) bU))))) bU)))
 (aA (eG (b7 (VX hr.units) a1H (vb z) (vb z) (by with_unfolding_all rfl))
 (aA (j6 a2l a2s a2r gC dO (qn z) rfl (a7 (gJ (iI (bR .sh (a7 (n4 hr.units (vk .fl z) (vb z) (λ_ _=>rfl)) (a7 (n4 hr.units (vk .fl z) (vb z) (λ_ _=>rfl)) (a7 (kY (vb z)) (a7 (vr (.v .sh) z) aB)))) rfl))) aB))
 aK)
 (aA (j6 a2l a2s a2r gC dO (qn z) rfl (a7 (gJ (iI (bR .sh (a7 (n4 hr.units (vk .fl z) (vb z) (λ_ _=>rfl)) (a7 (n4 hr.units (vk .fl z) (vb z) (λ_ _=>rfl)) (a7 (vr (.v .sh) z) (a7 (vr (.v .sh) z) aB)))) rfl))) aB))
 aK))
 (cN (m1:=[(.v .sh),(.v .sh),(.v .sh),(.o .fl),(.o .fl),.no,.no,.no,.no,.no]) rfl aK)))
 (aN (n5 (qn z) rfl rfl)))))
abbrev cX:Stmt:=top 22
abbrev q0:List Str:=["roads", "many", "start", "gains", "last_roads", "better", "road", "before", "goal", "gain", "number"]
theorem rJ:SN q0 ["roads", "many", "start"] cX:=bS
abbrev eX:=l4 1 "greatest_gains" ["roads", "many", "start"] [.bw,.bw,.bw] (.v .sn) c7
theorem oS (D:Df K mg "greatest_gains" cX) (T:Txt K mg)  : eX P w K mg base:=
  have z:=rJ
  XW (mn:=[.no,.no,.no,.no,.no,.no,.no,.no,.no,.no,.no]) (XB Lib.jY.2) D z λf cdv A outer s H E hr=>
  (aA (J5 (i:=3) (j:=4) (m1:=(.o .fl)) (m2:=(.o .fl)) rfl z.s.nd rfl rfl (by decide) (show (aD cX).names.lookup (Str.ofString "gains")=some NameKind.local by decide+kernel) (show (aD cX).names.lookup (Str.ofString "last_roads")=some NameKind.local by decide+kernel) (G2 (DP (bL .fl (a7 eI aB) rfl)) (vb z)) (G2 (DP (bL .fl (a7 eI aB) rfl)) (vb z)) rfl rfl rfl (by decide) rfl (by decide))
 (aA (a22 (qn z) rfl aC (vb z))
 (aA (iR 5 z yS)
 (aA (DJ a1h (rH (vb z))
 (aA (iR 5 z yS)
 (aA (d3 a1h rfl rfl (cK (vr (.v .sh) z)) (gn 6 z)
 (aA (mL (vr (.v .sh) z) (cC (n:=4) rfl (aI (gn 7 z) (aI (gn 8 z) (aI (gn 9 z) (aI (gn 10 z) bU))))))
 (aA (eG (mM (l3 (b7 pH pP (aE (aJ (vk .fl z) (vb z) (λ_ _=>rfl))) (aE eI) (aV _)) (i3 (mM (XX (b7 IJ IN (aE (aJ (vk .fl z) (vb z) (λ_ _=>rfl))) (aE eI) (aV _)) (S3 (b7 eO LJ (aE (bI bP lL (aE (aJ (vk .fl z) (vb z) (λ_ _=>rfl))) (vb z))) (aE (aJ (vk .fl z) (vb z) (λ_ _=>rfl))) (aV _))))))))
 (aA (X2 rfl (qn z) rfl (qn z) rfl (gJ (iI (bR .sh (a7 (bI bP lL (aE (aJ (vk .fl z) (vb z) (λ_ _=>rfl))) (vb z)) (a7 (vr (.v .sh) z) aB)) rfl))) (vb z) (vb z))
 (aA (iR 5 z yS)
 aK))
 aK)
 (cN (m1:=[(.v .sh),(.v .sh),(.v .sh),(.o .fl),(.o .fl),(.v .fl),.no,.no,.no,.no,.no]) rfl aK))))
 aK)))
 (aN (rG 3 .fl rfl (rG 4 .fl rfl (aX (bR .sn (a7 (BW (vr (.z .fl) z)) (a7 (BW (vr (.z .fl) z)) aB)) rfl) rfl))))))))
abbrev gT:Stmt:=top 23
abbrev sG:List Str:=["last_roads", "goal", "numbers", "reached", "gain", "number"]
theorem sX:SN sG ["last_roads", "goal"] gT:=bS
abbrev fJ:=l4 1 "numbers_along" ["last_roads", "goal"] [.bw,.bw] (.o .fl) cG
theorem qM (D:Df K mg "numbers_along" gT) (T:Txt K mg)  : fJ P w K mg base:=
  have z:=sX
  DI (mn:=[.no,.no,.no,.no,.no,.no]) (B1 Lib.lE.2) D z λf cdv A outer s H E hr=>
  (aA (iR 2 z (bL .fl aB rfl))
 (aA (DJ a1h (b7 pH pP (iI (aJ (vp .sh z) (vb z) (λ_ _=>rfl))) (aE eI) (aV _))
 (aA (mL (aJ (vp .sh z) (vb z) (λ_ _=>rfl)) (cC (n:=4) rfl (aI (gn 1 z) (aI (gn 3 z) (aI (gn 4 z) (aI (gn 5 z) bU))))))
 (aA (eG (b7 pH pP (vb z) (aE eI) (aV _))
 (aA (j6 a2l a2s a2r gC dO (qn z) rfl (a7 (gJ (vb z)) aB))
 aK)
 aK)
 (cN (m1:=[(.v .sh),(.v .sh),(.o .fl),.no,.no,.no]) rfl aK))))
 (aN (n5 (qn z) rfl rfl))))
abbrev kS:Stmt:=top 24
abbrev yU:List Str:=["chosen", "numbers"]
theorem AV:SN yU ["chosen", "numbers"] kS:=bS
abbrev j9:=l4 1 "changed_by" ["chosen", "numbers"] [.bw,.bw] (.o .fl) dU
theorem wF(D:Df K mg "changed_by" kS)(T:Txt K mg): j9 P w K mg base:=
 have z:=AV
 DI (mn:=[.no,.no]) (B1 Lib.p9.2) D z λf cdv A outer s H E hr=>
 (aN (aX (G5 rfl gD T.b_sorted gD T.b_set (vb z) (vb z)) rfl))
abbrev mK:Stmt:=top 25
abbrev B4:List Str:=["gains", "spots", "rises"]
theorem DL:SN B4 ["gains", "spots"] mK:=bS
abbrev kC:=l4 1 "prices_by" ["gains", "spots"] [.bw,.bw] (.o .fl) eT
theorem A0 (D:Df K mg "prices_by" mK) (T:Txt K mg)  : kC P w K mg base:=
  have z:=DL
  DI (mn:=[.no,.no,.no]) (B1 Lib.rY.2) D z λf cdv A outer s H E hr=>
  (aA (a5B 2 z ["at", "gains"] 1 [0] [(.v .fl),(.v .sh)] (e9 gD T.b_range (aE (b8 dZ eL gD T.b_len eY (a7 (vb z) aB) fN fM))) (λ_ _ _ _=>(gq 0)) (λ_ _ _ _=>eC) (λ_ _ _ _=>(bI e6 sU (iI (aJ (jF (bG (m:=(.v .sh)) (qk cD) rfl rfl)) (aE (bI bP lL bo (aE aC))) (λ_ _=>rfl))) (iI (aJ (jF (bG (m:=(.v .sh)) (qk cD) rfl rfl)) bo (λ_ _=>rfl))))))
 (aN (rG 2 .fl rfl (aX (k3 (J4 ["spot", "rise"] 2 [] [(.v .sh),(.v .sh)] (RX gD T.b_zip (vr (.v .sh) z) (a3A (BW (vr (.z .fl) z)))) (λ_ _ _ _=>(cC (n:=2) rfl (aI (gq 0) (aI (gq 1) bU)))) (λ_ _ _ _=>(j7 (b7 eO LJ bo (aE aC) (aV _)))) (λ_ _ _ _=>(bR .sh (a7 (bG (m:=(.v .sh)) qo rfl rfl) (a7 (bG (m:=(.v .sh)) qo rfl rfl) aB)) rfl)))) rfl))))
abbrev cY:Stmt:=top 32
abbrev fL:List Str:=["_law_script", "_law_k", "_law_cell", "_law_number", "_law_seed"]
theorem i7:SN fL ["_law_script", "_law_k"] cY:=bS
theorem vU:FnScope fL ["_law_script", "_law_k"] (aD cY):=i7.s
theorem rP:NV fL "_law_begun" cY "_law_script" 0:=i7.n.nv rfl
theorem iX:NV fL "_law_begun" cY "_law_k" 1:=i7.n.nv rfl
theorem iY:NV fL "_law_begun" cY "_law_cell" 2:=i7.n.nv rfl
theorem gK:NV fL "_law_begun" cY "_law_number" 3:=i7.n.nv rfl
theorem rQ:NV fL "_law_begun" cY "_law_seed" 4:=i7.n.nv rfl
theorem uB:GL cY "len":=by decide+kernel
theorem uC:GL cY "max":=by decide+kernel
theorem F2 (D:Df K mg "_law_begun" cY) (T:Txt K mg):Cal P w K mg base 1 "_law_begun" ["_law_script", "_law_k"] (IR K):=by
 refine D.ok vU (λ_ _ _ _ _ _ us hl=>UW hl (λ_ _=>rfl)) (λvs H Q E h=>?_) (λf cdv A outer s H vs Q E hr h=>?_)
 ·obtain⟨p,k,ns,rfl,_⟩:=h
  rfl
 ·obtain ⟨p,k,ns,rfl,hS,k0,k1,kk⟩:=h
  have sc:=vU
  refine PZ (d8 (mG (i:=2) sc.nd rfl iY.lo bE rfl (.inl rfl))
   (d8 (Q7 (AA kQ iX.h (CW VP uB T.b_len eY (j3 rP.h vI) fN fM) (aV _))
    (mX (mG (i:=2) sc.nd rfl iY.lo (pF VZ rP.h iX.h (λ_ _=>rfl)) rfl (.inl rfl)))
    A9)
   (d8 (mG (i:=3) sc.nd rfl gK.lo (CW (FK rfl) uC T.b_max E9 (j3 iY.h (j3 (eF e6 (a44 IK bE) iY.h) vI)) E6 E3) rfl (.inl rfl))
   (d8 (mG (i:=4) sc.nd rfl rQ.lo (eF pG (eF bP (eF bP gK.h (eF hW (eF hW bE iX.h) iX.h)) bE) bE) rfl (.inl rfl))
   (d8 (Q7 (AA kQ gK.h (eF fA bE bE) (aV _))
    (mX (mG (i:=3) sc.nd rfl gK.lo bE rfl (.inl rfl)))
    A9)
   (mX (FP (a0Y (j3 gK.h (j3 rQ.h (j3 bE vI))))))))))) ?_
  refine IS (σ:=[some _,some _,none,none,none]) rfl ?_
  walk_at "st"
  have nn:∀cell:Int,0<=(if -1-cell>cell then -1-cell else cell):=by
   intro cell;split<;>omega
  refine IL hS ?_
  walk_at "st"
  refine UH (λh1=>?_) (λh1=>?_)
  ·have h2:k<((ns.map V.int).length:Int):=a4i h1
   rw[a0d] at h2
   have h3:k.toNat<ns.length:=by omega
   have e:iV (ns.map V.int) k=some (.int ns[k.toNat]):=cE k0 (by rw[a0g,a0a h3];rfl)
   walk_at "st"
   refine a17 hS e ?_
   walk_at "st"
   have h4:=nn ns[k.toNat]
   refine UH (λh2=>?_) (λh2=>?_)
   all_goals (walk_at "st";intro q hq;exact kk q _ _ _ hq ⟨by first|omega|exact h4,a4w _ (by omega),a4c _ (by omega)⟩)
  ·walk_at "st"
   have h4:=nn 0
   refine UH (λh2=>?_) (λh2=>?_)
   all_goals (walk_at "st";intro q hq;exact kk q _ _ _ hq ⟨by first|omega|exact h4,a4w _ (by omega),a4c _ (by omega)⟩)
abbrev tM:=l4 1 "_law_begun" ["_law_script", "_law_k"] [.scr,.bw] .st xF
abbrev dM:Stmt:=top 33
abbrev iA:List Str:=["_law_state", "_law_many", "_law_found", "_law_made", "_law_turn"]
theorem k7:SN iA ["_law_state", "_law_many"] dM:=bS
theorem yR:FnScope iA ["_law_state", "_law_many"] (aD dM):=k7.s
theorem c8:NV iA "_law_take" dM "_law_state" 0:=k7.n.nv rfl
theorem kL:NV iA "_law_take" dM "_law_many" 1:=k7.n.nv rfl
theorem uL:NV iA "_law_take" dM "_law_found" 2:=k7.n.nv rfl
theorem kM:NV iA "_law_take" dM "_law_made" 3:=k7.n.nv rfl
theorem F0:NV iA "_law_take" dM "_law_turn" 4:=k7.n.nv rfl
theorem sQ:GL dM "range":=by decide+kernel
theorem wA:GL dM "int":=by decide+kernel
def Y0(H:Hp)(p:Ac)(m a:Int)(_:Nat)(σ:St)(H1:Hp):Prop:=∃(b c made:Int) (tv:Option V),σ=[some (.ref p),some (.int m),none,some (.int made),tv]/\H1=bF H p (SC a b c)/\StOk a b c
theorem L5 (D:Df K mg "_law_take" dM) (T:Txt K mg):Cal P w K mg base 1 "_law_take" ["_law_state", "_law_many"] R7:=by
 refine D.ok yR (λ_ _ _ _ _ _ us hl=>UW hl (λ_ _=>rfl)) (λvs H Q E h=>?_) (λf cdv A outer s H vs Q E hr h=>?_)
 ·obtain⟨p,m,a,b,c,rfl,_⟩:=h
  rfl
 ·obtain ⟨p,m,a,b,c,rfl,hp,ok,m0,m1,k⟩:=h
  have sc:=yR
  refine PZ (d8 (Q7 (AA eO (pF mH c8.h bE (λ_ _=>rfl)) bE (aV _))
    (d8 (mG (i:=2) sc.nd rfl uL.lo (eF pG (pF mH c8.h bE (λ_ _=>rfl)) kL.h) rfl (.inl rfl))
    (d8 (FO (eF yN (pF mH c8.h bE (λ_ _=>rfl)) kL.h) (FM c8.h bE qV))
    (mX (FP uL.h))))
    A9)
   (d8 (mG (i:=3) sc.nd rfl kM.lo bE rfl (.inl rfl))
   (d8 (a13 a1h rfl (LD sQ T.b_range (j3 (eF bP bE (LC FJ wA T.b_int E8 (j3 (VQ eO kL.h (eF fA bE bE) (aV _)) vI) E5 E2)) vI)) (IH (i:=4) sc.nd rfl F0.lo (.inl rfl))
    (d8 (FO (eF bP (pF mH c8.h bE (λ_ _=>rfl)) bE) (FM c8.h bE qV))
    (d8 (FO (eF pG (eF bP (eF hW (pF mH c8.h bE (λ_ _=>rfl)) bE) (eF hW bE (pF mH c8.h bE (λ_ _=>rfl)))) bE) (FM c8.h bE qV))
    (mX (mG (i:=3) sc.nd rfl kM.lo (eF bP (eF hW kM.h bE) (eF pG (eF hW (pF mH c8.h bE (λ_ _=>rfl)) (pF mH c8.h bE (λ_ _=>rfl))) bE)) rfl (.inl rfl))))))
   (mX (FP (eF pG (eF yN kM.h bE) kL.h)))))) ?_
  refine IS (σ:=[some _,some _,none,none,none]) rfl ?_
  walk_at "st"
  refine UH (λh1=>?_) (λh1=>?_)
  ·have h2:=a4i h1
   walk_at "st"
   exact k _ _ _ _ (a4w _ (by omega)) (a4c _ m0) ⟨Int.ediv_nonneg ok.a0 (by omega),ok.b0,ok.b1⟩
  ·walk_at "st"
   generalize hn:(1+if decide ((1000000:Int)<m)=true then (1:Int) else 0)=n
   have hn0:1<=n/\n<=2:=by subst hn;split<;>omega
   refine⟨by omega,by omega,KA (Y0 H p m a) ⟨b,c,0,none,rfl,(RM hp).symm,ok⟩ ?_ ?_⟩
   ·rintro i σ H1 hi ⟨b',c',made,tv,rfl,rfl,ok'⟩
    have h3:0<=(b'*48271+11*(c'+1)) % 2147483647:=a4w _ (by decide)
    have h4:(b'*48271+11*(c'+1)) % 2147483647<2147483647:=a4c _ (by decide)
    walk_at "st"
    exact⟨_,_,_,_,rfl,by rw[J1,J1],⟨ok'.a0,h3,h4⟩⟩
   ·rintro σ H1 ⟨b',c',made,tv,rfl,rfl,ok'⟩
    walk_at "st"
    exact k _ _ _ _ (a4w _ (by omega)) (a4c _ m0) ok'
abbrev eP:=l4 1 "_law_take" ["_law_state", "_law_many"] [.st,.bw] (.v .fl) aW
abbrev vQ:Stmt:=top 36
abbrev MI:List Str:=["_law_book_here", "_law_some", "_law_moment"]
theorem S6:SN MI ["_law_book_here", "_law_some", "_law_moment"] vQ:=bS
abbrev mO:=l4 1 "_law_load" ["_law_book_here", "_law_some", "_law_moment"] [.bw,.bw,.bw] (.v .fl) iE
theorem L1(D:Df K mg "_law_load" vQ)(T:Txt K mg): mO P w K mg base:=
 have z:=S6
 XW (mn:=[.no,.no,.no]) (XB Lib.CS.2) D z λf cdv A outer s H E hr=>
 (aN (aX (b8 dZ eL gD T.b_len eY (a7 (UM (J4 ["_law_i", "_law_moment", "_law_book_here"] 1 [2,0] [(.v .sh),(.v .sh),(.v .sh)] (cK (vr (.v .sh) z)) (λ_ _ _ _=>(gq 0)) (λ_ _ _ _=>(j7 (mM (l3 (b7 FN a6J (iI (aJ (jF (aJ (jF (bG (m:=(.v .sh)) (qk cD) rfl rfl)) bo (λ_ _=>rfl))) (aE aC) (λ_ _=>rfl))) (bk cD) (aV _)) (i3 (b7 kQ a1C (bk cD) (iI (aJ (jF (aJ (jF (bG (m:=(.v .sh)) (qk cD) rfl rfl)) bo (λ_ _=>rfl))) (aE aC) (λ_ _=>rfl))) (aV _))))))) (λ_ _ _ _=>(bG (m:=(.v .sh)) qo rfl rfl)))) aB) fN fM) rfl))
abbrev vT:Stmt:=top 38
abbrev ML:List Str:=["_law_stretch", "_law_paper_here"]
theorem S9:SN ML ["_law_stretch", "_law_paper_here"] vT:=bS
abbrev pZ:=l4 1 "_law_toll" ["_law_stretch", "_law_paper_here"] [.bw,.bw] (.v .fl) iG
theorem L6(D:Df K mg "_law_toll" vT)(T:Txt K mg): pZ P w K mg base:=
 have z:=S9
 DI (mn:=[.no,.no]) (B1 Lib.CV.2) D z λf cdv A outer s H E hr=>
 (aN (aX (b8 (FL rfl) AH gD T.b_sum EB (a7 (UM (J4 ["_law_moment", "_law_price", "_law_stretch"] 2 [0] [(.v .sh),(.v .sh),(.v .sh)] (cK (vr (.v .sh) z)) (λ_ _ _ _=>(cC (n:=2) rfl (aI (gq 0) (aI (gq 1) bU)))) (λ_ _ _ _=>(j7 (mM (l3 (b7 FN a6J (iI (aJ (jF (bG (m:=(.v .sh)) (qk cD) rfl rfl)) (aE aC) (λ_ _=>rfl))) bo (aV _)) (i3 (b7 kQ a1C bo (iI (aJ (jF (bG (m:=(.v .sh)) (qk cD) rfl rfl)) (aE aC) (λ_ _=>rfl))) (aV _))))))) (λ_ _ _ _=>(bG (m:=(.v .sh)) qo rfl rfl)))) aB) E7 E4) rfl))
abbrev rA:Stmt:=top 4
abbrev JF:List Str:=["book", "some", "moment"]
theorem M3:SN JF ["book", "some", "moment"] rA:=bS
abbrev i9:=l4 2 "load_at" ["book", "some", "moment"] [.bw,.bw,.bw] (.v .fl) eR
theorem F6(D:Df K mg "load_at" rA)(T:Txt K mg)(C_is_over:i8 P w K mg base):i9 P w K mg base:=
 have z:=M3
 XW (mn:=[.no,.no,.no]) (XB Lib.yJ.2) D z λf cdv A outer s H E hr=>
 (aN (aX (b8 dZ eL gD T.b_len eY (a7 (UM (J4 ["number", "moment", "book"] 1 [2,0] [(.v .sh),(.v .sh),(.v .sh)] (cK (vr (.v .sh) z)) (λ_ _ _ _=>(gq 0)) (λ_ _ _ _=>(j7 (rH (aE (dR hr C_is_over (a7 (iI (aJ (jF (bG (m:=(.v .sh)) (qk cD) rfl rfl)) bo (λ_ _=>rfl))) (a7 (bk cD) aB)) gL))))) (λ_ _ _ _=>(bG (m:=(.v .sh)) qo rfl rfl)))) aB) fN fM) rfl))
abbrev rD:Stmt:=top 8
abbrev JI:List Str:=["stretch", "paper"]
theorem M6:SN JI ["stretch", "paper"] rD:=bS
abbrev kD:=l4 2 "toll_of" ["stretch", "paper"] [.bw,.bw] (.v .fl) fV
theorem F9(D:Df K mg "toll_of" rD)(T:Txt K mg)(C_is_over:i8 P w K mg base):kD P w K mg base:=
 have z:=M6
 DI (mn:=[.no,.no]) (B1 Lib.yM.2) D z λf cdv A outer s H E hr=>
 (aN (aX (b8 (FL rfl) AH gD T.b_sum EB (a7 (UM (J4 ["moment", "price", "stretch"] 2 [0] [(.v .sh),(.v .sh),(.v .sh)] (cK (vr (.v .sh) z)) (λ_ _ _ _=>(cC (n:=2) rfl (aI (gq 0) (aI (gq 1) bU)))) (λ_ _ _ _=>(j7 (rH (aE (dR hr C_is_over (a7 (bk cD) (a7 bo aB)) gL))))) (λ_ _ _ _=>(bG (m:=(.v .sh)) qo rfl rfl)))) aB) E7 E4) rfl))
abbrev mJ:Stmt:=top 18
abbrev B3:List Str:=["book"]
theorem DK:SN B3 ["book"] mJ:=bS
abbrev kB:=l4 2 "places_of" ["book"] [.bw] (.o .fl) eS
theorem zY(D:Df K mg "places_of" mJ)(T:Txt K mg)(C_moments_of:gG P w K mg base):kB P w K mg base:=
 have z:=DK
 a4V (mn:=[.no]) (a2S Lib.rX.2) D z λf cdv A outer s H E hr=>
 (aN (aX (a20 (dR hr C_moments_of (a7 (vb z) aB) gD) (AR (bL .fl (a7 aC aB) rfl))) rfl))
abbrev vR:Stmt:=top 34
abbrev MJ:List Str:=["_law_state", "_law_k", "_law_letters", "_law_spelt", "_law_j"]
theorem S7:SN MJ ["_law_state", "_law_k"] vR:=bS
abbrev pX:=l4 2 "_law_name" ["_law_state", "_law_k"] [.st,.bw] (.v .fl) jS
theorem L3 (D:Df K mg "_law_name" vR) (T:Txt K mg) (C_l_take:eP P w K mg base):pX P w K mg base:=
  have z:=S7
  DI (mn:=[.no,.no,.no,.no,.no]) (B1 Lib.CT.2) D z λf cdv A outer s H E hr=>
  (aA (iR 2 z jM)
 (aA (iR 3 z jM)
 (aA (d3 a1h rfl rfl (e9 gD T.b_range (aE (dR hr C_l_take (a7 (vr .st z) (a7 (aE aC) aB)) gD))) (gn 4 z)
 (aA (iR 3 z (bI CY D6 (vb z) (aE (aJ (vp .fl z) (aE (dR hr C_l_take (a7 (vr .st z) (a7 (aE aC) aB)) gD)) (λ_ _=>rfl)))))
 (cN (m1:=[.st,(.v .sh),(.v .fl),(.v .fl),.no]) rfl aK)))
 (aN (aX (bI CY D6 (vb z) (aE (aJ (vp .fl z) (vb z) (λ_ _=>rfl)))) rfl)))))
abbrev vP:Stmt:=top 37
abbrev MH:List Str:=["_law_book_here", "_law_some", "_law_benches"]
theorem S5:SN MH ["_law_book_here", "_law_some", "_law_benches"] vP:=bS
abbrev pW:=l4 2 "_law_fits" ["_law_book_here", "_law_some", "_law_benches"] [.bw,.bw,.bw] (.v .fl) jR
theorem L0(D:Df K mg "_law_fits" vP)(T:Txt K mg)(C_l_load:mO P w K mg base):pW P w K mg base:=
 have z:=S5
 XW (mn:=[.no,.no,.no]) (XB Lib.CQ.2) D z λf cdv A outer s H E hr=>
 (aN (aX (AQ (II hr.units) QZ (UM (J4 ["_law_i", "_law_benches", "_law_book_here", "_law_some"] 1 [2,0,1] [(.v .sh),(.v .sh),(.v .sh),(.v .sh)] (cK (vr (.v .sh) z)) (λ_ _ _ _=>(gq 0)) (λ_ _ _ _=>(j7 (b7 eO LJ (aE (dR hr C_l_load (a7 (bk cD) (a7 (bk cD) (a7 (iI (aJ (jF (aJ (jF (bG (m:=(.v .sh)) (qk cD) rfl rfl)) bo (λ_ _=>rfl))) (aE aC) (λ_ _=>rfl))) aB))) gL)) (bk cD) (aV _)))) (λ_ _ _ _=>(bG (m:=(.v .sh)) qo rfl rfl)))) (O8 (bL .fl aB rfl)) (aV _)) rfl))
abbrev qY:Stmt:=top 39
abbrev JD:List Str:=["_law_state", "_law_book_here", "_law_moments", "_law_name_here", "_law_begin", "_law_end", "_law_worth", "_law_prices", "_law_turn", "_law_moment"]
theorem LZ:SN JD ["_law_state", "_law_book_here"] qY:=bS
abbrev nP:=l4 2 "_law_paper" ["_law_state", "_law_book_here"] [.st,.bw] (.o .fl) fR
theorem F4 (D:Df K mg "_law_paper" qY) (T:Txt K mg) (C_l_take:eP P w K mg base):nP P w K mg base:=
  have z:=LZ
  DI (mn:=[.no,.no,.no,.no,.no,.no,.no,.no,.no,.no]) (B1 Lib.yH.2) D z λf cdv A outer s H E hr=>
  (aA (iR 2 z (bL .fl (a7 aC (a7 aC (a7 (kY (aE (bI fA AE (aE aC) (aE aC)))) (a7 (bI e6 sU (aE (bI fA AE (aE aC) (aE aC))) (aE aC)) aB)))) rfl))
 (aA (RY (m1:=[.st,(.v .sh),(.o .sh),.no,.no,.no,.no,.no,.no,.no]) rfl (d3 a1h rfl rfl (cK (vr (.v .sh) z)) (cC (n:=4) rfl (aI (gn 3 z) (aI (gn 4 z) (aI (gn 5 z) (aI (gn 6 z) bU)))))
 (aA (iR 2 z (vZ (vk .sh z) (a63 (bL .sh (a7 (vr (.v .sh) z) (a7 (bI e6 sU (vb z) (aE aC)) aB)) rfl))))
 (cN (m1:=[.st,(.v .sh),(.o .sh),.no,.no,.no,.no,.no,.no,.no]) rfl aK))))
 (aA (iR 7 z WY)
 (aA (d3 a1h rfl rfl (e9 gD T.b_range (aE (dR hr C_l_take (a7 (vr .st z) (a7 (aE aC) aB)) gD))) (gn 8 z)
 (aA (iR 9 z (aJ (vk .sh z) (aE (dR hr C_l_take (a7 (vr .st z) (a7 (aE (b8 dZ eL gD T.b_len eY (a7 (vb z) aB) fN fM)) aB)) gD)) (λ_ _=>rfl)))
 (aA (tL hr.units (qn z) rfl (bI bP lL (aE aC) (aE (dR hr C_l_take (a7 (vr .st z) (a7 (aE (aJ (DP (bL .fl (a7 aC (a7 aC (a7 aC (a7 (bI fA AE (aE aC) (aE aC)) aB)))) rfl)) (aE (dR hr C_l_take (a7 (vr .st z) (a7 (aE aC) aB)) gD)) (λ_ _=>rfl))) aB)) gD))) (vb z))
 (cN (m1:=[.st,(.v .sh),(.o .sh),.no,.no,.no,.no,(.o .fl),.no,.no]) rfl aK))))
 (aN (aX (J4 ["_law_moment", "_law_prices"] 1 [7] [(.v .fl),(.c .fl)] (iQ (gU (b8 (vJ rfl) sA gD T.b_sorted jP (a7 (vk .fl z) aB) xB wX))) (λ_ _ _ _=>(gq 0)) (λ_ _ _ _=>eC) (λ_ _ _ _=>(bR .fl (a7 (bG (m:=(.v .fl)) qo rfl rfl) (a7 (n4 hr.units (a7B (bG (m:=(.c .fl)) (qk cD) rfl rfl)) bo (λ_ _=>rfl)) aB)) rfl))) rfl))))))
abbrev qX:Stmt:=top 40
abbrev JC:List Str:=["_law_state", "_law_book_here", "_law_moments", "_law_first", "_law_most"]
theorem LY:SN JC ["_law_state", "_law_book_here"] qX:=bS
abbrev nO:=l4 2 "_law_dense" ["_law_state", "_law_book_here"] [.st,.bw] (.o .fl) jQ
theorem F3 (D:Df K mg "_law_dense" qX) (T:Txt K mg) (C_l_take:eP P w K mg base):nO P w K mg base:=
  have z:=LY
  DI (mn:=[.no,.no,.no,.no,.no]) (B1 yG.2) D z λf cdv A outer s H E hr=>
  (aA (iR 2 z (G4 rfl gD T.b_sorted gD T.b_set (UM (vZ (a63 (J4 ["_law_one"] 1 [] [(.v .sh)] (cK (vr (.v .sh) z)) (λ_ _ _ _=>(gq 0)) (λ_ _ _ _=>eC) (λ_ _ _ _=>(aJ (jF (bG (m:=(.v .sh)) qo rfl rfl)) (aE aC) (λ_ _=>rfl))))) (a7E (DP (J4 ["_law_one"] 1 [] [(.v .sh)] (cK (vr (.v .sh) z)) (λ_ _ _ _=>(gq 0)) (λ_ _ _ _=>eC) (λ_ _ _ _=>(bI e6 sU (iI (aJ (jF (bG (m:=(.v .sh)) qo rfl rfl)) (aE aC) (λ_ _=>rfl))) (aE aC))))))))))
 (aA (iR 3 z (dR hr C_l_take (a7 (vr .st z) (a7 (aE aC) aB)) gD))
 (aA (iR 4 z (aJ (DP (bL .fl (a7 aC (a7 (bI fA AE (aE aC) (aE aC)) aB)) rfl)) (aE (dR hr C_l_take (a7 (vr .st z) (a7 (aE aC) aB)) gD)) (λ_ _=>rfl)))
 (aN (aX (J4 ["_law_moment", "_law_state", "_law_most"] 1 [0,4] [(.v .fl),.st,(.v .fl)] (iQ (gU (RT (vk .fl z) (kZ (vb z)) (kZ (aE (bI bP lL (aE aC) (vb z))))))) (λ_ _ _ _=>(gq 0)) (λ_ _ _ _=>eC) (λ_ _ _ _=>(bR .fl (a7 (bG (m:=(.v .fl)) qo rfl rfl) (a7 (bI bP lL (aE aC) (aE (dR hr C_l_take (a7 (bG (m:=.st) (qk cD) rfl rfl) (a7 (bk cD) aB)) gL))) aB)) rfl))) rfl)))))
abbrev vS:Stmt:=top 42
abbrev MK:List Str:=["_law_state", "_law_paper_here", "_law_at", "_law_moment", "_law_price", "_law_way", "_law_prices"]
theorem S8:SN MK ["_law_state", "_law_paper_here"] vS:=bS
abbrev pY:=l4 2 "_law_near" ["_law_state", "_law_paper_here"] [.st,(.v .sh)] (.v .sh) iF
theorem L4 (D:Df K mg "_law_near" vS) (T:Txt K mg) (C_l_take:eP P w K mg base):pY P w K mg base:=
  have z:=S8
  a7L (mn:=[.no,.no,.no,.no,.no,.no,.no]) (B1 Lib.CU.2) D z λf cdv A outer s H E hr=>
  (aA (eG (b7 (II hr.units) QZ (vb z) (O8 (bL .fl aB rfl)) (aV _))
 (aN (aX (vr (.v .sh) z) rfl))
 aK)
 (aA (iR 2 z (dR hr C_l_take (a7 (vr .st z) (a7 (aE (b8 dZ eL gD T.b_len eY (a7 (vb z) aB) fN fM)) aB)) gD))
 (aA (mL (aJ (vp .sh z) (vb z) (λ_ _=>rfl)) (cC (n:=2) rfl (aI (gn 3 z) (aI (gn 4 z) bU))))
 (aA (iR 5 z (dR hr C_l_take (a7 (vr .st z) (a7 (aE aC) aB)) gD))
 (aA (iR 6 z (gF (Q2 rfl) LK gD T.b_dict SW (a7 (vp .sh z) aB) SU SQ))
 (aA (eG (b7 vK pO (vb z) (aE aC) (aV _))
 (aA (tL hr.units (qn z) rfl (a72 (bI bP lL (vb z) (aE aC))) (vb z))
 aK)
 aK)
 (aA (eG (mM (l3 (b7 vK pO (vb z) (aE aC) (aV _)) (i3 (b7 eO LJ (vb z) (aE aC) (aV _)))))
 (aA (tL hr.units (qn z) rfl (a72 (bI e6 sU (vb z) (aE aC))) (vb z))
 aK)
 aK)
 (aA (eG (b7 eO LJ (vb z) (aE aC) (aV _))
 (aA (j6 PySem.F.plainAttrs_dict PySem.F.slot_dict_pop PySem.F.type_dict_pop VU LL (qn z) rfl (a7 (vb z) aB))
 aK)
 aK)
 (aA (eG (mM (l3 (b7 eO LJ (vb z) (aE aC) (aV _)) (i3 (b7 kQ a1C (aE (b8 a0X WC gD T.b_abs Y6 (a7 (vb z) aB) Y4 Y2)) (aE (bI e6 sU (aE (bI fA AE (aE aC) (aE aC))) (aE aC))) (aV _)))))
 (aA (tL hr.units (qn z) rfl (vr (.v .sh) z) (aE (bI bP lL (vb z) (aE (aJ (DP (bL .fl (a7 aC (a7 (kY (aE aC)) aB)) rfl)) (aE (bI e6 sU (vb z) (aE aC))) (λ_ _=>rfl))))))
 aK)
 aK)
 (aN (aX (a61 (gU (J4 ["_law_one", "_law_prices"] 1 [6] [(.v .fl),(.c .sh)] (iQ (gU (b8 (vJ rfl) sA gD T.b_sorted jP (a7 (vk .sh z) aB) xB wX))) (λ_ _ _ _=>(gq 0)) (λ_ _ _ _=>eC) (λ_ _ _ _=>(bR .sh (a7 (bG (m:=(.v .fl)) qo rfl rfl) (a7 (n4 hr.units (a7C (bG (m:=(.c .sh)) (qk cD) rfl rfl)) bo (λ_ _=>rfl)) aB)) rfl))))) rfl)))))))))))
abbrev AF:Stmt:=top 43
abbrev SF:List Str:=["_law_book_here", "_law_benches", "_law_paper_here", "_law_choice_here", "_law_moment", "_law_price", "_law_i"]
theorem X4:SN SF ["_law_book_here", "_law_benches", "_law_paper_here", "_law_choice_here"] AF:=bS
abbrev tN:=l4 2 "_law_due" ["_law_book_here", "_law_benches", "_law_paper_here", "_law_choice_here"] [.bw,.bw,.bw,.bw] (.v .fl) oK
theorem OT (D:Df K mg "_law_due" AF) (T:Txt K mg) (C_l_load:mO P w K mg base) (C_l_toll:pZ P w K mg base):tN P w K mg base:=
  have z:=X4
  a4W (mn:=[.no,.no,.no,.no,.no,.no,.no]) (a2T IF.2) D z λf cdv A outer s H E hr=>
  (aA (d3 a1h rfl rfl (cK (vr (.v .sh) z)) (cC (n:=2) rfl (aI (gn 4 z) (aI (gn 5 z) bU)))
 (aA (eG (b7 kQ a1C (aE (dR hr C_l_load (a7 (vb z) (a7 (vb z) (a7 (vb z) aB))) gD)) (vb z) (aV _))
 (aN (aX (bR .fl (a7 jM (a7 (gJ (vb z)) aB)) rfl) rfl))
 aK)
 (cN (m1:=[(.v .sh),(.v .sh),(.v .sh),(.v .sh),.no,.no,.no]) rfl aK)))
 (aA (d3 a1h rfl rfl (e9 gD T.b_range (aE (b8 dZ eL gD T.b_len eY (a7 (vb z) aB) fN fM))) (gn 6 z)
 (aA (eG (mM (l3 (b7 (CZ hr.units) IQ (vb z) (vb z) (by with_unfolding_all rfl)) (i3 (b7 eO LJ (iI (aJ (jF (aJ (vp .sh z) (vb z) (λ_ _=>rfl))) (aE aC) (λ_ _=>rfl))) (aE (dR hr C_l_toll (a7 (iI (aJ (vp .sh z) (vb z) (λ_ _=>rfl))) (a7 (vb z) aB)) gD)) (aV _)))))
 (aN (aX (bR .fl (a7 jM (a7 (vr (.v .fl) z) aB)) rfl) rfl))
 aK)
 (cN (m1:=[(.v .sh),(.v .sh),(.v .sh),(.v .sh),.no,.no,.no]) rfl aK)))
 (aA (d3 a1h rfl rfl (cK (vr (.v .sh) z)) (gn 6 z)
 (aA (eG (b7 kQ a1C (iI (aJ (jF (aJ (vp .sh z) (vb z) (λ_ _=>rfl))) (aE aC) (λ_ _=>rfl))) (aE (dR hr C_l_toll (a7 (iI (aJ (vp .sh z) (vb z) (λ_ _=>rfl))) (a7 (vb z) aB)) gD)) (aV _))
 (aN (aX (bR .fl (a7 jM (a7 (gJ (vb z)) aB)) rfl) rfl))
 aK)
 (cN (m1:=[(.v .sh),(.v .sh),(.v .sh),(.v .sh),.no,.no,.no]) rfl aK)))
 (aN (aX eI rfl)))))
abbrev o9:Stmt:=top 5
abbrev DU:List Str:=["book", "some", "steps", "before", "moment", "load"]
theorem GA:SN DU ["book", "some"] o9:=bS
abbrev lP:=l4 3 "loads_of" ["book", "some"] [.bw,.bw] (.o .fl) fS
theorem C7 (D:Df K mg "loads_of" o9) (T:Txt K mg) (C_moments_of:gG P w K mg base) (C_load_at:i9 P w K mg base):lP P w K mg base:=
  have z:=GA
  DI (mn:=[.no,.no,.no,.no,.no,.no]) (B1 Lib.vE.2) D z λf cdv A outer s H E hr=>
  (aA (iR 2 z (bL .fl aB rfl))
 (aA (iR 3 z aC)
 (aA (d3 a1h rfl rfl (iQ (gU (dR hr C_moments_of (a7 (UM (J4 ["number", "book"] 1 [0] [(.v .sh),(.v .sh)] (cK (vr (.v .sh) z)) (λ_ _ _ _=>(gq 0)) (λ_ _ _ _=>eC) (λ_ _ _ _=>(aJ (jF (bG (m:=(.v .sh)) (qk cD) rfl rfl)) bo (λ_ _=>rfl))))) aB) gD))) (gn 4 z)
 (aA (iR 5 z (dR hr C_load_at (a7 (vb z) (a7 (vb z) (a7 (vb z) aB))) gD))
 (aA (eG (b7 a12 WD (vb z) (vb z) (aV _))
 (aA (j6 a2l a2s a2r gC dO (qn z) rfl (a7 (bR .fl (a7 (vr (.v .fl) z) (a7 (vr (.v .fl) z) aB)) rfl) aB))
 aK)
 aK)
 (aA (iR 3 z (vr (.v .fl) z))
 (cN (m1:=[(.v .sh),(.v .sh),(.o .fl),(.v .fl),.no,.no]) rfl aK)))))
 (aN (n5 (qn z) rfl rfl)))))
abbrev rC:Stmt:=top 9
abbrev JH:List Str:=["stretch", "paper"]
theorem M5:SN JH ["stretch", "paper"] rC:=bS
abbrev nT:=l4 3 "rest_of" ["stretch", "paper"] [.bw,.bw] (.v .fl) i6
theorem F8(D:Df K mg "rest_of" rC)(T:Txt K mg)(C_toll_of:kD P w K mg base):nT P w K mg base:=
 have z:=M5
 DI (mn:=[.no,.no]) (B1 Lib.yL.2) D z λf cdv A outer s H E hr=>
 (aN (aX (b8 (FK rfl) D8 gD T.b_max E9 (a7 (aE aC) (a7 (aE (bI e6 sU (iI (aJ (vp .sh z) (aE aC) (λ_ _=>rfl))) (aE (dR hr C_toll_of (a7 (vb z) (a7 (vb z) aB)) gD)))) aB)) E6 E3) rfl))
abbrev iO:Stmt:=top 11
abbrev tO:List Str:=["book", "benches", "paper", "choice", "moment", "price"]
theorem w4:SN tO ["book", "benches", "paper", "choice"] iO:=bS
abbrev gO:=l4 3 "slack_moment" ["book", "benches", "paper", "choice"] [.bw,.bw,.bw,.bw] (.v .fl) cS
theorem sT (D:Df K mg "slack_moment" iO) (T:Txt K mg) (C_load_at:i9 P w K mg base):gO P w K mg base:=
  have z:=w4
  a4W (mn:=[.no,.no,.no,.no,.no,.no]) (a2T Lib.mF.2) D z λf cdv A outer s H E hr=>
  (aA (d3 a1h rfl rfl (cK (vr (.v .sh) z)) (cC (n:=2) rfl (aI (gn 4 z) (aI (gn 5 z) bU)))
 (aA (eG (b7 kQ a1C (aE (dR hr C_load_at (a7 (vb z) (a7 (vb z) (a7 (vb z) aB))) gD)) (vb z) (aV _))
 (aN (aX (gJ (vb z)) rfl))
 aK)
 (cN (m1:=[(.v .sh),(.v .sh),(.v .sh),(.v .sh),.no,.no]) rfl aK)))
 (aN (aX eI rfl)))
abbrev kU:Stmt:=top 13
abbrev yX:List Str:=["book", "paper", "choice", "number"]
theorem AY:SN yX ["book", "paper", "choice"] kU:=bS
abbrev jB:=l4 3 "slack_dear" ["book", "paper", "choice"] [.bw,.bw,.bw] (.v .fl) dX
theorem wI (D:Df K mg "slack_dear" kU) (T:Txt K mg) (C_toll_of:kD P w K mg base):jB P w K mg base:=
  have z:=AY
  XW (mn:=[.no,.no,.no,.no]) (XB Lib.pD.2) D z λf cdv A outer s H E hr=>
  (aA (d3 a1h rfl rfl (cK (vr (.v .sh) z)) (gn 3 z)
 (aA (eG (b7 eO LJ (aE (dR hr C_toll_of (a7 (iI (aJ (vp .sh z) (vb z) (λ_ _=>rfl))) (a7 (vb z) aB)) gD)) (iI (aJ (jF (aJ (vp .sh z) (vb z) (λ_ _=>rfl))) (aE aC) (λ_ _=>rfl))) (aV _))
 (aN (aX (gJ (vb z)) rfl))
 aK)
 (cN (m1:=[(.v .sh),(.v .sh),(.v .sh),.no]) rfl aK)))
 (aN (aX eI rfl)))
abbrev oA:Stmt:=top 21
abbrev DV:List Str:=["book", "places", "limits", "chosen", "rooms"]
theorem GB:SN DV ["book", "places", "limits", "chosen"] oA:=bS
abbrev lQ:=l4 3 "roads_of" ["book", "places", "limits", "chosen"] [.bw,.bw,.bw,.bw] (.o .fl) fU
theorem C8 (D:Df K mg "roads_of" oA) (T:Txt K mg) (C_free_roads:jA P w K mg base) (C_stretch_roads:fK P w K mg base) (C_load_at:i9 P w K mg base):lQ P w K mg base:=
  have z:=GB
  a4W (mn:=[.no,.no,.no,.no,.no]) (a2T Lib.vF.2) D z λf cdv A outer s H E hr=>
  (aA (a5B 4 z ["limit", "place", "book", "chosen"] 2 [0,3] [(.v .sh),(.v .sh),(.v .sh),(.v .sh)] (RX gD T.b_zip (vr (.v .sh) z) (vr (.v .sh) z)) (λ_ _ _ _=>(cC (n:=2) rfl (aI (gq 0) (aI (gq 1) bU)))) (λ_ _ _ _=>eC) (λ_ _ _ _=>(bI e6 sU bo (aE (dR hr C_load_at (a7 (bk cD) (a7 (bk cD) (a7 bo aB))) gL)))))
 (aN (aX (vZ (DP (dR hr C_free_roads (a7 (vb z) aB) gD)) (DP (dR hr C_stretch_roads (a7 (vb z) (a7 (vb z) (a7 (vb z) aB))) gD))) rfl)))
abbrev vO:Stmt:=top 35
abbrev MG:List Str:=["_law_state", "_law_most", "_law_size", "_law_unit", "_law_low", "_law_book_here", "_law_k", "_law_begin", "_law_end", "_law_worth", "_law_span"]
theorem S4:SN MG ["_law_state", "_law_most"] vO:=bS
abbrev pV:=l4 3 "_law_book" ["_law_state", "_law_most"] [.st,.bw] (.o .fl) iC
theorem KZ (D:Df K mg "_law_book" vO) (T:Txt K mg) (C_l_take:eP P w K mg base) (C_l_name:pX P w K mg base):pV P w K mg base:=
  have z:=S4
  DI (mn:=[.no,.no,.no,.no,.no,.no,.no,.no,.no,.no,.no]) (B1 Lib.CP.2) D z λf cdv A outer s H E hr=>
  (aA (iR 2 z (aJ (DP (bL .fl (a7 aC (a7 aC (a7 aC (a7 aC aB)))) rfl)) (aE (dR hr C_l_take (a7 (vr .st z) (a7 (aE aC) aB)) gD)) (λ_ _=>rfl)))
 (aA (iR 3 z (bI bP lL (aE aC) (aE (dR hr C_l_take (a7 (vr .st z) (a7 (aE (aJ (DP (bL .fl (a7 aC (a7 aC (a7 aC (a7 (bI fA AE (aE aC) (aE aC)) aB)))) rfl)) (aE (dR hr C_l_take (a7 (vr .st z) (a7 (aE aC) aB)) gD)) (λ_ _=>rfl))) aB)) gD))))
 (aA (iR 4 z (aJ (DP (bL .fl (a7 aC (a7 (kY (aE aC)) (a7 (kY (aE (bI fA AE (aE aC) (aE aC)))) (a7 (bI e6 sU (aE (bI fA AE (aE aC) (aE aC))) (aE (bI hW a1D (aE aC) (vb z)))) aB)))) rfl)) (aE (dR hr C_l_take (a7 (vr .st z) (a7 (aE aC) aB)) gD)) (λ_ _=>rfl)))
 (aA (iR 5 z (bL .fl aB rfl))
 (aA (d3 a1h rfl rfl (e9 gD T.b_range (aE (dR hr C_l_take (a7 (vr .st z) (a7 (aE (bI bP lL (vb z) (aE aC))) aB)) gD))) (gn 6 z)
 (aA (iR 7 z (dR hr C_l_take (a7 (vr .st z) (a7 (vb z) aB)) gD))
 (aA (iR 8 z (bI bP lL (aE (bI bP lL (vb z) (aE aC))) (aE (dR hr C_l_take (a7 (vr .st z) (a7 (vb z) aB)) gD))))
 (aA (iR 9 z (dR hr C_l_take (a7 (vr .st z) (a7 (aE (aJ (DP (bL .fl (a7 aC (a7 aC (a7 aC (a7 (bI bP lL (aE (bI fA AE (aE aC) (aE aC))) (aE aC)) aB)))) rfl)) (aE (dR hr C_l_take (a7 (vr .st z) (a7 (aE aC) aB)) gD)) (λ_ _=>rfl))) aB)) gD))
 (aA (iR 10 z (bR .fl (a7 (bI bP lL (vb z) (aE (bI hW a1D (vb z) (vb z)))) (a7 (bI bP lL (vb z) (aE (bI hW a1D (vb z) (vb z)))) aB)) rfl))
 (aA (eG (mM (l3 (b7 eO LJ (vb z) (aE aC) (aV _)) (i3 (b7 vK pO (aE (dR hr C_l_take (a7 (vr .st z) (a7 (aE aC) aB)) gD)) (aE aC) (aV _)))))
 (aA (iR 10 z (RU (a7F (aJ (vk .fl z) (aE (kY (aE aC))) (λ_ _=>rfl))) (kZ (aE aC)) (kZ (aE aC))))
 aK)
 aK)
 (aA (j6 a2l a2s a2r gC dO (qn z) rfl (a7 (bR .fl (a7 (dR hr C_l_name (a7 (vr .st z) (a7 (vb z) aB)) gD) (a7 (aJ (vp .fl z) (aE aC) (λ_ _=>rfl)) (a7 (aJ (vp .fl z) (aE aC) (λ_ _=>rfl)) (a7 (vr (.v .fl) z) aB)))) rfl) aB))
 (cN (m1:=[.st,(.v .sh),(.v .fl),(.v .fl),(.v .fl),(.o .fl),.no,.no,.no,.no,.no]) rfl aK))))))))
 (aN (n5 (qn z) rfl rfl)))))))
abbrev o8:Stmt:=top 41
abbrev DT:List Str:=["_law_state", "_law_book_here", "_law_benches", "_law_found", "_law_i"]
theorem G9:SN DT ["_law_state", "_law_book_here", "_law_benches"] o8:=bS
abbrev lO:=l4 3 "_law_choice" ["_law_state", "_law_book_here", "_law_benches"] [.st,.bw,.bw] (.o .fl) iD
theorem C6 (D:Df K mg "_law_choice" o8) (T:Txt K mg) (C_l_fits:pW P w K mg base) (C_l_take:eP P w K mg base):lO P w K mg base:=
  have z:=G9
  XW (mn:=[.no,.no,.no,.no,.no]) (XB vD.2) D z λf cdv A outer s H E hr=>
  (aA (iR 3 z (bL .fl aB rfl))
 (aA (d3 a1h rfl rfl (e9 gD T.b_range (aE (b8 dZ eL gD T.b_len eY (a7 (vb z) aB) fN fM))) (gn 4 z)
 (aA (eG (mM (l3 (b7 eO LJ (aE (dR hr C_l_take (a7 (vr .st z) (a7 (aE aC) aB)) gD)) (aE aC) (aV _)) (i3 (rH (aE (dR hr C_l_fits (a7 (vb z) (a7 (O8 (vZ (vk .fl z) (DP (bL .fl (a7 (vr (.v .fl) z) aB) rfl)))) (a7 (vb z) aB))) gD))))))
 (aA (j6 a2l a2s a2r gC dO (qn z) rfl (a7 (vr (.v .fl) z) aB))
 aK)
 aK)
 (cN (m1:=[.st,(.v .sh),(.v .sh),(.o .fl),.no]) rfl aK)))
 (aN (n5 (qn z) rfl rfl))))
abbrev o7:Stmt:=top 6
abbrev DS:List Str:=["book", "some", "greatest", "first", "moment", "load"]
theorem G8:SN DS ["book", "some"] o7:=bS
abbrev lN:=l4 4 "crowd_of" ["book", "some"] [.bw,.bw] (.v .sn) fQ
theorem C5 (D:Df K mg "crowd_of" o7) (T:Txt K mg) (C_loads_of:lP P w K mg base) (C_is_over:i8 P w K mg base):lN P w K mg base:=
  have z:=G8
  DI (mn:=[.no,.no,.no,.no,.no,.no]) (B1 Lib.vC.2) D z λf cdv A outer s H E hr=>
  (aA (mL (bR .fl (a7 aC (a7 eI aB)) rfl) (cC (n:=2) rfl (aI (gn 2 z) (aI (gn 3 z) bU))))
 (aA (d3 a1h rfl rfl (iQ (gU (dR hr C_loads_of (a7 (vb z) (a7 (vb z) aB)) gD))) (cC (n:=2) rfl (aI (gn 4 z) (aI (gn 5 z) bU)))
 (aA (eG (b7 eO LJ (vb z) (vb z) (aV _))
 (aA (mL (bR .fl (a7 (vr (.v .fl) z) (a7 (vr (.v .fl) z) aB)) rfl) (cC (n:=2) rfl (aI (gn 2 z) (aI (gn 3 z) bU))))
 aK)
 aK)
 (cN (m1:=[(.v .sh),(.v .sh),(.v .fl),(.v .fl),.no,.no]) rfl aK)))
 (aN (aX (bR .sn (a7 (vr (.v .fl) z) (a7 (vr (.v .fl) z) (a7 (BW (gU (k3 (J4 ["number", "first", "book"] 1 [3,0] [(.v .sh),(.v .fl),(.v .sh)] (cK (vr (.v .sh) z)) (λ_ _ _ _=>(gq 0)) (λ_ _ _ _=>(j7 (rH (aE (dR hr C_is_over (a7 (iI (aJ (jF (bG (m:=(.v .sh)) (qk cD) rfl rfl)) bo (λ_ _=>rfl))) (a7 (bk cD) aB)) gL))))) (λ_ _ _ _=>(bG (m:=(.v .sh)) qo rfl rfl)))))) aB))) rfl) rfl))))
abbrev kW:Stmt:=top 12
abbrev yY:List Str:=["book", "paper", "choice", "number", "stretch"]
theorem AZ:SN yY ["book", "paper", "choice"] kW:=bS
abbrev jC:=l4 4 "slack_left" ["book", "paper", "choice"] [.bw,.bw,.bw] (.v .fl) dY
theorem wJ (D:Df K mg "slack_left" kW) (T:Txt K mg) (C_rest_of:nT P w K mg base):jC P w K mg base:=
  have z:=AZ
  XW (mn:=[.no,.no,.no,.no,.no]) (XB Lib.pE.2) D z λf cdv A outer s H E hr=>
  (aA (d3 a1h rfl rfl (tK gD T.b_enumerate (vr (.v .sh) z)) (cC (n:=2) rfl (aI (gn 3 z) (aI (gn 4 z) bU)))
 (aA (eG (mM (l3 (b7 (CZ hr.units) IQ (vb z) (vb z) (by with_unfolding_all rfl)) (i3 (b7 eO LJ (aE (dR hr C_rest_of (a7 (vb z) (a7 (vb z) aB)) gD)) (aE aC) (aV _)))))
 (aN (aX (gJ (vb z)) rfl))
 aK)
 (cN (m1:=[(.v .sh),(.v .sh),(.v .sh),.no,.no]) rfl aK)))
 (aN (aX eI rfl)))
abbrev fB:Stmt:=top 27
abbrev yT:List Str:=["book", "benches", "places", "chosen", "told", "many", "roads", "gains", "last_roads"]
theorem AU:SN yT ["book", "benches"] fB:=bS
abbrev j8:=l4 4 "best_up_to" ["book", "benches"] [.bw,.bw] (.o .sn) dS
theorem wD (D:Df K mg "best_up_to" fB) (T:Txt K mg) (C_places_of:kB P w K mg base) (C_roads_of:lQ P w K mg base) (C_greatest_gains:eX P w K mg base) (C_changed_by:j9 P w K mg base) (C_numbers_along:fJ P w K mg base) (C_prices_by:kC P w K mg base):j8 P w K mg base:=
  have z:=AU
  DI (mn:=[.no,.no,.no,.no,.no,.no,.no,.no,.no]) (B1 Lib.p8.2) D z λf cdv A outer s H E hr=>
  (aA (iR 2 z (dR hr C_places_of (a7 (vb z) aB) gD))
 (aA (J5 (i:=3) (j:=4) (m1:=(.o .fl)) (m2:=(.o .fl)) rfl z.s.nd rfl rfl (by decide) (show (aD fB).names.lookup (Str.ofString "chosen")=some NameKind.local by decide+kernel) (show (aD fB).names.lookup (Str.ofString "told")=some NameKind.local by decide+kernel) (bL .fl aB rfl) (bL .fl aB rfl) rfl rfl rfl (by decide) rfl (by decide))
 (aA (RY (m1:=[(.v .sh),(.v .sh),(.o .fl),(.o .fl),(.o .sn),.no,.no,.no,.no]) rfl (d3 a1h rfl rfl (e9 gD T.b_range (aE (bI bP lL (vb z) (aE aC)))) (gn 5 z)
 (aA (iR 6 z (dR hr C_roads_of (a7 (vb z) (a7 (vb z) (a7 (O8 (G2 (DP (bL .fl (a7 (vr (.v .fl) z) aB) rfl)) (aE (bI e6 sU (aE (b8 dZ eL gD T.b_len eY (a7 (vb z) aB) fN fM)) (aE aC))))) (a7 (vb z) aB)))) gD))
 (aA (mL (dR hr C_greatest_gains (a7 (vb z) (a7 (aE (b8 dZ eL gD T.b_len eY (a7 (vb z) aB) fN fM)) (a7 (aE aC) aB))) gD) (cC (n:=2) rfl (aI (gn 7 z) (aI (gn 8 z) bU))))
 (aA (rG 3 .fl rfl (j6 a2l a2s a2r gC dO (qn z) rfl (a7 (bR .sn (a7 (BW (vr (.z .fl) z)) (a7 (BW (gU (dR hr C_prices_by (a7 (vb z) (a7 (O8 (RT (vk .fl z) X1 (kZ (aE (kY (aE aC)))))) aB)) gD))) aB)) rfl) aB)))
 (aA (iR 3 z (dR hr C_changed_by (a7 (vb z) (a7 (O8 (dR hr C_numbers_along (a7 (vb z) (a7 (aE (bI e6 sU (aE (b8 dZ eL gD T.b_len eY (a7 (vb z) aB) fN fM)) (aE aC))) aB)) gD)) aB)) gD))
 (cN (m1:=[(.v .sh),(.v .sh),(.o .fl),(.o .fl),(.o .sn),.no,.no,.no,.no]) rfl aK)))))))
 (aN (n5 (qn z) rfl rfl)))))
abbrev oB:Stmt:=top 14
abbrev DW:List Str:=["book", "benches", "paper", "choice", "found", "kind", "what"]
theorem GC:SN DW ["book", "benches", "paper", "choice"] oB:=bS
abbrev lR:=l4 5 "slack_of" ["book", "benches", "paper", "choice"] [.bw,.bw,.bw,.bw] (.v .fl) eM
theorem C9 (D:Df K mg "slack_of" oB) (T:Txt K mg) (C_slack_moment:gO P w K mg base) (C_slack_left:jC P w K mg base) (C_slack_dear:jB P w K mg base):lR P w K mg base:=
  have z:=GC
  a4W (mn:=[.no,.no,.no,.no,.no,.no,.no]) (a2T Lib.vG.2) D z λf cdv A outer s H E hr=>
  (aA (iR 4 z (bR .fl (a7 (bR .fl (a7 jM (a7 (dR hr C_slack_moment (a7 (vb z) (a7 (vb z) (a7 (vb z) (a7 (vb z) aB)))) gD) aB)) rfl) (a7 (bR .fl (a7 jM (a7 (dR hr C_slack_left (a7 (vb z) (a7 (vb z) (a7 (vb z) aB))) gD) aB)) rfl) (a7 (bR .fl (a7 jM (a7 (dR hr C_slack_dear (a7 (vb z) (a7 (vb z) (a7 (vb z) aB))) gD) aB)) rfl) aB))) rfl))
 (aA (d3 a1h rfl rfl (RW (vr (.v .fl) z)) (cC (n:=2) rfl (aI (gn 5 z) (aI (gn 6 z) bU)))
 (aA (eG (b7 pH pP (vb z) (aE eI) (aV _))
 (aN (aX (bR .fl (a7 (vr (.v .fl) z) (a7 (vr (.v .fl) z) aB)) rfl) rfl))
 aK)
 (cN (m1:=[(.v .sh),(.v .sh),(.v .sh),(.v .sh),(.v .fl),.no,.no]) rfl aK)))
 (aN (aX eI rfl))))
abbrev gS:Stmt:=top 28
abbrev sF:List Str:=["book"]
theorem sW:SN sF ["book"] gS:=bS
abbrev fI:=l4 5 "greatest_load" ["book"] [.bw] (.v .sn) cF
theorem qL(D:Df K mg "greatest_load" gS)(T:Txt K mg)(C_crowd_of:lN P w K mg base):fI P w K mg base:=
 have z:=sW
 a4V (mn:=[.no]) (a2S Lib.lD.2) D z λf cdv A outer s H E hr=>
 (aN (aX (aJ (a5Z (dR hr C_crowd_of (a7 (vb z) (a7 (O8 (RS rfl gD T.b_list gD T.b_range (aE (b8 dZ eL gD T.b_len eY (a7 (vb z) aB) fN fM)))) aB)) gD)) (aE aC) (λ_ _=>rfl)) rfl))
abbrev o6:Stmt:=top 29
abbrev DR:List Str:=["book", "benches"]
theorem G7:SN DR ["book", "benches"] o6:=bS
abbrev lM:=l4 6 "best_for" ["book", "benches"] [.bw,.bw] (.v .sn) fP
theorem C4(D:Df K mg "best_for" o6)(T:Txt K mg)(C_best_up_to:j8 P w K mg base)(C_greatest_load:fI P w K mg base):lM P w K mg base:=
 have z:=G7
 DI (mn:=[.no,.no]) (B1 Lib.vB.2) D z λf cdv A outer s H E hr=>
 (aN (aX (aJ (a7D (dR hr C_best_up_to (a7 (vb z) (a7 (aE (b8 (Q4 rfl) D9 gD T.b_min MW (a7 (vb z) (a7 (a60 (dR hr C_greatest_load (a7 (vb z) aB) gD)) aB)) MT MP)) aB)) gD)) (aE (kY (aE aC))) (λ_ _=>rfl)) rfl))
abbrev qZ:Stmt:=top 44
abbrev JE:List Str:=["_law_book_here", "_law_benches", "_law_paper_here", "_law_choice_here", "_law_handed", "_law_told", "_law_due_here"]
theorem M0:SN JE ["_law_book_here", "_law_benches", "_law_paper_here", "_law_choice_here"] qZ:=bS
abbrev nQ:=l4 6 "_law_right" ["_law_book_here", "_law_benches", "_law_paper_here", "_law_choice_here"] [.bw,.bw,.bw,.bw] (.v .fl) i5
theorem F5 (D:Df K mg "_law_right" qZ) (T:Txt K mg) (C_slack_of:lR P w K mg base) (C_l_due:tN P w K mg base):nQ P w K mg base:=
  have z:=M0
  a4W (mn:=[.no,.no,.no,.no,.no,.no,.no]) (a2T yI.2) D z λf cdv A outer s H E hr=>
  (aA (iR 4 z (WZ (a7 (k3 (gF mW kX gD T.b_list oI (a7 (vp .sh z) aB) tD sZ)) (a7 (k3 (gF mW kX gD T.b_list oI (a7 (vp .sh z) aB) tD sZ)) (a7 (k3 (gF mW kX gD T.b_list oI (a7 (vp .sh z) aB) tD sZ)) aB))) rfl))
 (aA (iR 5 z (dR hr C_slack_of (a7 (KP (k6 (.inr rfl) (vr .n z) (aE aC) (λ_ _=>rfl))) (a7 (vb z) (a7 (KP (k6 (.inr rfl) (vr .n z) (aE aC) (λ_ _=>rfl))) (a7 (KP (k6 (.inr rfl) (vr .n z) (aE aC) (λ_ _=>rfl))) aB)))) gD))
 (aA (iR 6 z (dR hr C_l_due (a7 (vb z) (a7 (vb z) (a7 (vb z) (a7 (vb z) aB)))) gD))
 (aA (eG (mM (XX (b7 (A8 hr.units) FU (vb z) (vb z) (aV _)) (S3 (b7 (A8 hr.units) FU (vb z) (UM (bL .sh (a7 (vr (.v .sh) z) (a7 (vr (.v .sh) z) (a7 (vr (.v .sh) z) aB))) rfl)) (aV _)))))
 (aN (aX yS rfl))
 aK)
 (aA (LU a2l PySem.F.slot_list_clear PySem.F.type_list_clear Q6 FV rfl (qn z) rfl (aE aC) (λ_ _=>rfl))
 (aA (eG (b7 (A8 hr.units) FU (aE (dR hr C_slack_of (a7 (KP (k6 (.inr rfl) (vr .n z) (aE aC) (λ_ _=>rfl))) (a7 (vb z) (a7 (KP (k6 (.inr rfl) (vr .n z) (aE aC) (λ_ _=>rfl))) (a7 (KP (k6 (.inr rfl) (vr .n z) (aE aC) (λ_ _=>rfl))) aB)))) gD)) (aE (dR hr C_l_due (a7 (vb z) (a7 (vb z) (a7 (O8 (bL .fl aB rfl)) (a7 (vb z) aB)))) gD)) (aV _))
 (aN (aX yS rfl))
 aK)
 (aN (aX (a4Z (aE (AQ IJ IN (vb z) (aE eI) (aV _))) (AR (RQ (aE (b8 Q3 IP gD T.b_isinstance nG (a7 (vb z) (a7 (aE (n0 (IG (v:=.ty "tuple") gD T.b_tuple MY rfl MU MQ) (λ_=>.ty _))) aB)) nE nD)) (AR (a1Z (aE (b8 Q3 IP gD T.b_isinstance nG (a7 (aE (aJ (vp .fl z) (aE aC) (λ_ _=>rfl))) (a7 (aE (n0 (IG (v:=.ty "bool") gD T.b_bool SV rfl SS SO) (λ_=>.ty _))) aB)) nE nD))))))) rfl))))))))
abbrev rB:Stmt:=top 30
abbrev JG:List Str:=["book", "benches", "choice", "paper"]
theorem M4:SN JG ["book", "benches"] rB:=bS
abbrev nR:=l4 7 "most_of" ["book", "benches"] [.bw,.bw] (.v .sn) fT
theorem F7 (D:Df K mg "most_of" rB) (T:Txt K mg) (C_best_for:lM P w K mg base) (C_worth_of:lT P w K mg base):nR P w K mg base:=
  have z:=M4
  DI (mn:=[.no,.no,.no,.no]) (B1 Lib.yK.2) D z λf cdv A outer s H E hr=>
  (aA (mL (dR hr C_best_for (a7 (vb z) (a7 (vb z) aB)) gD) (cC (n:=2) rfl (aI (gn 2 z) (aI (gn 3 z) bU))))
 (aN (aX (bR .sn (a7 (dR hr C_worth_of (a7 (vb z) (a7 (vb z) aB)) gD) (a7 (vr (.v .sn) z) (a7 (vr (.v .sn) z) aB))) rfl) rfl)))
abbrev yQ:Stmt:=top 45
abbrev a2G:List Str:=["_law_script", "_law_k", "_law_state", "_law_great", "_law_book_here", "_law_benches", "_law_worth", "_law_best", "_law_paper_here", "_law_near_here", "_law_dense_here", "_law_drawn", "_law_some", "_law_one"]
theorem a55:SN a2G ["_law_script"] yQ:=bS
abbrev MC:=l4 8 "law" ["_law_script"] [.scr] (.v .fl) NA
theorem ZY (D:Df K mg "law" yQ) (T:Txt K mg) (C_l_right:nQ P w K mg base) (C_l_begun:tM P w K mg base) (C_l_book:pV P w K mg base) (C_l_take:eP P w K mg base) (C_most_of:nR P w K mg base) (C_l_near:pY P w K mg base) (C_l_dense:nO P w K mg base) (C_l_choice:lO P w K mg base) (C_l_paper:nP P w K mg base):MC P w K mg base:=
  have z:=a55
  a4V (mn:=[.no,.no,.no,.no,.no,.no,.no,.no,.no,.no,.no,.no,.no,.no]) (a2S XN.2) D z λf cdv A outer s H E hr=>
  (aA (d3 a1h rfl rfl (e9 gD T.b_range (aE (b8 (FK rfl) D8 gD T.b_max E9 (a7 (aE aC) (a7 (aE (b8 (Q4 rfl) D9 gD T.b_min MW (a7 (aE (LS gD T.b_len eY (a7 (vr .scr z) aB))) (a7 (aE aC) aB)) MT MP)) aB)) E6 E3))) (gn 1 z)
 (aA (iR 2 z (dR hr C_l_begun (a7 (vr .scr z) (a7 (vb z) aB)) gD))
 (aA (iR 3 z (RQ (aE (AQ vK pO (vb z) (aE aC) (aV _))) (AR (AQ vK pO (aE (dR hr C_l_take (a7 (vr .st z) (a7 (aE aC) aB)) gD)) (aE aC) (aV _)))))
 (aA (iR 4 z (dR hr C_l_book (a7 (vr .st z) (a7 (aE (aJ (DP (bL .fl (a7 aC (a7 aC aB)) rfl)) (aE (gF FJ D7 gD T.b_int E8 (a7 (vb z) aB) E5 E2)) (λ_ _=>rfl))) aB)) gD))
 (aA (iR 5 z (dR hr C_l_take (a7 (vr .st z) (a7 (aE (aJ (DP (bL .fl (a7 aC (a7 aC aB)) rfl)) (aE (gF FJ D7 gD T.b_int E8 (a7 (vb z) aB) E5 E2)) (λ_ _=>rfl))) aB)) gD))
 (aA (mL (dR hr C_most_of (a7 (vb z) (a7 (vb z) aB)) gD) (cC (n:=3) rfl (aI (gn 6 z) (aI (gn 7 z) (aI (gn 8 z) bU)))))
 (aA (iR 9 z (a6X hr C_l_near (a7 (vr .st z) (a7 (a3A (vr (.v .sn) z)) aB)) gD))
 (aA (iR 10 z (dR hr C_l_dense (a7 (vr .st z) (a7 (vb z) aB)) gD))
 (aA (iR 11 z (dR hr C_l_choice (a7 (vr .st z) (a7 (vb z) (a7 (vb z) aB))) gD))
 (aA (rG 11 .fl rfl (rG 10 .fl rfl (RY (m1:=[.scr,(.v .fl),.st,(.v .fl),(.o .fl),(.v .fl),(.v .sn),(.v .sn),(.v .sn),(.v .sh),(.v .sn),(.z .fl),.no,.no]) rfl (d3 a1h rfl rfl (iQ (gU (bL .sn (a7 (a62 (gU (gF mW kX gD T.b_list oI (a7 (vp .sn z) aB) tD sZ))) (a7 (BW (vr (.z .fl) z)) aB)) rfl))) (gn 12 z)
 (aA (d3 a1h rfl rfl (iQ (gU (bL .sh (a7 (vr (.v .sn) z) (a7 (vr (.v .sh) z) (a7 (BW (gU (dR hr C_l_paper (a7 (vr .st z) (a7 (vb z) aB)) gD))) (a7 (vr (.v .sn) z) aB)))) rfl))) (gn 13 z)
 (aA (eG (a24 (rH (aE (dR hr C_l_right (a7 (vb z) (a7 (vb z) (a7 (vb z) (a7 (vb z) aB)))) gD))))
 (aN (aX yS rfl))
 aK)
 (cN (m1:=[.scr,(.v .fl),.st,(.v .fl),(.o .fl),(.v .fl),(.v .sn),(.v .sn),(.v .sn),(.v .sh),(.v .sn),(.z .fl),(.v .sn),.no]) rfl aK)))
 (cN (m1:=[.scr,(.v .fl),.st,(.v .fl),(.o .fl),(.v .fl),(.v .sn),(.v .sn),(.v .sn),(.v .sh),(.v .sn),(.z .fl),.no,.no]) rfl aK))))))
 (cN (m1:=[.scr,.no,.no,.no,.no,.no,.no,.no,.no,.no,.no,.no,.no,.no]) rfl aK)))))))))))
 (aN (aX (dR hr C_l_right (a7 (O8 (bL .fl (a7 (bR .fl (a7 jM (a7 aC (a7 aC (a7 aC aB)))) rfl) (a7 (bR .fl (a7 jM (a7 aC (a7 aC (a7 aC aB)))) rfl) aB)) rfl)) (a7 (aE aC) (a7 (O8 (bL .fl (a7 (bR .fl (a7 aC (a7 aC aB)) rfl) aB) rfl)) (a7 (O8 (bL .fl (a7 aC aB) rfl)) aB)))) gD) rfl)))
end
theorem Y1 {l:PySem.W.OpenLaw} {w:World} {K:PySem.W.Frag} {h:Heap} {mg:Str->Option Value} {fa:Addr} (X:K.In h) (G:h.Ns mainGlobals mg) (hfa:mg "law"=some (.ref fa))
  (D_is_over:DfA K "is_over" qW) (D_moments_of:DfA K "moments_of" hZ) (D_load_at:DfA K "load_at" rA) (D_loads_of:DfA K "loads_of" o9) (D_crowd_of:DfA K "crowd_of" o7) (D_toll_of:DfA K "toll_of" rD) (D_rest_of:DfA K "rest_of" rC) (D_slack_moment:DfA K "slack_moment" iO) (D_slack_left:DfA K "slack_left" kW) (D_slack_dear:DfA K "slack_dear" kU) (D_slack_of:DfA K "slack_of" oB) (D_worth_of:DfA K "worth_of" oC) (D_places_of:DfA K "places_of" mJ) (D_free_roads:DfA K "free_roads" kT) (D_stretch_roads:DfA K "stretch_roads" eK) (D_roads_of:DfA K "roads_of" oA) (D_greatest_gains:DfA K "greatest_gains" cX) (D_numbers_along:DfA K "numbers_along" gT) (D_changed_by:DfA K "changed_by" kS) (D_prices_by:DfA K "prices_by" mK) (D_best_up_to:DfA K "best_up_to" fB) (D_greatest_load:DfA K "greatest_load" gS) (D_best_for:DfA K "best_for" o6) (D_most_of:DfA K "most_of" rB) (D_l_begun:DfA K "_law_begun" cY) (D_l_take:DfA K "_law_take" dM) (D_l_name:DfA K "_law_name" vR) (D_l_book:DfA K "_law_book" vO) (D_l_load:DfA K "_law_load" vQ) (D_l_fits:DfA K "_law_fits" vP) (D_l_toll:DfA K "_law_toll" vT) (D_l_paper:DfA K "_law_paper" qY) (D_l_dense:DfA K "_law_dense" qX) (D_l_choice:DfA K "_law_choice" o8) (D_l_near:DfA K "_law_near" vS) (D_l_due:DfA K "_law_due" AF) (D_l_right:DfA K "_law_right" qZ) (D_law:DfA K "law" yQ)
  (z_abs:PySem.W.nsIn K mainGlobals "abs"=some none) (z_bool:PySem.W.nsIn K mainGlobals "bool"=some none) (z_dict:PySem.W.nsIn K mainGlobals "dict"=some none) (z_enumerate:PySem.W.nsIn K mainGlobals "enumerate"=some none) (z_int:PySem.W.nsIn K mainGlobals "int"=some none) (z_isinstance:PySem.W.nsIn K mainGlobals "isinstance"=some none) (z_len:PySem.W.nsIn K mainGlobals "len"=some none) (z_list:PySem.W.nsIn K mainGlobals "list"=some none) (z_max:PySem.W.nsIn K mainGlobals "max"=some none) (z_min:PySem.W.nsIn K mainGlobals "min"=some none) (z_range:PySem.W.nsIn K mainGlobals "range"=some none) (z_set:PySem.W.nsIn K mainGlobals "set"=some none) (z_sorted:PySem.W.nsIn K mainGlobals "sorted"=some none) (z_sum:PySem.W.nsIn K mainGlobals "sum"=some none) (z_tuple:PySem.W.nsIn K mainGlobals "tuple"=some none) (z_zip:PySem.W.nsIn K mainGlobals "zip"=some none)   :
  ∃fd:FuncData,(∀(s:Ab) (v:Value),BindsTo s fd ⟨[v],[]⟩ [("_law_script",v)])/\∀base:Heap,K.In base->base.Ns mainGlobals mg->FnOk l.prog w K mg base jN 8 fa fd ["_law_script"] (AK K):=by
 obtain⟨fl,oc,od,an,osl,kV,doc,pm,cdv,ct,al,ll,cl,kl⟩:=D_law.ex
 have e:=hfa.symm.trans (PySem.W.mg_of X G al)
 cases e
 have T:Txt K mg:=⟨a1q X G z_abs,a1q X G z_bool,a1q X G z_dict,a1q X G z_enumerate,a1q X G z_int,a1q X G z_isinstance,a1q X G z_len,a1q X G z_list,a1q X G z_max,a1q X G z_min,a1q X G z_range,a1q X G z_set,a1q X G z_sorted,a1q X G z_sum,a1q X G z_tuple,a1q X G z_zip⟩
 refine⟨PySem.W.fnOf "law" "law" (cQ yQ) (bM yQ) (aD yQ) .none kV doc pm an cdv ct,λs v=>.of_eq rfl,λbase _ _=>?_⟩
 have C_is_over:i8 l.prog w K mg base:=F1 (D_is_over.df X G) T
 have C_moments_of:gG l.prog w K mg base:=wH (D_moments_of.df X G) T
 have C_worth_of:lT l.prog w K mg base:=CA (D_worth_of.df X G) T
 have C_free_roads:jA l.prog w K mg base:=wG (D_free_roads.df X G) T
 have C_stretch_roads:fK l.prog w K mg base:=qN (D_stretch_roads.df X G) T
 have C_greatest_gains:eX l.prog w K mg base:=oS (D_greatest_gains.df X G) T
 have C_numbers_along:fJ l.prog w K mg base:=qM (D_numbers_along.df X G) T
 have C_changed_by:j9 l.prog w K mg base:=wF (D_changed_by.df X G) T
 have C_prices_by:kC l.prog w K mg base:=A0 (D_prices_by.df X G) T
 have C_l_begun:tM l.prog w K mg base:=JP (F2 (D_l_begun.df X G) T )
 have C_l_take:eP l.prog w K mg base:=N6 (L5 (D_l_take.df X G) T )
 have C_l_load:mO l.prog w K mg base:=L1 (D_l_load.df X G) T
 have C_l_toll:pZ l.prog w K mg base:=L6 (D_l_toll.df X G) T
 have C_load_at:i9 l.prog w K mg base:=F6 (D_load_at.df X G) T C_is_over
 have C_toll_of:kD l.prog w K mg base:=F9 (D_toll_of.df X G) T C_is_over
 have C_places_of:kB l.prog w K mg base:=zY (D_places_of.df X G) T C_moments_of
 have C_l_name:pX l.prog w K mg base:=L3 (D_l_name.df X G) T C_l_take
 have C_l_fits:pW l.prog w K mg base:=L0 (D_l_fits.df X G) T C_l_load
 have C_l_paper:nP l.prog w K mg base:=F4 (D_l_paper.df X G) T C_l_take
 have C_l_dense:nO l.prog w K mg base:=F3 (D_l_dense.df X G) T C_l_take
 have C_l_near:pY l.prog w K mg base:=L4 (D_l_near.df X G) T C_l_take
 have C_l_due:tN l.prog w K mg base:=OT (D_l_due.df X G) T C_l_load C_l_toll
 have C_loads_of:lP l.prog w K mg base:=C7 (D_loads_of.df X G) T C_moments_of C_load_at
 have C_rest_of:nT l.prog w K mg base:=F8 (D_rest_of.df X G) T C_toll_of
 have C_slack_moment:gO l.prog w K mg base:=sT (D_slack_moment.df X G) T C_load_at
 have C_slack_dear:jB l.prog w K mg base:=wI (D_slack_dear.df X G) T C_toll_of
 have C_roads_of:lQ l.prog w K mg base:=C8 (D_roads_of.df X G) T C_free_roads C_stretch_roads C_load_at
 have C_l_book:pV l.prog w K mg base:=KZ (D_l_book.df X G) T C_l_take C_l_name
 have C_l_choice:lO l.prog w K mg base:=C6 (D_l_choice.df X G) T C_l_fits C_l_take
 have C_crowd_of:lN l.prog w K mg base:=C5 (D_crowd_of.df X G) T C_loads_of C_is_over
 have C_slack_left:jC l.prog w K mg base:=wJ (D_slack_left.df X G) T C_rest_of
 have C_best_up_to:j8 l.prog w K mg base:=wD (D_best_up_to.df X G) T C_places_of C_roads_of C_greatest_gains C_changed_by C_numbers_along C_prices_by
 have C_slack_of:lR l.prog w K mg base:=C9 (D_slack_of.df X G) T C_slack_moment C_slack_left C_slack_dear
 have C_greatest_load:fI l.prog w K mg base:=qL (D_greatest_load.df X G) T C_crowd_of
 have C_best_for:lM l.prog w K mg base:=C4 (D_best_for.df X G) T C_best_up_to C_greatest_load
 have C_l_right:nQ l.prog w K mg base:=F5 (D_l_right.df X G) T C_slack_of C_l_due
 have C_most_of:nR l.prog w K mg base:=F7 (D_most_of.df X G) T C_best_for C_worth_of
 have C_law:MC l.prog w K mg base:=ZY (D_law.df X G) T C_l_right C_l_begun C_l_book C_l_take C_most_of C_l_near C_l_dense C_l_choice C_l_paper
 exact Y8 (T1 C_law ZQ) hfa ll
theorem a6Y {l:PySem.W.OpenLaw} {q:Program} {loose:List Str} {XP:(Str->Option Value)->Heap->Prop} {YP:World->Heap->Prop} {d:DefRec} {K:Params->PySem.W.Frag} (hn:l.most=some 63) (hdf:d.params.defaults=[]) (himp:PyProof.Rows.importsNone q=true)
  (hY:∀(w:World) (h:Heap),YP w h->(K w.params).In h)
  (F:∀(w:World) (mg:Str->Option Value) (fa:Addr) (h:Heap),(K w.params).In h->h.Ns mainGlobals mg->mg d.name=some (.ref fa)->
   ∃fd:FuncData,(∀(s:Ab) (u:Value),BindsTo s fd ⟨[u],[]⟩ [("_law_script",u)])/\∀base:Heap,(K w.params).In base->base.Ns mainGlobals mg->FnOk l.prog w (K w.params) mg base jN 8 fa fd ["_law_script"] (AK (K w.params))) :
  PySem.W.WalkO q loose XP YP l.row.toRowW d [] (λf vs=>PySem.call f vs):=
 L2.X3 (n:=63) (k:=8) (x:="_law_script") (CX:=λ_=>jN) (sp:=λw=>AK (K w.params)) hn (by decide) hdf himp ⟨rfl,by decide,by decide,rfl⟩ hY F (λ_ _ a ns hl o hS=>⟨a,ns,rfl,QW hS o,hl,λ_=>rfl⟩) λ_ _ _ _ _ z=>z
end K25
theorem PySem.W.Fast.tw16925409942566093561:True:=⟨⟩
theorem PySem.W.Fast.tw13192018125215923382:True:=⟨⟩
theorem PySem.W.Fast.tw13005825517800640948:True:=⟨⟩
theorem PySem.W.Fast.tw10202346011534268204:True:=⟨⟩
theorem PySem.W.Fast.tw8136679714983489479:True:=⟨⟩
theorem PySem.W.Fast.tw17836222274720559579:True:=⟨⟩
theorem PySem.W.Fast.tw14770818585228482286:True:=⟨⟩
theorem PySem.W.Fast.tw11923237031355564030:True:=⟨⟩
theorem PySem.W.Fast.tw3249394212524646459:True:=⟨⟩
theorem PySem.W.Fast.tw17145575240658060304:True:=⟨⟩
theorem PySem.W.Fast.tw2374165729499228752:True:=⟨⟩
theorem PySem.W.Fast.tw9978194202330138015:True:=⟨⟩
theorem PySem.W.Fast.tw9274497433464133820:True:=⟨⟩
theorem PySem.W.Fast.tw3014078307724427429:True:=⟨⟩
theorem PySem.W.Fast.tw10609396726274278238:True:=⟨⟩
theorem PySem.W.Fast.tw15146874226643598316:True:=⟨⟩
theorem PySem.W.Fast.tw3280943402549119642:True:=⟨⟩
theorem PySem.W.Fast.tw10539404167143844297:True:=⟨⟩
theorem PySem.W.Fast.tw16924883778242040742:True:=⟨⟩
theorem PySem.W.Fast.tw5857306475234921798:True:=⟨⟩
theorem PySem.W.Fast.tw11450420730258794160:True:=⟨⟩
theorem PySem.W.Fast.tw13524958580629713607:True:=⟨⟩
theorem PySem.W.Fast.tw18341006117287749348:True:=⟨⟩
theorem PySem.W.Fast.tw16307107813830578985:True:=⟨⟩
theorem PySem.W.Fast.tw8497570373967089609:True:=⟨⟩
theorem PySem.W.Fast.tw12122732306107523646:True:=⟨⟩
theorem PySem.W.Fast.tw562433827662649956:True:=⟨⟩
theorem PySem.W.Fast.tw8947171569010221386:True:=⟨⟩
theorem PySem.W.Fast.tw9900223680724086827:True:=⟨⟩
theorem PySem.W.Fast.tw7944362343818118950:True:=⟨⟩
theorem PySem.W.Fast.tw2163041849397206499:True:=⟨⟩
theorem PySem.W.Fast.tw5416730558951910732:True:=⟨⟩
theorem PySem.W.Fast.tw9601279441514529284:True:=⟨⟩
theorem PySem.W.Fast.tw14802560919624928692:True:=⟨⟩
theorem PySem.W.Fast.tw4201819062137306199:True:=⟨⟩
theorem PySem.W.Fast.tw10799152867245300239:True:=⟨⟩
theorem PySem.W.Fast.tw16644376322617269825:True:=⟨⟩
theorem PySem.W.Fast.tw1763205106387844959:True:=⟨⟩
theorem PySem.W.Fast.tw13107250137303658965:True:=⟨⟩
theorem PySem.W.Fast.tw5477017751375975958:True:=⟨⟩
theorem PySem.W.Fast.tw4975328699651999177:True:=⟨⟩
theorem PySem.W.Fast.tw16427091977529031494:True:=⟨⟩
theorem PySem.W.Fast.tw9033464433241407658:True:=⟨⟩
theorem PySem.W.Fast.tw13976891312879073917:True:=⟨⟩
theorem PySem.W.Fast.tw269926813592268151:True:=⟨⟩
theorem PySem.W.Fast.tw8239152544584984455:True:=⟨⟩
theorem PySem.W.Fast.tw1934650904198608995:True:=⟨⟩
theorem PySem.W.Fast.tw15224214976428280260:True:=⟨⟩
theorem PySem.W.Fast.tw6548709549390556699:True:=⟨⟩
theorem PySem.W.Fast.tw4515422885348790415:True:=⟨⟩
theorem PySem.W.Fast.tw4963938190214516122:True:=⟨⟩
theorem PySem.W.Fast.tw5006990272929464460:True:=⟨⟩
theorem PySem.W.Fast.tw427120709041938133:True:=⟨⟩
theorem PySem.W.Fast.tw17657076612127315667:True:=⟨⟩
theorem PySem.W.Fast.tw1615277539079971102:True:=⟨⟩
theorem PySem.W.Fast.tw8390680889808357659:True:=⟨⟩
theorem PySem.W.Fast.tw190045279481343215:True:=⟨⟩
theorem PySem.W.Fast.tw2044660765907281029:True:=⟨⟩
theorem PySem.W.Fast.tw3095335170305336307:True:=⟨⟩
theorem PySem.W.Fast.tw12941096835580104125:True:=⟨⟩
theorem PySem.W.Fast.tw8526010355524022721:True:=⟨⟩
theorem PySem.W.Fast.tw9266457121346363282:True:=⟨⟩
theorem PySem.W.Fast.tw8578826638218886106:True:=⟨⟩
theorem PySem.W.Fast.tw2691130298392410852:True:=⟨⟩
theorem PySem.W.Fast.tw14558173191002293374:True:=⟨⟩
theorem PySem.W.Fast.tw8298637309284815160:True:=⟨⟩
theorem PySem.W.Fast.tw4810155836131639976:True:=⟨⟩
theorem PySem.W.Fast.tw2288792333801087926:True:=⟨⟩
theorem PySem.W.Fast.tw8027941620383102719:True:=⟨⟩
theorem PySem.W.Fast.tw1141758826331923597:True:=⟨⟩
theorem PySem.W.Fast.tw3758995076851285303:True:=⟨⟩
theorem PySem.W.Fast.tw3439219913502810864:True:=⟨⟩
theorem PySem.W.Fast.tw15444165967593363901:True:=⟨⟩
theorem PySem.W.Fast.tw5814890024576314508:True:=⟨⟩
theorem PySem.W.Fast.tw16735362164995854492:True:=⟨⟩
theorem PySem.W.Fast.tw2320240251537586742:True:=⟨⟩
theorem PySem.W.Fast.tw11257529434337341483:True:=⟨⟩
theorem PySem.W.Fast.tw17180336979708983202:True:=⟨⟩
theorem PySem.W.Fast.tw965633257031277411:True:=⟨⟩
theorem PySem.W.Fast.tw5621235711943878034:True:=⟨⟩
theorem PySem.W.Fast.tw16401823497597908868:True:=⟨⟩
theorem PySem.W.Fast.tw17297995083500760461:True:=⟨⟩
theorem PySem.W.Fast.tw1845140520298045434:True:=⟨⟩
theorem PySem.W.Fast.tw14623725302019868266:True:=⟨⟩
theorem PySem.W.Fast.tw16715369853959785359:True:=⟨⟩
theorem PySem.W.Fast.tw16622153830416062626:True:=⟨⟩
theorem PySem.W.Fast.tw112830797897749712:True:=⟨⟩
theorem PySem.W.Fast.tw15720921497451034256:True:=⟨⟩
open PySem PySem.W PyProof.Rows
set_option maxRecDepth 100000 in
set_option maxHeartbeats 0 in
theorem PySem.Challenge.cw_benchworth_k25_slack_holds : PySem.Challenge.rw_benchworth_k25_slack.Holds := by
 w_on;o_law;k_head;(case hw=>w_witness2)
 k_fill
 refine K25.a6Y (l:=PySem.Challenge.rw_benchworth_k25_slack) rfl rfl (by decide+kernel) (λw h Y=>PySem.W.kIn_of Y) ?F
 case F=>
  intro w mg fa h KX G hmg
  refine' K25.Y1 KX G hmg ?_ ?_ ?_ ?_ ?_ ?_ ?_ ?_ ?_ ?_ ?_ ?_ ?_ ?_ ?_ ?_ ?_ ?_ ?_ ?_ ?_ ?_ ?_ ?_ ?_ ?_ ?_ ?_ ?_ ?_ ?_ ?_ ?_ ?_ ?_ ?_ ?_ ?_ ?_ ?_ ?_ ?_ ?_ ?_ ?_ ?_ ?_ ?_ ?_ ?_ ?_ ?_ ?_ ?_
  all_goals first|walk_at "d" |k_is|kernel_rfl|decide+kernel
