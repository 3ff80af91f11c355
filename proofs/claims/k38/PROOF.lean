import PyProof.Rows.All
import Wide.All
import OpenK.AllK
import Wide.FinOn
import Lean
import PyProof.EqAt
import PyProof.CallStr
import PyProof.StrCalls2
import PyProof.EqKinds
import PyProof.TupleCall
import PyProof.NeKinds
import PyProof.CollectWalk
import PyProof.CollectStr
import PyProof.SetRoads
import KE.KDictSum
import PyProof.Rows.RuleN_abs
import PyProof.Rows.SeqMore2
import KE.KSortTup
import PyProof.SeqI3
import PyProof.ZipIter
import PyProof.Rows.SetFrom
import PyProof.FactsAll.set
import PySem.Challenge.RW_benchworth_k38_what_is_no_row
set_option Elab.async false
set_option linter.all false
set_option maxRecDepth 100000
set_option genSizeOf false
abbrev a0a:=@List.getElem?_eq_getElem
abbrev a0b:=@PySem.wpAny_bind
abbrev a0c:=@List.getD_eq_getElem?_getD
abbrev a0d:=@PySem.wpAny_pure
abbrev a0e:=@List.getElem?_eq_some_iff
abbrev a0f:=@PySem.Heap.get?_push_of_some
abbrev a0g:=@List.length_map
abbrev a0h:=@List.getElem?_map
abbrev a0i:=@List.map_cons
abbrev a0j:=@List.mem_cons_of_mem
abbrev a0k:=@List.mem_of_getElem?
abbrev a0l:=@List.mem_cons
abbrev a0m:=@Bool.false_ne_true
abbrev a0n:=@List.mem_cons_self
abbrev a0o:=@Nat.le_refl
abbrev a0p:=@List.sum_cons
abbrev a0q:=@PySem.Heap.lt_size
abbrev a0r:=@List.size_toArray
abbrev a0s:=@List.mem_map
abbrev a0t:=@List.mem_append_right
abbrev a0u:=@Option.map_eq_some_iff
abbrev a0v:=@Array.getElem?_eq_getElem
abbrev a0w:=@Array.length_toList
abbrev a0x:=@Nat.ne_of_lt
abbrev a0y:=@List.not_mem_nil
abbrev a0z:=@Nat.lt_of_lt_of_le
abbrev a1a:=@List.all_eq_true
abbrev a1b:=@Nat.le_trans
abbrev a1c:=@List.mem_append
abbrev a1d:=@Bool.and_eq_true
abbrev a1e:=@PySem.Heap.get?_push_size
abbrev a1f:=@List.getElem?_append_left
abbrev a1g:=@List.getElem?_append_right
abbrev a1h:=@List.getElem_mem
abbrev a1i:=@Option.some.inj
abbrev a1j:=@PySem.wpAny_mono
abbrev a1k:=@List.map_append
abbrev a1l:=@List.length_append
abbrev a1m:=@List.filterMap_cons
abbrev a1n:=@List.length_cons
abbrev a1o:=@PySem.F.type_list_append
abbrev a1p:=@PySem.F.slot_list_append
abbrev a1q:=@List.take_add_one
abbrev a1r:=@PySem.F.plainAttrs_list
abbrev a1s:=@List.mem_range
abbrev a1t:=@PySem.W.mg_none_of
abbrev a1u:=@PySem.PassesOwn.never
abbrev a1v:=@Int.toNat_natCast
abbrev a1w:=@List.length_replicate
abbrev a1x:=@List.take_length
abbrev a1y:=@decide_eq_false
abbrev a1z:=@List.mem_append_left
abbrev a2a:=@List.getElem?_replicate
abbrev a2b:=@PySem.wpAny_newObj_type
abbrev a2c:=@List.pairwise_iff_getElem
abbrev a2d:=@List.getElem_of_mem
abbrev a2e:=@PySem.wpAny_holding
abbrev a2f:=@Option.isSome_iff_exists
abbrev a2g:=@List.getElem?_eq_none
abbrev a2h:=@List.length_take
abbrev a2i:=@or_false
abbrev a2j:=@PySem.Heap.get?_update_other
abbrev a2k:=@List.nodup_cons
abbrev a2l:=@List.mem_filter
abbrev a2m:=@PySem.Heap.get?_update_self
abbrev a2n:=@decide_eq_true
abbrev a2o:=@Bool.or_eq_true
abbrev a2p:=@Nat.lt_succ_self
abbrev a2q:=@List.filter_cons
abbrev a2r:=@Nat.lt_trans
abbrev a2s:=@PySem.Heap.SameBut.update
abbrev a2t:=@PySem.W.kia_one
abbrev a2u:=@Nat.lt_of_le_of_lt
abbrev a2v:=@Array.getD_eq_getD_getElem?
abbrev a2w:=@List.lookup_cons
abbrev a2x:=@PySem.Heap.size_push
abbrev a2y:=@PySem.wpAny_standAt
abbrev a2z:=@PySem.seg_bind_wrap
abbrev a3a:=@Array.getElem?_eq_none
abbrev a3b:=@Ne.symm
abbrev a3c:=@Nat.zero_le
abbrev a3d:=@List.getElem?_set
abbrev a3e:=@PySem.wpAny_call_entry
abbrev a3f:=@List.getElem?_zip_eq_some
abbrev a3g:=@List.drop_eq_getElem_cons
abbrev a3h:=@List.length_nil
abbrev a3i:=@Array.getElem?_toList
abbrev a3j:=@Int.emod_lt_of_pos
abbrev a3k:=@List.length_dropLast
abbrev a3l:=@List.length_eq_zero_iff
abbrev a3m:=@List.replicate_succ
abbrev a3n:=@PySem.Around.under_plainId
abbrev a3o:=@PySem.wpAny_truthy_bool
abbrev a3p:=@PySem.wpAny_setState_of
abbrev a3q:=@PySem.wpAny_rule
abbrev a3r:=@Nat.le_of_lt
abbrev a3s:=@Int.le_refl
abbrev a3t:=@PySem.wpAny_askSetting
abbrev a3u:=@of_decide_eq_true
abbrev a3v:=@beq_iff_eq
abbrev a3w:=@PySem.Obj.data_mapFields
abbrev a3x:=@List.find?_cons
abbrev a3y:=@Int.emod_nonneg
abbrev a3z:=@Array.getElem?_setIfInBounds_ne
abbrev a4a:=@PySem.codeAny_builtin
abbrev a4b:=@Nat.le_of_not_lt
abbrev a4c:=@List.ext_getElem
abbrev a4d:=@decide_eq_true_iff
abbrev a4e:=@List.mem_filterMap
abbrev a4f:=@List.filterMap_map
abbrev a4g:=@PySem.wpAny_callSpecial?_slot
abbrev a4h:=@PyProof.Rows.callWith_type1
abbrev a4i:=@List.range_succ
abbrev a4j:=@List.length_filter_le
abbrev a4k:=@List.pairwise_map
abbrev a4l:=@List.flatten_cons
abbrev a4m:=@List.pairwise_append
abbrev a4n:=@PySem.wpAny_passesOwn
abbrev a4o:=@PySem.wpAny_storeSet_of
abbrev a4p:=@PySem.mem_of_lookup
abbrev a4q:=@List.length_reverse
abbrev a4r:=@PySem.Heap.SameBut.refl
abbrev a4s:=@Array.toList_append
abbrev a4t:=@Nat.ne_of_gt
abbrev a4u:=@PySem.W.mg_of
abbrev a4v:=@Nat.eq_or_lt_of_le
abbrev a4w:=@List.zip_cons_cons
abbrev a4x:=@List.nil_append
abbrev a4y:=@List.filter_append
abbrev a4z:=@Bool.eq_iff_iff
abbrev a5a:=@PySem.wpAny_comprehension_free
abbrev a5b:=@PySem.F.called_set
abbrev a5c:=@decide_eq_true_eq
abbrev a5d:=@PyProof.Rows.slot_tuple_getitem
abbrev a5e:=@List.length_range
abbrev a5f:=@PySem.wpAny_loadPart'
abbrev a5g:=@List.filterMap_eq_map
abbrev a5h:=@List.eq_nil_or_concat
abbrev a5i:=@List.concat_eq_append
abbrev a5j:=@List.getElem_map
abbrev a5k:=@List.drop_length
abbrev a5l:=@Int.mul_le_mul_of_nonneg_left
abbrev a5m:=@PySem.fits_of_scanBound
abbrev a5n:=@Nat.lt_irrefl
abbrev a5o:=@PySem.wpAny_setField
abbrev a5p:=@PySem.Obj.isFreed_of_fields
abbrev a5q:=@List.forIn_cons
abbrev a5r:=@List.append_nil
abbrev a5s:=@PySem.wpAny_newFunctionEnv
abbrev a5t:=@List.mem_singleton
abbrev a5u:=@List.map_nil
abbrev a5v:=@List.map_map
abbrev a5w:=@Bool.false_eq_true
abbrev a5x:=@PySem.plainId_quiet
abbrev a5y:=@Option.map_map
abbrev a5z:=@List.getElem?_eq_none_iff
abbrev a6a:=@Classical.byContradiction
abbrev a6b:=@PySem.wpAny_of_eq
abbrev a6c:=@Bool.eq_false_iff
abbrev a6d:=@Array.getElem?_push_size
abbrev a6e:=@if_true
abbrev a6f:=@List.any_cons
abbrev a6g:=@PySem.wpAny_Call_Name_kw
abbrev a6h:=@Nat.lt_of_not_le
abbrev a6i:=@List.mem_reverse
abbrev a6j:=@List.length_drop
abbrev a6k:=@List.take_of_length_le
abbrev a6l:=@Array.getElem?_push_lt
abbrev a6m:=@Nat.zero_add
abbrev a6n:=@List.mem_of_mem_erase
abbrev a6o:=@List.dropLast_eq_take
abbrev a6p:=@Array.getElem?_setIfInBounds_self_of_lt
abbrev a6q:=@if_false
abbrev a6r:=@PySem.SetOf_store
abbrev a6s:=@PySem.wpAny_isInstance
abbrev a6t:=@PySem.F.plain_all_loop
abbrev a6u:=@Bool.false_and
abbrev a6v:=@List.getElem?_range
abbrev a6w:=@Int.mul_one
abbrev a6x:=@PySem.wpAny_execs_nil
abbrev a6y:=@PySem.codeAny_mono
abbrev a6z:=@PySem.builtinLookup_eq_fast
abbrev a7a:=@List.zipIdx_append
abbrev a7b:=@List.mem_replicate
abbrev a7c:=@List.map_replicate
abbrev a7d:=@List.length_zipIdx
abbrev a7e:=@List.getElem?_take
abbrev a7f:=@List.getElem?_drop
abbrev a7g:=@List.findIdx?_eq_some_iff_getElem
abbrev a7h:=@PySem.lookup_relabel_local
abbrev a7i:=@bind_congr
abbrev a7j:=@Option.some.injEq
abbrev a7k:=@List.eraseIdx_eq_take_drop_succ
abbrev a7l:=@List.append_assoc
abbrev a7m:=@Array.toList_push
abbrev a7n:=@PySem.isSubtype_type
abbrev a7o:=@PyProof.Rows.F.plain_set_update_loop
local macro_rules | `(tactic| tb_from $t) => `(tactic| (walk_at "w"; refine $t))
abbrev Aa:=PySem.W.Frag
abbrev Ab:=PySem.Shared
abbrev Ac:=PySem.Addr
local macro_rules|`(∅)=>`(by omega)
local macro_rules|`(⋯)=>`(by decide+kernel)
set_option hygiene false in
local macro_rules|`(tactic|left)=>`(tactic|(rw[L2.eqB_ne (by simp[L2.PV.norm])]))
local macro_rules|`(tactic|fail)=>`(tactic|(walk_at "w"))
namespace L2
open PySem PySem.Spec PyProof.Rows
abbrev d9:=Sum Int Str
def zY:d9->Value->Bool
 |.inl k,v=>Value.isInt k v
 |.inr x,v=>Value.isStrOf x v
def a6R(w:World):d9->Int
 |.inl k=>hashInt k
 |.inr x=>hashStr w x
theorem cQ:∀ {k:d9} {v:Value},zY k v=true->(∃i t,k=Sum.inl i/\v=Value.int i t)\/(∃x t,k=Sum.inr x/\v=Value.str x t)
 | .inl i,v,h=>by
  obtain⟨t,e⟩:=Value.isInt_shape (k:=i) (v:=v) h
  exact .inl ⟨i,t,rfl,e⟩
 | .inr x,v,h=>by
  obtain⟨t,e⟩:=Value.isStrOf_shape (x:=x) (v:=v) h
  exact .inr ⟨x,t,rfl,e⟩
theorem M5(i:Int)(t:Tok):zY (.inl i) (.int i t)=true:=by simp[zY,Value.isInt]
theorem M6(x:Str)(t:Tok):zY (.inr x) (.str x t)=true:=by simp[zY,Value.isStrOf]
theorem a03 (a b:Int):decide ((Sum.inl a:d9)=Sum.inl b)=(a==b):=by
 by_cases e:a=b
 ·subst e;simp
 ·have h:¬(Sum.inl a:d9)=Sum.inl b:=λq=>e (Sum.inl.inj q)
  rw[a1y h]
  exact (beq_eq_false_iff_ne.mpr e).symm
theorem a06 (a b:Str):decide ((Sum.inr a:d9)=Sum.inr b)=decide (a=b):=by
 by_cases e:a=b
 ·subst e;simp
 ·have h:¬(Sum.inr a:d9)=Sum.inr b:=λq=>e (Sum.inr.inj q)
  rw[a1y h,a1y e]
theorem a04(a:Int)(b:Str):decide ((Sum.inl a:d9)=Sum.inr b)=false:=a1y (λq=>nomatch q)
theorem a05(a:Str)(b:Int):decide ((Sum.inr a:d9)=Sum.inl b)=false:=a1y (λq=>nomatch q)
def dY (prog:Program) (w:World):PySem.KeyKind prog w d9 where
 is:=zY
 hash:=a6R w
 inj:=λv a b ha hb=>by
  rcases cQ ha with ⟨i,t,rfl,rfl⟩|⟨x,t,rfl,rfl⟩
  ·rcases cQ hb with ⟨j,u,rfl,e⟩|⟨y,u,rfl,e⟩
   ·injection e with e1 _;rw[e1]
   ·exact nomatch e
  ·rcases cQ hb with ⟨j,u,rfl,e⟩|⟨y,u,rfl,e⟩
   ·exact nomatch e
   ·injection e with e1 _;rw[e1]
 byValue:=λk v h=>by
  rcases cQ h with ⟨i,t,rfl,rfl⟩|⟨x,t,rfl,rfl⟩<;>rfl
 pyHash:=λhv h=>by
  rcases cQ hv with ⟨i,t,rfl,rfl⟩|⟨x,t,rfl,rfl⟩
  ·exact wpAny_pyHash_int h
  ·exact wpAny_pyHash_str h
 eqBool:=λhu hv h=>by
  rcases cQ hu with ⟨i,t,rfl,rfl⟩|⟨x,t,rfl,rfl⟩
  ·rcases cQ hv with ⟨j,u,rfl,rfl⟩|⟨y,u,rfl,rfl⟩
   ·rw[a03] at h;exact wpAny_eqBool_int h
   ·rw[a04] at h;exact SeqAt.EqAt.int_str i t y u _ _ _ _ h
  ·rcases cQ hv with ⟨j,u,rfl,rfl⟩|⟨y,u,rfl,rfl⟩
   ·rw[a05] at h;exact SeqAt.EqAt.str_int x t j u _ _ _ _ h
   ·rw[a06] at h;exact wpAny_eqBool_str h
 «strs»:=λk x t v h=>by
  rcases cQ h with ⟨i,u,rfl,e⟩|⟨y,u,rfl,e⟩
  ·exact nomatch e
  ·injection e with e1 _
   subst e1
   cases v<;>rfl
theorem EB(prog:Program)(w:World)(i:Int)(t:Tok):(dY prog w).is (.inl i) (.int i t)=true:=M5 i t
theorem EC(prog:Program)(w:World)(x:Str)(t:Tok):(dY prog w).is (.inr x) (.str x t)=true:=M6 x t
inductive V where
 |non|bl (b:Bool)|int (i:Int)|str (x:Str)|byt (b:Array UInt8)|flt (b:UInt64)|ref (a:Ac)|ty (n:String)
 deriving DecidableEq
def bQ:V->Value->Prop
 |.non,u=>u=Value.none
 |.bl b,u=>u=Value.bool b
 |.int i,u=>∃t,u=Value.int i t
 |.str x,u=>∃t,u=Value.str x t
 |.byt b,u=>∃t,u=Value.bytes b t
 |.flt b,u=>∃t,u=Value.float b t
 |.ref a,u=>u=Value.ref a
 |.ty n,u=>u=Value.type n
abbrev bD:List V->List Value->Prop:=Paired bQ
theorem bD.length{xs:List V}{us:List Value}(r:bD xs us):xs.length=us.length:=Paired.length r
theorem bD.get:∀ {xs:List V} {us:List Value} {i:Nat} {x:V},bD xs us->xs[i]? =some x->∃u,us[i]? =some u/\bQ x u
 |_,_,_,_,.nil,e=>by simp at e
 |_,_,0,_,.cons r _,e=>by simp at e;subst e;exact⟨_,rfl,r⟩
 | _,_,i+1,x,.cons _ t,e=>by
  obtain⟨u,h1,h2⟩:=bD.get (i:=i) (x:=x) t (by simpa using e)
  exact⟨u,by simpa using h1,h2⟩
theorem bD.set{x:V}{u:Value}(r:bQ x u):∀ {xs:List V} {us:List Value} (i:Nat),bD xs us->bD (xs.set i x) (us.set i u)
 |_,_,_,.nil=>.nil
 |_,_,0,.cons _ t=>.cons r t
 |_,_,i+1,.cons q t=>.cons q (bD.set r i t)
theorem bD.append:∀ {xs ys:List V} {us ws:List Value},bD xs us->bD ys ws->bD (xs++ys) (us++ws)
 |_,_,_,_,.nil,s=>s
 |_,_,_,_,.cons r t,s=>.cons r (bD.append t s)
theorem bD.take:∀ {xs:List V} {us:List Value} (n:Nat),bD xs us->bD (xs.take n) (us.take n)
 |_,_,0,_=>.nil
 |_,_,_+1,.nil=>.nil
 |_,_,n+1,.cons r t=>.cons r (bD.take n t)
theorem bD.drop:∀ {xs:List V} {us:List Value} (n:Nat),bD xs us->bD (xs.drop n) (us.drop n)
 |_,_,0,r=>r
 |_,_,_+1,.nil=>.nil
 |_,_,n+1,.cons _ t=>bD.drop n t
def B1:Option V->Option Value->Prop
 |some v,some u=>bQ v u
 |none,none=>True
 |_,_=>False
def KV{κ:Type}:List (κ×V)->List (κ×Value)->Prop:=Paired λ(p:κ×V) (q:κ×Value)=>p.1=q.1/\bQ p.2 q.2
def kV:d9->V
 |.inl i=>.int i
 |.inr x=>.str x
inductive HO where
 |lst (xs:List V)
 |tup (xs:List V)
 |dK (kvs:List (d9×V))|dT (kvs:List (List d9×V))
 |set (S:Int->Bool) (n:Nat)
 |ins (C dx:Ac) (fs:List (Str×V))
 |own (x:Ac)
 |xd (fs:List (Str×V))
 |met (f x:Ac)
 |rng (lo hi:Int)
 |frz (o:Obj) (u:HO)
 |tbl
 |ext (φ:Heap->Prop)
abbrev Hp:=Ac->Option HO
def bX(H:Hp)(a:Ac)(o:HO):Hp:=λb=>if b=a then some o else H b
theorem bM{H:Hp}{a:Ac}{o:HO}:bX H a o a=some o:=by unfold bX;rw[if_pos rfl]
theorem aL{H:Hp}{a b:Ac}{o:HO}(h:b≠a):bX H a o b=H b:=by unfold bX;rw[if_neg h]
theorem KP{H:Hp}{a:Addr}{o u:HO}:bX (bX H a o) a u=bX H a u:=by
 funext b;unfold bX;split<;>rfl
theorem dH{H:Hp}{a b:Addr}{o:HO}(h:H a=some o)(h':H b=none):a≠b:=by
 intro e;subst e;rw[h] at h';cases h'
section
variable(P:Program)(w:World)
def cI (H:Hp) (h:Heap) (a:Addr):HO->Prop
 |.lst xs=>xs.length<=sizeLine/\∃(its:List Value) (n:Nat),bD xs its/\h.get? a=some {cls:=.type "list",data:=.seq its.toArray n}
 |.tup xs=>xs.length<=sizeLine/\∃its:List Value,bD xs its/\IsTup h a its.toArray
 |.dK kvs=>kvs.length<=sizeLine/\(a==sysModules)=false/\∃vs,KV kvs vs/\h.DictOf (dY P w) a vs
 | .dT kvs=>kvs.length<=sizeLine/\(a==sysModules)=false/\∃xs:List (List d9×Addr×Value),
   Paired (λ(p:List d9×V) (q:List d9×Ac×Value)=>p.1=q.1/\H q.2.1=some (.tup (p.1.map kV))/\bQ p.2 q.2.2) kvs xs/\
   ∃o es ep,h.get? a=some o/\o.ExactDict/\o.data= .dict es ep/\es.toList=xs.map (entryOfKey (tupleKind (dY P w)))/\(xs.map (·.1)).Nodup
 |.set S n=>h.SetOf (intKind P w) a S n
 | .ins C dx fs=>H dx=some (.own a)/\fs.length<=1000/\dx≠a/\h.get? a=some (PySem.W.instObj C dx)/\
   ∃mA,h.Ns1 dx mA/\(∀f,B1 (fs.lookup f) (mA f))/\PySem.Within mA (fs.map (·.1))
 |.own _=>∃o,h.get? a=some o
 |.xd fs=>∃mA,h.Ns1 a mA/\∀f,B1 (fs.lookup f) (mA f)
 |.rng lo hi=>∃t u v,h.get? a=some {cls:=.type "range",data:=.fields #[.int lo t,.int hi u,.int 1 v]}
 |.frz o u=>h.get? a=some o/\cI H h a u
 |.tbl=>∃ps:Array Value,h.get? a=some {cls:=.none,data:=.fields ps}/\TriplesOk ps.toList
 |.met f x=>h.get? a=some (PySem.W.methodObj (.ref f) (.ref x))
 |.ext φ=>φ h/\(∃o,h.get? a=some o)/\∀h1 h2:Heap,φ h1->(∀o,h1.get? a=some o->h2.get? a=some o)->φ h2
def oE(H:Hp)(h:Heap):Prop:=∀a o,H a=some o->cI P w H h a o
end
section
variable{P:Program}{w:World}{H H':Hp}{h h':Heap}{a:Ac}{o:HO}
theorem cI.lt(x:cI P w H h a o):a<h.objs.size:=by
 cases o with
 |lst xs=>obtain⟨_,_,_,_,e⟩:=x;exact a0q e
 |tup xs=>obtain⟨_,_,_,p⟩:=x;exact p.lt
 |dK kvs=>obtain⟨_,_,_,_,o,_,_,e,_⟩:=x;exact a0q e
 |dT kvs=>obtain⟨_,_,_,_,o,_,_,e,_⟩:=x;exact a0q e
 |set S n=>obtain⟨o,_,_,_,e,_⟩:=x;exact a0q e
 |ins C dx fs=>obtain⟨_,_,_,e,_⟩:=x;exact a0q e
 |own y=>obtain⟨_,e⟩:=x;exact a0q e
 |xd fs=>obtain⟨_,⟨_,_,_,e,_⟩,_⟩:=x;exact a0q e
 |rng lo hi=>obtain⟨_,_,_,e⟩:=x;exact a0q e
 |frz ob u=>obtain⟨e,_⟩:=x;exact a0q e
 |tbl=>obtain⟨_,e,_⟩:=x;exact a0q e
 |met f y=>exact a0q (show h.get? a=some _ from x)
 |ext φ=>obtain⟨_,⟨_,e⟩,_⟩:=x;exact a0q e
theorem Paired.mapP{α β:Type}{F G:α->β->Prop}:∀ {l₁:List α} {l₂:List β},Paired F l₁ l₂->(∀a b,F a b->G a b)->Paired G l₁ l₂
 |_,_,.nil,_=>.nil
 |_,_,.cons r t,f=>.cons (f _ _ r) (Paired.mapP t f)
theorem cI.stay (x:cI P w H h a o) (k:∀b u,(b=a\/H b=some (.own a))->h.get? b=some u->h'.get? b=some u)
  (ho:∀b,H b=some (.own a)->H' b=some (.own a)) (ht:∀b xs,H b=some (.tup xs)->H' b=some (.tup xs)):cI P w H' h' a o:=by
 induction o with
 |lst xs=>obtain⟨z,its,n,r,e⟩:=x;exact⟨z,its,n,r,k _ _ (.inl rfl) e⟩
 |tup xs=>obtain⟨z,its,r,ob,e,c⟩:=x;exact⟨z,its,r,ob,k _ _ (.inl rfl) e,c⟩
 |dK kvs=>obtain⟨z,y,vs,r,ob,es,ep,e,c⟩:=x;exact⟨z,y,vs,r,ob,es,ep,k _ _ (.inl rfl) e,c⟩
 | dT kvs=>
  obtain⟨z,y,xs,r,ob,es,ep,e,c⟩:=x
  exact⟨z,y,xs,Paired.mapP r λp q z=>⟨z.1,ht _ _ z.2.1,z.2.2⟩,ob,es,ep,k _ _ (.inl rfl) e,c⟩
 |set S n=>obtain⟨ob,es,ep,t,e,c⟩:=x;exact⟨ob,es,ep,t,k _ _ (.inl rfl) e,c⟩
 | ins C dx fs=>
  obtain⟨d,z,ne,e,mA,⟨od,es,ep,e2,c⟩,r⟩:=x
  exact⟨ho _ d,z,ne,k _ _ (.inl rfl) e,mA,⟨od,es,ep,k _ _ (.inr d) e2,c⟩,r⟩
 |own y=>obtain⟨ob,e⟩:=x;exact⟨ob,k _ _ (.inl rfl) e⟩
 |xd fs=>obtain⟨mA,⟨od,es,ep,e,c⟩,r⟩:=x;exact⟨mA,⟨od,es,ep,k _ _ (.inl rfl) e,c⟩,r⟩
 |rng lo hi=>obtain⟨t,u,v,e⟩:=x;exact⟨t,u,v,k _ _ (.inl rfl) e⟩
 |frz ob u ih=>obtain⟨e,q⟩:=x;exact⟨k _ _ (.inl rfl) e,ih q⟩
 |tbl=>obtain⟨ps,e,q⟩:=x;exact⟨ps,k _ _ (.inl rfl) e,q⟩
 | met f y=>
  have e:h.get? a=some (PySem.W.methodObj (.ref f) (.ref y)):=x
  show h'.get? a=some (PySem.W.methodObj (.ref f) (.ref y))
  exact k a _ (.inl rfl) e
 |ext φ=>obtain⟨p,⟨o,e⟩,st⟩:=x;exact⟨st _ _ p λo q=>k _ _ (.inl rfl) q,⟨o,k _ _ (.inl rfl) e⟩,st⟩
theorem oE.lt(x:oE P w H h)(e:H a=some o):a<h.objs.size:=(x a o e).lt
theorem oE.fresh(x:oE P w H h)(e:h.objs.size<=a):H a=none:=by
 cases q:H a with
 |none=>rfl
 |some u=>exact absurd (a0z (x.lt q) e) (a5n _)
theorem oE.kept(x:oE P w H h)(k:∀b u,h.get? b=some u->h'.get? b=some u):oE P w H h':=λa o e=>
 (x a o e).stay (λb u _ q=>k b u q) (λ_ q=>q) λ_ _ q=>q
theorem oE.laid (x:oE P w H h) (k:∀b u,h.get? b=some u->h'.get? b=some u) (hp:h.objs.size<=a) (new:cI P w (bX H a o) h' a o):oE P w (bX H a o) h':=λb u e=>by
 have hn:=x.fresh hp
 by_cases hb:b=a
 ·subst hb;rw[bM] at e;cases e;exact new
 ·rw[aL hb] at e
  exact (x b u e).stay (λc v _ q=>k c v q) (λc q=>by rw[aL (dH q hn)];exact q) λc xs q=>by rw[aL (dH q hn)];exact q
end
def Rd(H:Hp)(a:Ac)(u:HO):Prop:=H a=some u\/∃o,H a=some (.frz o u)
theorem Rd.ok {P:Program} {w:World} {H:Hp} {h:Heap} {a:Addr} {u:HO} (r:Rd H a u) (x:oE P w H h):cI P w H h a u:=by
 rcases r with r|⟨o,r⟩
 ·exact x a u r
 ·obtain⟨_,q⟩:=x a _ r
  exact q
def a35:Option HO->Prop
 |some (.lst _)=>True
 |some (.dK _)=>True
 |some (.dT _)=>True
 |some (.set _ _)=>True
 |some (.ins _ _ _)=>True
 |some (.ext _)=>True
 |_=>False
section
variable{P:Program}{w:World}{H:Hp}{h h':Heap}{x e:Ac}{o':HO}
theorem oE.write (ok:oE P w H h) (mu:a35 (H x)) (he:e=x\/H e=some (.own x)) (k:∀b u,b≠e->h.get? b=some u->h'.get? b=some u) (heo:∃u,h'.get? e=some u)
  (new:cI P w (bX H x o') h' x o'):oE P w (bX H x o') h':=λb u q=>by
 have nown:∀c y,H c=some (.own y)->c≠x:=λc y r z=>by subst z;rw[r] at mu;exact mu
 have ntup:∀c xs,H c=some (.tup xs)->c≠x:=λc xs r z=>by subst z;rw[r] at mu;exact mu
 by_cases hb:b=x
 ·subst hb;rw[bM] at q;cases q;exact new
 ·rw [aL hb] at q
  by_cases hbe:b=e
  ·have q':H b=some (.own x):=by
    rcases he with z|z
    ·exact absurd (hbe.trans z) hb
    ·rw[hbe];exact z
   rw[q] at q';cases q'
   obtain⟨v,hv⟩:=heo
   exact⟨v,by rw[hbe];exact hv⟩
  ·refine (ok b u q).stay (λc v hc r=>k c v ?_ r) (λc r=>by rw[aL (nown c b r)];exact r) λc xs r=>by rw[aL (ntup c xs r)];exact r
   rcases hc with rfl|hc
   ·exact hbe
   ·rintro rfl
    rcases he with z|z
    ·exact nown c b hc z
    ·rw[hc] at z;cases z;exact hb rfl
end
structure Un(fs ex:List Addr)(H H':Hp)(h h':Heap):Prop where
 keep:∀b o,h.get? b=some o->H b=none->b∉fs->b∉ex->h'.get? b=some o
 slot:∀b o,h.get? b=some o->H b=none->b∈fs->b∉ex->∃sl,h'.get? b=some {o with slots:=sl}
 free:∀b o,h.get? b=some o->H b=none->b∉ex->H' b=none
 there:∀b o,h.get? b=some o->b∉ex->∃o',h'.get? b=some o'
 tups:∀b xs,H b=some (.tup xs)->H' b=some (.tup xs)
 frzs:∀b o u,H b=some (.frz o u)->H' b=some (.frz o u)
 tbls:∀b,H b=some .tbl->H' b=some .tbl
section
variable{fs fs' ex ex':List Ac}{H H1 H2:Hp}{h h1 h2 h':Heap}{a x e:Ac}{o:HO}
theorem Un.any(u:Un fs ex H H1 h h1){b:Addr}{ob:Obj}(q:h.get? b=some ob)(n:H b=none)(hx:b∉ex):∃sl,h1.get? b=some {ob with slots:=sl}:=by
 by_cases hb:b∈fs
 ·exact u.slot b ob q n hb hx
 ·exact⟨ob.slots,u.keep b ob q n hb hx⟩
theorem Un.kept(k:∀b u,h.get? b=some u->h'.get? b=some u):Un fs ex H H h h':=
 ⟨λb ob q _ _ _=>k b ob q,λb ob q _ _ _=>⟨ob.slots,k b ob q⟩,λ_ _ _ n _=>n,λb ob q _=>⟨ob,k b ob q⟩,λ_ _ q=>q,λ_ _ _ q=>q,λ_ q=>q⟩
theorem Un.refl:Un fs ex H H h h:=Un.kept λ_ _ q=>q
theorem Un.laid(k:∀b u,h.get? b=some u->h'.get? b=some u)(hp:h.objs.size<=a)(hn:H a=none):Un fs ex H (bX H a o) h h' where
 keep:=λb u q _ _ _=>k b u q
 slot:=λb u q _ _ _=>⟨u.slots,k b u q⟩
 free:=λb u q n _=>by rw[aL (a0x (a0z (a0q q) hp))];exact n
 there:=λb u q _=>⟨u,k b u q⟩
 tups:=λb xs q=>by rw[aL (dH q hn)];exact q
 frzs:=λb u xs q=>by rw[aL (dH q hn)];exact q
 tbls:=λb q=>by rw[aL (dH q hn)];exact q
theorem Un.write (mu:a35 (H x)) (he:e=x\/H e=some (.own x)) (k:∀b u,b≠e->h.get? b=some u->h'.get? b=some u) (heo:∃u,h'.get? e=some u):Un fs ex H (bX H x o) h h':=by
 have hx:∀b,H b=none->b≠x:=λb n z=>by subst z;rw[n] at mu;exact mu
 have hb:∀b,H b=none->b≠e:=λb n z=>by
  subst z
  rcases he with r|r
  ·exact hx b n r
  ·rw[n] at r;cases r
 have hm:∀b u,H b=some u->¬a35 (some u)->b≠x:=λb u q nm z=>by subst z;rw[q] at mu;exact nm mu
 refine ⟨λb u q n _ _=>k b u (hb b n) q,λb u q n _ _=>⟨u.slots,k b u (hb b n) q⟩,λb u q n _=>by rw[aL (hx b n)];exact n,λb u q _=>?_,
  λb xs q=>by rw[aL (hm b _ q λz=>z)];exact q,λb u xs q=>by rw[aL (hm b _ q λz=>z)];exact q,λb q=>by rw[aL (hm b _ q λz=>z)];exact q⟩
 by_cases hbe:b=e
 ·subst hbe;exact heo
 ·exact⟨u,k b u hbe q⟩
end
def a64(h:Heap)(H:Hp):List Ac:=(List.range h.objs.size).filter λa=>(H a).isSome
def LX(h:Heap)(H:Hp):Heap:=PySem.W.hideAll h (a64 h H)
theorem LY(h:Heap)(H:Hp):(LX h H).objs.size=h.objs.size:=PySem.W.hideAll_size _ _
theorem P7 {h:Heap} {H:Hp} {b:Addr} {o:Obj} (e:h.get? b=some o) (n:H b=none):(LX h H).get? b=some o:=
 PySem.W.hideAll_get _ e λhm=>by
  have q:(H b).isSome=true:=(a2l.mp hm).2
  rw[n] at q;simp at q
theorem VC {h:Heap} {H:Hp} {b:Addr} {o:Obj} (e:(LX h H).get? b=some o):h.get? b=some o/\H b=none:=by
 have e':h.get? b=some o:=PySem.W.of_hideAll (a64 h H) e
 refine⟨e',?_⟩
 cases q:H b with
 |none=>rfl
 | some x=>
  have hm:b∈a64 h H:=a2l.mpr ⟨a1s.mpr (a0q e'),by simp[q]⟩
  have z:(LX h H).get? b=none:=PySem.W.hideAll_none (a64 h H) hm
  rw[z] at e;cases e
def GX(a b:Array GenState):Prop:=∀(i:Nat) (x:GenState),a[i]? =some x->b[i]? =some x
structure Mod(K:PySem.W.Frag)(mg:Str->Option Value)(base:Heap):Prop where
 kin:K.In base
 glob:base.Ns mainGlobals mg
 blt:∃mb,base.Ns builtinsNs mb/\∀x:Str,x≠ "__name__"->mb x=bootBuiltins x
 nolimit:base.NoLimit
 mods:∃o,base.get? sysModules=some o
 bmod:∃bm ob,BMod base mainGlobals mg bm ob
structure Cx where
 prog:Program
 w:World
 K:Aa
 mg:Str->Option Value
 base:Heap
 A:Around
 N:List Str
 s₀:Ab
 H₀:Hp
 env:Env
 outer:List Env
 stack:List Env
 ex:List Ac
 fn:Str->Bool
 calm:Bool
 pn:List (Ac×Obj)
 xe:Value->Ab->Prop
def OX(l:List Env):List Ac:=l.filterMap (·.frame)
abbrev Cx.fs(X:Cx):List Ac:=OX X.outer
def a6D(sc:Scope)(x:Str):Prop:=sc.names.lookup x=some .local\/sc.names.lookup x=some .cell\/sc.names.lookup x=some .free
def KY(sc:Scope)(x:Str):Prop:=sc.names.lookup x=some .local\/sc.names.lookup x=some .cell
def a6A(env:Env)(h:Heap)(m:Str->Option Value)(x:Str)(u:Value):Prop:=
 (env.kindOf x=some .local/\m x=some u)\/((env.kindOf x=some .cell\/env.kindOf x=some .free)/\∃c,env.cells.lookup x=some c/\h.IsCell c (some u))
structure Cx.Ok(X:Cx):Prop where
 mod:Mod X.K X.mg X.base
 kind:X.env.scope.kind= .function
 glob:X.env.globals=mainGlobals
 blt:X.env.builtins=builtinsNs
 above:X.s₀.heap.objs.size<=X.env.locals
 inj:∀x y c,X.env.cells.lookup x=some c->X.env.cells.lookup y=some c->x=y
 has:∀x,(X.env.kindOf x=some .cell\/X.env.kindOf x=some .free)->∃c,X.env.cells.lookup x=some c
 cab:∀x c,X.fn x=true->X.env.cells.lookup x=some c->X.s₀.heap.objs.size<=c
 hd:X.calm=true->X.A.handled=none
 frames:X.A.frames=some X.stack
 stk:X.stack=X.outer\/(X.stack=X.env::X.outer/\X.env.frame=some X.env.locals)
 exf:∀b∈X.ex,b≠X.env.locals/\∀x c,X.env.cells.lookup x=some c->c≠b
 bs:∀b o,X.base.get? b=some o->X.s₀.heap.get? b=some o/\X.H₀ b=none
 bsz:X.base.objs.size<=X.s₀.heap.objs.size
 noex:∀b o,X.base.get? b=some o->b∉X.ex
 exfs:∀b∈X.ex,b∉X.fs
 funs:X.s₀.heap.FunFrames X.base X.outer
 frf:∀b∈X.fs,X.H₀ b=none
 tb:∀b∈X.base.life.registered,X.H₀ b=some .tbl
structure Inv(X:Cx)(pins:List (Addr×Obj))(σ:List (Option V))(H:Hp)(s:Shared):Prop where
 ok:X.Ok
 os:s.os=X.s₀.os
 bare:AllBare s.gens/\GX X.s₀.gens s.gens
 base:Un X.fs X.ex X.H₀ H X.s₀.heap s.heap
 loc:∃m,s.heap.Ns X.env.locals m/\∀(i:Nat) (x:Str) (v:V),X.N[i]? =some x->σ[i]? =some (some v)->a6D X.env.scope x->∃u,bQ v u/\a6A X.env s.heap m x u
 cell:∀x c,X.env.cells.lookup x=some c->∃v,s.heap.IsCell c v
 free:H X.env.locals=none
 freeC:∀x c,X.env.cells.lookup x=some c->H c=none
 pin:∀p∈X.pn++pins,s.heap.get? p.1=some p.2/\H p.1=none/\p.1≠X.env.locals/\p.1∉X.fs/\∀v,p.2.data≠ .cell v
 hok:oE X.prog X.w H s.heap
 len:σ.length=X.N.length
section
variable{X:Cx}{pins:List (Ac×Obj)}{σ:List (Option V)}{H H':Hp}{s:Ab}{h':Heap}
theorem Cx.Ok.nofr(ok:X.Ok){b:Addr}{o:Obj}(e:X.base.get? b=some o):b∉X.fs:=λhb=>by
 have:=(ok.funs.mem hb).1
 rw[e] at this;cases this
theorem Inv.bs(I:Inv X pins σ H s):∀b o,X.base.get? b=some o->s.heap.get? b=some o/\H b=none:=λb o e=>
 ⟨I.base.keep b o (I.ok.bs b o e).1 (I.ok.bs b o e).2 (I.ok.nofr e) (I.ok.noex b o e),I.base.free b o (I.ok.bs b o e).1 (I.ok.bs b o e).2 (I.ok.noex b o e)⟩
theorem Inv.bk(I:Inv X pins σ H s):∀b o,X.base.get? b=some o->s.heap.get? b=some o:=λb o e=>(I.bs b o e).1
theorem Inv.mod(I:Inv X pins σ H s):Mod X.K X.mg X.base:=I.ok.mod
theorem Inv.kIn(I:Inv X pins σ H s):X.K.In s.heap:=I.ok.mod.kin.keeps I.bk
theorem Inv.nolimit(I:Inv X pins σ H s):s.heap.NoLimit:=I.ok.mod.nolimit.keeps I.bk
theorem Inv.lt(I:Inv X pins σ H s):X.env.locals<s.heap.objs.size:=let ⟨_,hn,_⟩:=I.loc;hn.lt
theorem Inv.sz(I:Inv X pins σ H s):X.s₀.heap.objs.size<=s.heap.objs.size:=a1b I.ok.above (a3r I.lt)
theorem Inv.nofs(I:Inv X pins σ H s){a:Addr}(h:s.heap.objs.size<=a):a∉X.fs:=λhb=>by
 obtain⟨_,o,ho,_⟩:=I.ok.funs.mem hb
 exact absurd (a0z (a0q ho) (a1b I.sz h)) (a5n _)
theorem Inv.cne(I:Inv X pins σ H s):∀x c,X.env.cells.lookup x=some c->c≠X.env.locals:=λx c e z=>by
 obtain⟨v,o,ho,hd⟩:=I.cell x c e
 obtain⟨m,⟨o',es,ep,ho',hd',_⟩,_⟩:=I.loc
 rw[z,ho'] at ho;cases ho;rw[hd'] at hd;cases hd
theorem Inv.funs (I:Inv X pins σ H s):s.heap.FunFrames X.base X.outer:=by
 have all:∀(l:List Env),(∀b∈OX l,b∈X.fs)->X.s₀.heap.FunFrames X.base l->s.heap.FunFrames X.base l:=by
  intro l
  induction l with
  |nil=>intro _ _;trivial
  | cons env r ih=>
   intro hs hl
   obtain⟨hk,⟨L,o,hf,hn,ho,hd⟩,hr⟩:=hl
   have hL:L∈X.fs:=hs L (by unfold OX;rw[a1m,hf];exact a0n)
   obtain⟨sl,e⟩:=I.base.slot L o ho (I.ok.frf L hL) hL λz=>I.ok.exfs L z hL
   exact⟨hk,⟨L,_,hf,hn,e,hd⟩,ih (λb hb=>hs b (by unfold OX;rw[a1m,hf];exact a0j _ hb)) hr⟩
 exact all X.outer (λ_ hb=>hb) I.ok.funs
theorem Inv.stack (I:Inv X pins σ H s):s.heap.FunFrames X.base X.stack:=by
 rcases I.ok.stk with e|⟨e,hf⟩
 ·rw[e];exact I.funs
 ·rw[e]
  obtain⟨m,hn,_⟩:=I.loc
  refine .cons (by rw[I.ok.kind];decide) hf hn ?_ I.funs
  exact Heap.get?_none_of_le (a1b I.ok.bsz I.ok.above)
theorem Inv.stkSub (I:Inv X pins σ H s):∀b∈OX X.stack,b∈X.env.locals::X.fs:=λb hb=>by
 rcases I.ok.stk with e|⟨e,hf⟩
 ·rw[e] at hb;exact a0j _ hb
 ·rw[e] at hb
  unfold OX at hb
  rw[a1m,hf] at hb
  exact hb
theorem Inv.stkFree (I:Inv X pins σ H s):∀b∈OX X.stack,H b=none:=λb hb=>by
 rcases a0l.mp (I.stkSub b hb) with e|hb
 ·rw[e];exact I.free
 ·obtain⟨_,o,ho,_⟩:=I.ok.funs.mem hb
  exact I.base.free b o ho (I.ok.frf b hb) λz=>I.ok.exfs b z hb
theorem Inv.tb(I:Inv X pins σ H s):∀b∈X.base.life.registered,H b=some .tbl:=λb hb=>I.base.tbls b (I.ok.tb b hb)
theorem Inv.step {g':Array GenState} {t':Nat} {d':Drawn} {ch:List Addr} (I:Inv X pins σ H s)
  (hch:∀b∈ch,(b∈X.ex\/X.s₀.heap.objs.size<=b)/\b≠X.env.locals/\(∀x c,X.env.cells.lookup x=some c->c≠b)/\∀p∈X.pn++pins,p.1≠b)
  (keep:∀b o,b≠X.env.locals->b∉X.fs->b∉ch->s.heap.get? b=some o->H b=none->h'.get? b=some o)
  (slot:∀b o,b≠X.env.locals->b∈X.fs->b∉ch->s.heap.get? b=some o->H b=none->∃sl,h'.get? b=some {o with slots:=sl}) (free:∀b o,b∉ch->s.heap.get? b=some o->H b=none->H' b=none)
  (there:∀b o,b∉ch->s.heap.get? b=some o->∃o',h'.get? b=some o')
  (tups:∀b xs,H b=some (.tup xs)->H' b=some (.tup xs)) (frzs:∀b o u,H b=some (.frz o u)->H' b=some (.frz o u)) (tbls:∀b,H b=some .tbl->H' b=some .tbl)
  (ns:∀m,s.heap.Ns X.env.locals m->h'.Ns X.env.locals m) (hok:oE X.prog X.w H' h') (hg:AllBare g'/\GX X.s₀.gens g') :
  Inv X pins σ H' {s with heap:=h',gens:=g',drawn:=d',toks:=t'}:=by
 have neL:∀b o,X.s₀.heap.get? b=some o->b≠X.env.locals:=λb o e=>a0x (a0z (a0q e) I.ok.above)
 have neC:∀b o,X.s₀.heap.get? b=some o->b∉X.ex->b∉ch:=λb o e hx hb=>by
  rcases (hch b hb).1 with z|z
  ·exact hx z
  ·exact absurd (a0z (a0q e) z) (a5n _)
 have cellK:∀x c,X.env.cells.lookup x=some c->∀v,s.heap.IsCell c v->h'.IsCell c v:=λx c e v ⟨o,ho,hd⟩=>by
  have nch:c∉ch:=λz=>(hch c z).2.2.1 x c e rfl
  by_cases hc:c∈X.fs
  ·obtain⟨sl,q⟩:=slot c o (I.cne x c e) hc nch ho (I.freeC x c e)
   exact⟨_,q,hd⟩
  ·exact⟨o,keep c o (I.cne x c e) hc nch ho (I.freeC x c e),hd⟩
 refine⟨I.ok,I.os,hg,⟨λb o e n hb hx=>?_,λb o e n hb hx=>?_,λb o e n hx=>?_,λb o e hx=>?_,λb xs e=>tups b xs (I.base.tups b xs e),λb o xs e=>frzs b o xs (I.base.frzs b o xs e),λb e=>tbls b (I.base.tbls b e)⟩,?_,λx c e=>?_,?_,λx c e=>?_,λp hp=>?_,hok,I.len⟩
 ·exact keep b o (neL b o e) hb (neC b o e hx) (I.base.keep b o e n hb hx) (I.base.free b o e n hx)
 ·obtain⟨sl,e1⟩:=I.base.slot b o e n hb hx
  obtain⟨sl',e2⟩:=slot b _ (neL b o e) hb (neC b o e hx) e1 (I.base.free b o e n hx)
  exact⟨sl',e2⟩
 ·obtain⟨o',e1⟩:=I.base.there b o e hx
  exact free b o' (neC b o e hx) e1 (I.base.free b o e n hx)
 ·obtain⟨o',e1⟩:=I.base.there b o e hx
  exact there b o' (neC b o e hx) e1
 ·obtain⟨m,hn,hl⟩:=I.loc
  refine⟨m,ns m hn,λi x v e1 e2 e3=>?_⟩
  obtain⟨u,r,l⟩:=hl i x v e1 e2 e3
  refine⟨u,r,?_⟩
  rcases l with l|⟨k,c,e,z⟩
  ·exact .inl l
  ·exact .inr ⟨k,c,e,cellK x c e _ z⟩
 ·obtain⟨v,z⟩:=I.cell x c e
  exact⟨v,cellK x c e v z⟩
 ·obtain⟨m,⟨o,_,_,ho,_⟩,_⟩:=I.loc
  exact free _ o (λz=>(hch _ z).2.1 rfl) ho I.free
 ·obtain⟨v,o,ho,hd⟩:=I.cell x c e
  exact free c o (λz=>(hch c z).2.2.1 x c e rfl) ho (I.freeC x c e)
 ·obtain⟨e,n,ne,nf,d⟩:=I.pin p hp
  have nch:p.1∉ch:=λz=>(hch p.1 z).2.2.2 p hp rfl
  exact⟨keep p.1 p.2 ne nf nch e n,free p.1 p.2 nch e n,ne,nf,d⟩
theorem Inv.un {t':Nat} (I:Inv X pins σ H s) (u:Un X.fs [] H H' s.heap h') (hok:oE X.prog X.w H' h'):Inv X pins σ H' {s with heap:=h',toks:=t'}:=by
 obtain⟨m,⟨o,es,ep,ho,r⟩,_⟩:=id I.loc
 obtain⟨sl,hL⟩:=u.any ho I.free (by simp)
 exact I.step (g':=s.gens) (d':=s.drawn) (ch:=[]) (λ_ z=>nomatch z) (λb o _ hb _ e n=>u.keep b o e n hb (by simp)) (λb o _ hb _ e n=>u.slot b o e n hb (by simp)) (λb o _ e n=>u.free b o e n (by simp)) (λb o _ e=>u.there b o e (by simp)) u.tups u.frzs u.tbls (λm' hm=>by
  obtain⟨o',es',ep',ho',r'⟩:=hm
  rw[ho] at ho';cases ho'
  exact⟨_,es',ep',hL,r'⟩) hok I.bare
theorem Inv.call {g':Array GenState} {t':Nat} {d':Drawn} {ch:List Addr} (I:Inv X pins σ H s) (u:Un (OX X.stack) ch H H' s.heap h') (hok:oE X.prog X.w H' h') (hg:AllBare g'/\GX s.gens g')
  (hch:∀b∈ch,(b∈X.ex\/X.s₀.heap.objs.size<=b)/\b≠X.env.locals/\(∀x c,X.env.cells.lookup x=some c->c≠b)/\∀p∈X.pn++pins,p.1≠b) :
  Inv X pins σ H' {s with heap:=h',gens:=g',drawn:=d',toks:=t'}:=by
 obtain⟨m,⟨o,es,ep,ho,r⟩,_⟩:=id I.loc
 obtain⟨sl,hL⟩:=u.any ho I.free λz=>(hch _ z).2.1 rfl
 exact I.step (ch:=ch) hch (λb o hL hb hc e n=>u.keep b o e n (λz=>(a0l.mp (I.stkSub b z)).elim hL hb) hc) (λb o _ _ hc e n=>u.any e n hc) (λb o hc e n=>u.free b o e n hc) (λb o hc e=>u.there b o e hc) u.tups u.frzs u.tbls (λm' hm=>by
  obtain⟨o',es',ep',ho',r'⟩:=hm
  rw[ho] at ho';cases ho'
  exact⟨_,es',ep',hL,r'⟩) hok ⟨hg.1,λi x e=>hg.2 i x (I.bare.2 i x e)⟩
theorem Inv.turned {t':Nat} {it:Addr} (I:Inv X pins σ H s) (k:∀b o,b≠it->s.heap.get? b=some o->h'.get? b=some o) (hn:H it=none) (hL:it≠X.env.locals)
  (h1:it∈X.ex\/X.s₀.heap.objs.size<=it) (h2:∀x c,X.env.cells.lookup x=some c->c≠it) (h3:∀p∈X.pn++pins,p.1≠it):Inv X pins σ H {s with heap:=h',toks:=t'}:=by
 have nit:∀b u,H b=some u->b≠it:=λb u e z=>by rw[z,hn] at e;cases e
 refine I.step (g':=s.gens) (d':=s.drawn) (ch:=[it]) (λb hb=>?_) (λb o _ _ hc e _=>k b o (λz=>hc (by simp[z])) e) (λb o _ _ hc e _=>⟨o.slots,k b o (λz=>hc (by simp[z])) e⟩) (λ_ _ _ _ n=>n)
  (λb o hc e=>⟨o,k b o (λz=>hc (by simp[z])) e⟩) (λ_ _ e=>e) (λ_ _ _ e=>e) (λb e=>e) (λm hm=>?_) (λb u e=>?_) I.bare
 ·have e:b=it:=by simpa using hb
  subst e
  exact⟨h1,hL,h2,h3⟩
 ·obtain⟨o,es,ep,ho,r⟩:=hm
  exact⟨o,es,ep,k _ o (a3b hL) ho,r⟩
 ·refine (I.hok b u e).stay (λc v hc q=>k c v ?_ q) (λ_ q=>q) λ_ _ q=>q
  rcases hc with z|z
  ·rw[z];exact nit b u e
  ·exact nit c _ z
theorem Inv.tok(I:Inv X pins σ H s)(t:Nat):Inv X pins σ H {s with toks:=t}:=I.un (h':=s.heap) (t':=t) Un.refl I.hok
theorem Inv.kept{t':Nat}(I:Inv X pins σ H s)(k:∀b u,s.heap.get? b=some u->h'.get? b=some u):Inv X pins σ H {s with heap:=h',toks:=t'}:=I.un (Un.kept k) (I.hok.kept k)
theorem Inv.laid {a:Addr} {o:HO} {t':Nat} (I:Inv X pins σ H s) (k:∀b u,s.heap.get? b=some u->h'.get? b=some u) (hp:s.heap.objs.size<=a) (new:cI X.prog X.w (bX H a o) h' a o) :
  Inv X pins σ (bX H a o) {s with heap:=h',toks:=t'}:=I.un (Un.laid k hp (I.hok.fresh hp)) (I.hok.laid k hp new)
theorem Inv.write {x e:Addr} {o:HO} {t':Nat} (I:Inv X pins σ H s) (mu:a35 (H x)) (he:e=x\/H e=some (.own x)) (k:∀b u,b≠e->s.heap.get? b=some u->h'.get? b=some u) (heo:∃u,h'.get? e=some u)
  (new:cI X.prog X.w (bX H x o) h' x o):Inv X pins σ (bX H x o) {s with heap:=h',toks:=t'}:=I.un (Un.write mu he k heo) (I.hok.write mu he k heo new)
theorem Inv.pins_of{pins':List (Addr×Obj)}(I:Inv X pins σ H s)(h:∀p∈pins',s.heap.get? p.1=some p.2/\H p.1=none/\p.1≠X.env.locals/\p.1∉X.fs/\∀v,p.2.data≠ .cell v):Inv X pins' σ H s:=
 ⟨I.ok,I.os,I.bare,I.base,I.loc,I.cell,I.free,I.freeC,λp hp=>(a1c.mp hp).elim (λz=>I.pin p (a1z _ z)) (h p),I.hok,I.len⟩
theorem EE{N:List Str}(hN:N.Nodup){i j:Nat}{x:Str}(a:N[i]? =some x)(b:N[j]? =some x):i=j:=by
 obtain⟨h1,e1⟩:=a0e.mp a
 obtain⟨h2,e2⟩:=a0e.mp b
 exact (List.getElem_inj hN).mp (e1.trans e2.symm)
theorem MS {M:Model} {A:Around} {E:Value->Shared->Prop} {i:Nat} {x:Str} {v:V} {u:Value} {Q:Unit->Shared->Prop} (I:Inv X pins σ H s) (hN:X.N.Nodup) (hi:X.N[i]? =some x) (hx:KY X.env.scope x) (r:bQ v u)
  (h:∀s',Inv X pins (σ.set i (some v)) H s'->(∃a,Heap.SameBut a s.heap s'.heap/\(a=X.env.locals\/X.env.cells.lookup x=some a))->Q () s') (hf:X.fn x=true\/X.env.scope.names.lookup x=some .local:=by first|exact .inl rfl|exact .inr rfl|assumption):wpAny M A (storeName X.env x u) Q E s:=by
 obtain⟨m,hn,hl⟩:=id I.loc
 have hcls:(X.env.scope.kind== .class||(X.env.scope.kind== .module&&X.env.locals !=X.env.globals))=false:=by rw[I.ok.kind];rfl
 have hiσ:i<σ.length:=by rw[I.len];exact (a0e.mp hi).1
 have cne:=I.cne
 have tracked:∀ {a:Addr} {h':Heap},(∃o,s.heap.get? a=some o/\H a=none)->Heap.SameBut a s.heap h'->oE X.prog X.w H h':=fun {a h'} ha hs b ob e=>by
  obtain⟨_,_,hfree⟩:=ha
  refine (I.hok b ob e).stay (λc w' hc q=>(hs.2 c ?_).trans q) (λ_ q=>q) λ_ _ q=>q
  rintro rfl
  rcases hc with rfl|hc
  ·rw[hfree] at e;cases e
  ·rw[hfree] at hc;cases hc
 rcases hx with hk|hk
 ·refine wpAny_storeName_local hk hn (λh' hn' hs=>?_) hcls
  obtain⟨oL,_,_,hoL,_⟩:=id hn
  refine h _ ⟨I.ok,I.os,I.bare,⟨λb o e n hb hx=>?_,λb o e n hb hx=>?_,I.base.free,λb o e hx=>?_,I.base.tups,I.base.frzs,I.base.tbls⟩,⟨_,hn',λj y v' e1 e2 e3=>?_⟩,λy c e=>?_,I.free,I.freeC,λp hp=>?_,tracked ⟨oL,hoL,I.free⟩ hs,by simpa using I.len⟩ ⟨_,hs,.inl rfl⟩
  ·exact (hs.2 b (a0x (a0z (a0q e) I.ok.above))).trans (I.base.keep b o e n hb hx)
  ·obtain⟨sl,e1⟩:=I.base.slot b o e n hb hx
   exact⟨sl,(hs.2 b (a0x (a0z (a0q e) I.ok.above))).trans e1⟩
  ·obtain⟨o',e1⟩:=I.base.there b o e hx
   exact⟨o',(hs.2 b (a0x (a0z (a0q e) I.ok.above))).trans e1⟩
  ·by_cases hj:j=i
   ·subst hj
    rw[hi] at e1;cases e1
    rw[List.getElem?_set_self hiσ] at e2
    cases e2
    exact⟨u,r,.inl ⟨hk,by simp⟩⟩
   ·rw [List.getElem?_set_ne (a3b hj)] at e2
    obtain⟨u',r',q⟩:=hl j y v' e1 e2 e3
    refine⟨u',r',?_⟩
    rcases q with ⟨k,e⟩|⟨k,c,e,z⟩
    ·refine .inl ⟨k,?_⟩
     have:y≠x:=λe=>hj (EE hN e1 (e▸hi))
     simp[this,e]
    ·exact .inr ⟨k,c,e,z.sameBut hs (cne y c e)⟩
  ·obtain⟨w',z⟩:=I.cell y c e
   exact⟨w',z.sameBut hs (cne y c e)⟩
  ·obtain⟨e,n,ne,nf,d⟩:=I.pin p hp
   exact⟨(hs.2 p.1 ne).trans e,n,ne,nf,d⟩
 ·have hfn:X.fn x=true:=by
   rcases hf with z|z
   ·exact z
   ·rw[z] at hk;cases hk
  obtain⟨c,hc⟩:=I.ok.has x (.inl hk)
  obtain⟨w',z⟩:=I.cell x c hc
  refine wpAny_storeName_cell I.ok.kind hk hc z (λh' hc' hs=>?_)
  obtain⟨oc,hoc,hocd⟩:=id z
  refine h {s with heap:=h'} ⟨I.ok,I.os,I.bare,⟨λb o e n hb hx=>?_,λb o e n hb hx=>?_,I.base.free,λb o e hx=>?_,I.base.tups,I.base.frzs,I.base.tbls⟩,⟨m,hn.sameBut hs (a3b (cne x c hc)),λj y v' e1 e2 e3=>?_⟩,λy c' e=>?_,I.free,I.freeC,λp hp=>?_,tracked ⟨oc,hoc,I.freeC x c hc⟩ hs,by simpa using I.len⟩ ⟨c,hs,.inr hc⟩
  ·exact (hs.2 b (a0x (a0z (a0q e) (I.ok.cab x c hfn hc)))).trans (I.base.keep b o e n hb hx)
  ·obtain⟨sl,e1⟩:=I.base.slot b o e n hb hx
   exact⟨sl,(hs.2 b (a0x (a0z (a0q e) (I.ok.cab x c hfn hc)))).trans e1⟩
  ·obtain⟨o',e1⟩:=I.base.there b o e hx
   exact⟨o',(hs.2 b (a0x (a0z (a0q e) (I.ok.cab x c hfn hc)))).trans e1⟩
  ·by_cases hj:j=i
   ·subst hj
    rw[hi] at e1;cases e1
    rw[List.getElem?_set_self hiσ] at e2
    cases e2
    exact⟨u,r,.inr ⟨.inl hk,c,hc,hc'⟩⟩
   ·rw [List.getElem?_set_ne (a3b hj)] at e2
    obtain⟨u',r',q⟩:=hl j y v' e1 e2 e3
    refine⟨u',r',?_⟩
    rcases q with q|⟨k,c',e,z'⟩
    ·exact .inl q
    ·refine .inr ⟨k,c',e,z'.sameBut hs ?_⟩
     rintro rfl
     exact hj (EE hN e1 (I.ok.inj _ _ _ e hc▸hi))
  ·by_cases hcc:c'=c
   ·subst hcc;exact⟨_,hc'⟩
   ·obtain⟨w2,z2⟩:=I.cell y c' e
    exact⟨w2,z2.sameBut hs hcc⟩
  ·obtain⟨e,n,ne,nf,d⟩:=I.pin p hp
   refine⟨(hs.2 p.1 ?_).trans e,n,ne,nf,d⟩
   intro q
   rw[q,hoc] at e
   have q':oc=p.2:=a1i e
   exact d w' (by rw[<- q'];exact hocd)
theorem rZ {M:Model} {A:Around} {E:Value->Shared->Prop} {i:Nat} {x:Str} {v:V} {u:Value} {Q:Unit->Shared->Prop} (I:Inv X pins σ H s) (hN:X.N.Nodup) (hi:X.N[i]? =some x) (hx:KY X.env.scope x) (r:bQ v u)
  (h:∀s',Inv X pins (σ.set i (some v)) H s'->Q () s') (hf:X.fn x=true\/X.env.scope.names.lookup x=some .local:=by first|exact .inl rfl|exact .inr rfl|assumption):wpAny M A (storeName X.env x u) Q E s:=
 MS I hN hi hx r (λs' I' _=>h s' I') hf
theorem Inv.call' {s':Shared} {ch:List Addr} (I:Inv X pins σ H s) (ho:s'.os=s.os) (u:Un (OX X.stack) ch H H' s.heap s'.heap) (hok:oE X.prog X.w H' s'.heap) (hg:AllBare s'.gens/\GX s.gens s'.gens)
  (hch:∀b∈ch,(b∈X.ex\/X.s₀.heap.objs.size<=b)/\b≠X.env.locals/\(∀x c,X.env.cells.lookup x=some c->c≠b)/\∀p∈X.pn++pins,p.1≠b):Inv X pins σ H' s':=by
 obtain⟨h',g',d',t',o'⟩:=s'
 have e:o'=s.os:=ho
 subst e
 exact I.call (g':=g') (t':=t') (d':=d') u hok hg hch
end
abbrev XK:=Value->Option Ac->Hp->Prop
abbrev St:=List (Option V)
abbrev VK:=V->Hp->Prop
abbrev TE:=St->Hp->VK->Prop
abbrev TT:=St->Hp->(Bool->Hp->Prop)->Prop
abbrev TA:=St->Hp->(List V->Hp->Prop)->Prop
structure Ends where
 nx:St->Hp->Prop
 rt:VK
 bk:St->Hp->Prop:=λ_ _=>False
 ct:St->Hp->Prop:=λ_ _=>False
abbrev TS:=Ends->St->Hp->Prop
def EP(X:Cx)(pins:List (Ac×Obj))(σ:St)(Q:VK)(u:Value)(s':Ab):Prop:=∃v H',Inv X pins σ H' s'/\bQ v u/\Q v H'
def TP(X:Cx)(pins:List (Ac×Obj))(σ:St)(Q:Bool->Hp->Prop)(b:Bool)(s':Ab):Prop:=∃H',Inv X pins σ H' s'/\Q b H'
def AP(X:Cx)(pins:List (Ac×Obj))(σ:St)(Q:List V->Hp->Prop)(us:List Value)(s':Ab):Prop:=∃vs H',Inv X pins σ H' s'/\bD vs us/\Q vs H'
def SP(X:Cx)(pins:List (Addr×Obj))(D:Ends)(f:Flow)(s':Shared):Prop:=
 match f with
 |.next=>∃σ' H',Inv X pins σ' H' s'/\D.nx σ' H'
 |.brk=>∃σ' H',Inv X pins σ' H' s'/\D.bk σ' H'
 |.cont=>∃σ' H',Inv X pins σ' H' s'/\D.ct σ' H'
 |.ret u=>∃v σ' H',Inv X pins σ' H' s'/\bQ v u/\D.rt v H'
def PE(X:Cx)(e:Expr)(t:TE):Prop:=
 ∀(pins:List (Ac×Obj)) (s:Ab) (σ:St) (H:Hp) (Q:VK),Inv X pins σ H s->t σ H Q->wpAny (model X.prog X.w) X.A (eval e X.env) (EP X pins σ Q) X.xe s
def PT(X:Cx)(e:Expr)(t:TT):Prop:=
 ∀(pins:List (Ac×Obj)) (s:Ab) (σ:St) (H:Hp) (Q:Bool->Hp->Prop),Inv X pins σ H s->t σ H Q->wpAny (model X.prog X.w) X.A (isTrue e X.env (eval e X.env)) (TP X pins σ Q) X.xe s
def PW(X:Cx)(e:Expr)(t:TT):Prop:=
 ∀(whole:Sem Value) (pins:List (Ac×Obj)) (s:Ab) (σ:St) (H:Hp) (Q:Bool->Hp->Prop),Inv X pins σ H s->t σ H Q->wpAny (model X.prog X.w) X.A (isTrue e X.env whole) (TP X pins σ Q) X.xe s
theorem PW.pt{X:Cx}{e:Expr}{t:TT}(h:PW X e t):PT X e t:=h _
def PA(X:Cx)(es:List Expr)(t:TA):Prop:=
 ∀(pos:Pos) (pins:List (Ac×Obj)) (s:Ab) (σ:St) (H:Hp) (Q:List V->Hp->Prop),Inv X pins σ H s->t σ H Q->wpAny (model X.prog X.w) X.A (spliced (backTo pos (starEach es X.env))) (AP X pins σ Q) X.xe s
def PS(X:Cx)(st:Stmt)(t:TS):Prop:=
 ∀(pins:List (Ac×Obj)) (s:Ab) (σ:St) (H:Hp) (D:Ends),Inv X pins σ H s->t D σ H->wpAny (model X.prog X.w) X.A (exec st X.env) (SP X pins D) X.xe s
def zH(X:Cx)(st:List Stmt)(t:TS):Prop:=
 ∀(pins:List (Ac×Obj)) (s:Ab) (σ:St) (H:Hp) (D:Ends),Inv X pins σ H s->t D σ H->wpAny (model X.prog X.w) X.A (execs st X.env) (SP X pins D) X.xe s
theorem d8{α:Type}{t:Sem α}{Q Q':α->Ab->Prop}{M:Model}{A:Around}{E:Value->Ab->Prop}{s:Ab}(h:wpAny M A t Q E s)(hQ:∀a s,Q a s->Q' a s):wpAny M A t Q' E s:=a1j h hQ λ_ _ x=>x
section
variable{X:Cx}
def g8(i:Nat):TE:=λσ H Q=>∃v,σ[i]? =some (some v)/\Q v H
def tC(v:V):TE:=λ_ H Q=>Q v H
theorem a1E {i:Nat} {x:Str} {pos:Pos} (hN:X.N[i]? =some x) (hv:a6D X.env.scope x) (hd:(x==("__debug__" : Str))=false:=by decide) (hcd:(x==("__classdict__" : Str))=false:=by decide):PE X (.Name x pos) (g8 i):=by
 intro pins s σ H Q I h
 obtain⟨v,e,h⟩:=h
 obtain⟨m,hn,hl⟩:=I.loc
 obtain⟨u,r,l⟩:=hl i x v hN e hv
 have fin:EP X pins σ Q u s:=⟨v,H,I,r,h⟩
 rcases l with ⟨hk,hm⟩|⟨hk,c,hc,hcell⟩
 ·exact wpAny_Name (wpAny_loadName_local I.ok.kind hk hn hm fin) hd
 ·rcases hk with hk|hk
  ·exact wpAny_Name (wpAny_loadName_cell I.ok.kind hk hc hcell fin) hd
  ·exact wpAny_Name (wpAny_loadName_free I.ok.kind hk hc hcell fin hcd) hd
theorem a16{i j pos}:PE X (.Constant (.int i) j pos) (tC (.int i)):=λ_ _ _ H _ I h=>wpAny_Constant_int ⟨.int i,H,I.tok _,⟨_,rfl⟩,h⟩
theorem a4F{b j pos}:PE X (.Constant (.bool b) j pos) (tC (.bl b)):=λ_ _ _ H _ I h=>Constant_bool ⟨.bl b,H,I,rfl,h⟩
theorem a17{j pos}:PE X (.Constant .none j pos) (tC .non):=λ_ _ _ H _ I h=>Constant_none ⟨.non,H,I,rfl,h⟩
theorem a1C{x j pos}:PE X (.Constant (.str x) j pos) (tC (.str x)):=λ_ _ _ H _ I h=>Calls.Constant_str ⟨.str x,H,I.tok _,⟨_,rfl⟩,h⟩
def Gl(X:Cx)(x:Str):Prop:=X.env.kindOf x=some .globalImplicit
theorem JS {E:Value->Shared->Prop} {pins:List (Addr×Obj)} {s:Shared} {σ:St} {H:Hp} {x:Str} {u:Value} {pos:Pos} {Q:Value->Shared->Prop} (I:Inv X pins σ H s) (hg:Gl X x) (hm:X.mg x=some u) (h:Q u s)
  (hd:(x==("__debug__" : Str))=false:=by decide):wpAny (model X.prog X.w) X.A (eval (.Name x pos) X.env) Q E s:=
 Calls.Name_function_global I.ok.kind hg (Calls.loadGlobal_global (by rw[I.ok.glob];exact I.mod.glob.keeps I.bk) hm h) hd
theorem p9 {E:Value->Shared->Prop} {pins:List (Addr×Obj)} {s:Shared} {σ:St} {H:Hp} {x:Str} {u:Value} {pos:Pos} {Q:Value->Shared->Prop} (I:Inv X pins σ H s) (hg:Gl X x) (hm:X.mg x=none) (hv:bootBuiltins x=some u) (h:Q u s)
  (hn:x≠ "__name__":=by decide) (hd:(x==("__debug__" : Str))=false:=by decide):wpAny (model X.prog X.w) X.A (eval (.Name x pos) X.env) Q E s:=by
 obtain⟨mb,h1,h2⟩:=I.mod.blt
 exact Calls.Name_function_global I.ok.kind hg (Calls.loadGlobal_builtin (by rw[I.ok.glob];exact I.mod.glob.keeps I.bk) hm (by rw[I.ok.blt];exact h1.keeps I.bk) ((h2 x hn).trans hv) h) hd
theorem VR{x:Str}{v:V}{u:Value}{pos:Pos}(hg:Gl X x)(hm:X.mg x=some u)(r:bQ v u)(hd:(x==("__debug__" : Str))=false:=by decide):PE X (.Name x pos) (tC v):=
 λ_ _ _ H _ I h=>JS I hg hm ⟨v,H,I,r,h⟩ hd
theorem VN{x:Str}{v:V}{u:Value}{pos:Pos}(hg:Gl X x)(hm:X.mg x=none)(hv:bootBuiltins x=some u)(r:bQ v u)(hn:x≠ "__name__":=by decide)(hd:(x==("__debug__" : Str))=false:=by decide):PE X (.Name x pos) (tC v):=
 λ_ _ _ H _ I h=>p9 I hg hm hv ⟨v,H,I,r,h⟩ hn hd
variable{a b:Expr}{ta tb:TE}{pos:Pos}
def tB(t:TE):TT:=λσ H Q=>t σ H λx H1=>∃c,x= .bl c/\Q c H1
theorem a1L{e:Expr}{t:TE}(h:PE X e t)(he:∀whole,isTrue e X.env whole=(do let v <- whole;standAt e.pos;holding [v] (truthy v)):=by intro _;rfl):PT X e (tB t):=by
 intro pins s σ H Q I hw
 refine isTrue_plain (d8 (h pins s σ H _ I hw) λv s1 ⟨x,H1,I1,r1,q1⟩=>?_) (he _)
 obtain⟨d,rfl,q⟩:=q1
 cases r1
 exact a3o ⟨H1,I1,q⟩
variable{tA tB':TT}{rest:List Expr}
def a75(t u:TT):TT:=λσ H Q=>t σ H λc H1=>if c=true then u σ H1 Q else Q false H1
def a80(t u:TT):TT:=λσ H Q=>t σ H λc H1=>if c=true then Q true H1 else u σ H1 Q
def a79(t:TT):TT:=λσ H Q=>t σ H λc H1=>Q (!c) H1
theorem WB(ha:PT X a tA):PW X (.BoolOp .And [a] pos) tA:=by
 intro wh pins s σ H Q I h
 refine isTrue_and (d8 (ha pins s σ H Q I h) λc s1 e=>?_)
 cases c with
 |true=>exact isTrue_and_nil e
 |false=>exact e
theorem a1N(ha:PT X a tA):PW X (.BoolOp .Or [a] pos) tA:=by
 intro wh pins s σ H Q I h
 refine isTrue_or (d8 (ha pins s σ H Q I h) λc s1 e=>?_)
 cases c with
 |false=>exact isTrue_or_nil e
 |true=>exact e
theorem a1M(ha:PT X a tA)(hb:PW X (.BoolOp .And (b::rest) pos) tB'):PW X (.BoolOp .And (a::b::rest) pos) (a75 tA tB'):=by
 intro wh pins s σ H Q I h
 refine isTrue_and (d8 (ha pins s σ H _ I h) λc s1 ⟨H1,I1,q1⟩=>?_)
 cases c with
 |true=>exact hb wh pins s1 σ H1 Q I1 q1
 |false=>exact⟨H1,I1,q1⟩
theorem a4M(ha:PT X a tA)(hb:PW X (.BoolOp .Or (b::rest) pos) tB'):PW X (.BoolOp .Or (a::b::rest) pos) (a80 tA tB'):=by
 intro wh pins s σ H Q I h
 refine isTrue_or (d8 (ha pins s σ H _ I h) λc s1 ⟨H1,I1,q1⟩=>?_)
 cases c with
 |true=>exact⟨H1,I1,q1⟩
 |false=>exact hb wh pins s1 σ H1 Q I1 q1
theorem a1K(ha:PT X a tA):PT X (.UnaryOp .Not a pos) (a79 tA):=by
 intro pins s σ H Q I h
 exact isTrue_not (ha pins s σ H (λc H1=>Q (!c) H1) I h)
def a58(ta tb:TE):TE:=λσ H Q=>ta σ H λx H1=>∃c,x= .bl c/\if c=true then tb σ H1 Q else Q (.bl false) H1
def a5C(ta:TE):TE:=λσ H Q=>ta σ H λx H1=>∃c,x= .bl c/\Q (.bl (!c)) H1
theorem a19{op}{t:TE}(h:PE X a t):PE X (.BoolOp op [a] pos) t:=λpins s σ H Q I hw=>BoolOp_one (h pins s σ H Q I hw)
theorem a15(ha:PE X a ta)(hb:PE X (.BoolOp .And (b::rest) pos) tb):PE X (.BoolOp .And (a::b::rest) pos) (a58 ta tb):=by
 intro pins s σ H Q I h
 refine BoolOp_and (d8 (ha pins s σ H _ I h) λv s1 ⟨x,H1,I1,r1,q1⟩=>?_)
 obtain⟨c,rfl,q1⟩:=q1
 cases r1
 refine a3o ?_
 cases c with
 |true=>exact hb pins s1 σ H1 Q I1 q1
 |false=>exact⟨.bl false,H1,I1,rfl,q1⟩
theorem a18(ha:PE X a ta):PE X (.UnaryOp .Not a pos) (a5C ta):=by
 intro pins s σ H Q I h
 refine UnaryOp_ (d8 (ha pins s σ H _ I h) λv s1 ⟨x,H1,I1,r1,q1⟩=>?_)
 obtain⟨c,rfl,q1⟩:=q1
 cases r1
 exact not_of (a3o ⟨.bl (!c),H1,I1,rfl,q1⟩)
end
def dO (K:PySem.W.Frag) (H:Hp) (a:Addr) (xs:List V):Prop:=
 Rd H a (.lst xs)\/
  ∃(o:Obj) (its:Array Value) (n:Nat),K.lookup a=some o/\o.cls= .type "list"/\o.dict=none/\o.data= .seq its n/\its.size<=sizeLine/\bD xs its.toList
def eQ (K:PySem.W.Frag) (H:Hp) (a:Addr) (xs:List V):Prop:=
 Rd H a (.tup xs)\/
  ∃(o:Obj) (its:Array Value) (n:Nat),K.lookup a=some o/\o.cls= .type "tuple"/\o.data= .seq its n/\its.size<=sizeLine/\bD xs its.toList
def a6E:Value->Option V
 |.none=>some .non
 |.bool b=>some (.bl b)
 |.int i _=>some (.int i)
 |.str x _=>some (.str x)
 |.bytes b _=>some (.byt b)
 |.float b _=>some (.flt b)
 |.ref a=>some (.ref a)
 |.type n=>some (.ty n)
 |_=>none
theorem bQ.abs{x:V}{u:Value}(r:bQ x u):a6E u=some x:=by
 cases x with
 |non=>cases r;rfl
 |bl _=>cases r;rfl
 |int _=>obtain⟨t,rfl⟩:=r;rfl
 |str _=>obtain⟨t,rfl⟩:=r;rfl
 |byt _=>obtain⟨t,rfl⟩:=r;rfl
 |flt _=>obtain⟨t,rfl⟩:=r;rfl
 |ref _=>cases r;rfl
 |ty _=>cases r;rfl
theorem bQ.inj{x y:V}{u:Value}(r:bQ x u)(q:bQ y u):x=y:=a1i (r.abs.symm.trans q.abs)
theorem bD.inj:∀ {xs ys:List V} {us:List Value},bD xs us->bD ys us->xs=ys
 |_,_,_,.nil,.nil=>rfl
 |_,_,_,.cons r t,.cons r' t'=>by rw[r.inj r',bD.inj t t']
section
variable{X:Cx}{pins:List (Ac×Obj)}{σ:St}{H:Hp}{s:Ab}{a:Ac}{xs ys:List V}
theorem dO.of{K:Aa}(h:H a=some (.lst xs)):dO K H a xs:=.inl (.inl h)
theorem eQ.of{K:Aa}(h:H a=some (.tup xs)):eQ K H a xs:=.inl (.inl h)
theorem Inv.list (I:Inv X pins σ H s) (h:dO X.K H a xs):∃its:List Value,bD xs its/\PlainL s.heap a its.toArray/\xs.length<=sizeLine:=by
 rcases h with h|⟨o,its,n,hk,hc,hd,hs,hz,r⟩
 ·obtain⟨z,its,n,r,e⟩:=h.ok I.hok
  exact⟨its,r,⟨_,n,e,rfl,rfl,rfl⟩,z⟩
 ·refine⟨its.toList,r,⟨o,n,I.kIn a o hk,hc,hd,by simpa using hs⟩,?_⟩
  have e:=r.length
  simp only[a0w] at e
  omega
theorem Inv.tuple (I:Inv X pins σ H s) (h:eQ X.K H a xs):∃its:List Value,bD xs its/\IsTup s.heap a its.toArray/\xs.length<=sizeLine:=by
 rcases h with h|⟨o,its,n,hk,hc,hs,hz,r⟩
 ·obtain⟨z,its,r,p⟩:=h.ok I.hok
  exact⟨its,r,p,z⟩
 ·refine⟨its.toList,r,⟨o,I.kIn a o hk,hc,n,by simpa using hs⟩,?_⟩
  have e:=r.length
  simp only[a0w] at e
  omega
theorem Inv.list_inj(I:Inv X pins σ H s)(h:dO X.K H a xs)(h':dO X.K H a ys):xs=ys:=by
 obtain⟨its,r,⟨o,n,e,_,_,d⟩,_⟩:=I.list h
 obtain⟨its',r',⟨o',n',e',_,_,d'⟩,_⟩:=I.list h'
 rw[e] at e';cases e'
 rw[d] at d'
 injection d' with d1 _
 have:its=its':=by simpa using congrArg Array.toList d1
 subst this
 exact r.inj r'
theorem Inv.tuple_inj(I:Inv X pins σ H s)(h:eQ X.K H a xs)(h':eQ X.K H a ys):xs=ys:=by
 obtain⟨its,r,⟨o,e,_,n,d⟩,_⟩:=I.tuple h
 obtain⟨its',r',⟨o',e',_,n',d'⟩,_⟩:=I.tuple h'
 rw[e] at e';cases e'
 rw[d] at d'
 injection d' with d1 _
 have:its=its':=by simpa using congrArg Array.toList d1
 subst this
 exact r.inj r'
end
abbrev Cx.wish(X:Cx)(E:Value->Ab->Prop):Cx:={X with xe:=E}
abbrev Cx.nox(X:Cx):Cx:=X.wish λ_ _=>False
theorem Cx.Ok.wish{X:Cx}(ok:X.Ok)(E:Value->Shared->Prop):(X.wish E).Ok:=
 ⟨ok.mod,ok.kind,ok.glob,ok.blt,ok.above,ok.inj,ok.has,ok.cab,ok.hd,ok.frames,ok.stk,ok.exf,ok.bs,ok.bsz,ok.noex,ok.exfs,ok.funs,ok.frf,ok.tb⟩
theorem Cx.Ok.unwish{X:Cx}{E:Value->Shared->Prop}(ok:(X.wish E).Ok):X.Ok:=
 ⟨ok.mod,ok.kind,ok.glob,ok.blt,ok.above,ok.inj,ok.has,ok.cab,ok.hd,ok.frames,ok.stk,ok.exf,ok.bs,ok.bsz,ok.noex,ok.exfs,ok.funs,ok.frf,ok.tb⟩
section
variable{X:Cx}{pins:List (Ac×Obj)}{σ:St}{H:Hp}{s:Ab}{E:Value->Ab->Prop}
theorem Inv.wish(I:Inv X pins σ H s)(E:Value->Ab->Prop):Inv (X.wish E) pins σ H s:=⟨I.ok.wish E,I.os,I.bare,I.base,I.loc,I.cell,I.free,I.freeC,I.pin,I.hok,I.len⟩
theorem Inv.unwish(I:Inv (X.wish E) pins σ H s):Inv X pins σ H s:=⟨I.ok.unwish,I.os,I.bare,I.base,I.loc,I.cell,I.free,I.freeC,I.pin,I.hok,I.len⟩
theorem SP.unwish{D:Ends}{f:Flow}{s':Shared}(h:SP (X.wish E) pins D f s'):SP X pins D f s':=by
 cases f with
 |next=>obtain⟨σ',H',I,q⟩:=h;exact⟨σ',H',I.unwish,q⟩
 |brk=>obtain⟨σ',H',I,q⟩:=h;exact⟨σ',H',I.unwish,q⟩
 |cont=>obtain⟨σ',H',I,q⟩:=h;exact⟨σ',H',I.unwish,q⟩
 |ret u=>obtain⟨v,σ',H',I,r,q⟩:=h;exact⟨v,σ',H',I.unwish,r,q⟩
theorem zH.nox{st:List Stmt}{t:TS}(h:zH X.nox st t):zH X st t:=λpins s σ H D I hw=>
 a1j (h pins s σ H D (I.wish _) hw) (λ_ _ q=>q.unwish) λ_ _ z=>False.elim z
end
section
variable{X:Cx}{st:Stmt}{rest:List Stmt}{t u:TS}{e:Expr}{te:TE}{pos:Pos}
def KN:TS:=λD σ H=>D.nx σ H
def X7(t u:TS):TS:=λD σ H=>t {D with nx:=u D} σ H
theorem K6:zH X [] KN:=λ_ _ σ H _ I h=>a6x ⟨σ,H,I,h⟩
theorem F2 (h1:PS X st t) (h2:zH X rest u):zH X (st::rest) (X7 t u):=by
 intro pins s σ H D I h
 refine wpAny_execs_cons (d8 (h1 pins s σ H {D with nx:=u D} I h) λf s1 q=>?_)
 cases f with
 | next=>
  obtain⟨σ',H',I',q⟩:=q
  exact h2 pins s1 σ' H' D I' q
 |ret v=>exact q
 |brk=>exact q
 |cont=>exact q
theorem K7(h1:PS X st t):zH X [st] t:=by
 intro pins s σ H D I h
 refine wpAny_execs_cons (d8 (h1 pins s σ H D I h) λf s1 q=>?_)
 cases f with
 |next=>exact a6x q
 |ret v=>exact q
 |brk=>exact q
 |cont=>exact q
theorem Inv.quiet{pins:List (Ac×Obj)}{σ:St}{H:Hp}{s:Ab}(I:Inv X pins σ H s):interactive X.env=false:=by simp[interactive,I.ok.kind]
def a5B(te:TE):TS:=λD σ H=>te σ H λ_ H1=>D.nx σ H1
theorem W7(he:PE X e te)(hs:swapsWith e none pos.line X.env=pure false:=by rfl):PS X (.Expr e pos) (a5B te):=by
 intro pins s σ H D I h
 exact wpAny_Expr_any (d8 (he pins s σ H _ I h) λv s1 ⟨x,H1,I1,r1,q1⟩=>⟨σ,H1,I1,q1⟩) I.quiet hs
def X6(te:TE):TS:=λD σ H=>te σ H D.rt
theorem HZ(he:PE X e te):PS X (.Return (some e) pos) (X6 te):=by
 intro pins s σ H D I h
 exact wpAny_Return_some (d8 (he pins s σ H _ I h) λv s1 ⟨x,H1,I1,r1,q1⟩=>⟨x,σ,H1,I1,r1,q1⟩)
def X1(c:TT)(t u:TS):TS:=λD σ H=>c σ H λb H1=>if b=true then t D σ H1 else u D σ H1
theorem Y5{c:Expr}{a b:List Stmt}{tc:TT}(hc:PT X c tc)(ha:zH X a t)(hb:zH X b u):PS X (.If c a b pos) (X1 tc t u):=by
 intro pins s σ H D I h
 refine wpAny_If (d8 (hc pins s σ H _ I h) λd s1 ⟨H1,I1,q1⟩=>?_)
 cases d with
 |true=>exact ha pins s1 σ H1 D I1 q1
 |false=>exact hb pins s1 σ H1 D I1 q1
end
abbrev TG:=V->St->Hp->(St->Hp->Prop)->Prop
abbrev T5:=List V->St->Hp->(St->Hp->Prop)->Prop
def PG (X:Cx) (target:Expr) (t:TG):Prop:=
 ∀ (pins:List (Addr×Obj)) (s:Shared) (σ:St) (H:Hp) (v:V) (u:Value) (Q:St->Hp->Prop),Inv X pins σ H s->bQ v u->t v σ H Q->
  wpAny (model X.prog X.w) X.A (assign target X.env u) (λ_ s'=>∃σ' H',Inv X pins σ' H' s'/\Q σ' H') X.xe s
def XN (X:Cx) (ts:List Expr) (t:T5):Prop:=
 ∀ (pins:List (Addr×Obj)) (s:Shared) (σ:St) (H:Hp) (vs:List V) (us:List Value) (Q:St->Hp->Prop),Inv X pins σ H s->bD vs us->t vs σ H Q->
  wpAny (model X.prog X.w) X.A (assignInOrder ((assignEach ts X.env).map (·.2)) us) (λ_ s'=>∃σ' H',Inv X pins σ' H' s'/\Q σ' H') X.xe s
abbrev GJ:=V->V->V->Hp->(Hp->Prop)->Prop
def YE (X:Cx) (t:GJ):Prop:=
 ∀ (pins:List (Addr×Obj)) (s:Shared) (σ:St) (H:Hp) (o i v:V) (ov iv u:Value) (Q:Hp->Prop),Inv X pins σ H s->bQ o ov->bQ i iv->bQ v u->t o i v H Q->
  wpAny (model X.prog X.w) X.A (setItem ov iv u) (λ_ s'=>∃H',Inv X pins σ H' s'/\Q H') X.xe s
section
variable{X:Cx}{pos:Pos}
def l6(i:Nat):TG:=λv σ H Q=>Q (σ.set i (some v)) H
theorem vD{i:Nat}{x:Str}(hN:X.N.Nodup)(hi:X.N[i]? =some x)(hx:KY X.env.scope x)(hf:X.fn x=true\/X.env.scope.names.lookup x=some .local:=by first|exact .inl rfl|exact .inr rfl|assumption):PG X (.Name x pos) (l6 i):=by
 intro pins s σ H v u Q I r h
 exact wpAny_assign_Name (rZ I hN hi hx r (λs' I'=>⟨_,H,I',h⟩) hf)
def a6N:T5:=λvs σ H Q=>vs=[]/\Q σ H
def a3S(t:TG)(u:T5):T5:=λvs σ H Q=>∃v r,vs=v::r/\t v σ H λσ' H'=>u r σ' H' Q
theorem K2:XN X [] a6N:=by
 intro pins s σ H vs us Q I r h
 obtain⟨e,h⟩:=h
 subst e
 cases r
 exact assignInOrder_nil ⟨σ,H,I,h⟩
theorem xB {e:Expr} {es:List Expr} {t:TG} {u:T5} (h1:PG X e t) (h2:XN X es u)
  (hs:(assignEach (e::es) X.env).map (·.2)=assign e X.env::(assignEach es X.env).map (·.2):=by rfl):XN X (e::es) (a3S t u):=by
 intro pins s σ H vs us Q I r h
 obtain⟨v,vr,e1,h⟩:=h
 subst e1
 cases r with
 | cons r rr=>
  rw[hs]
  refine assignInOrder_cons (d8 (h1 pins s σ H _ _ _ I r h) λ_ s1 ⟨σ1,H1,I1,q1⟩=>?_)
  exact h2 pins s1 σ1 H1 _ _ Q I1 rr q1
def a6O(K:Aa)(n:Nat)(t:T5):TG:=λv σ H Q=>∃a xs,v= .ref a/\eQ K H a xs/\xs.length=n/\t xs σ H Q
theorem QV {es:List Expr} {k:Nat} {t:T5} {n:Nat} (hc:X.calm=true) (h:XN X es t)
  (hn:(assignEach es X.env).length=n:=by rfl) (hst:(assignEach es X.env).findIdx? (·.1)=none:=by rfl):PG X (.Tuple es k pos) (a6O X.K n t):=by
 intro pins s σ H v u Q I r hw
 obtain⟨a,xs,e1,hq,hl,hw⟩:=hw
 subst e1
 cases r
 obtain⟨its,rv,ht,hz⟩:=I.tuple hq
 refine assign_Tuple_tuple (I.ok.hd hc) ht (by simp[hn,<- hl,rv.length]) hst λh' hx=>?_
 have I1:Inv X pins σ H {s with heap:=h'}:=I.kept (t':=s.toks) λb o e=>hx b o (a0x (a0q e)) e
 exact h pins _ σ H xs _ Q I1 (by simpa using rv) hw
def P0(to ti:TE)(t:GJ):TG:=λv σ H Q=>to σ H λo H1=>ti σ H1 λi H2=>t o i v H2 λH3=>Q σ H3
theorem C7 {o i:Expr} {to ti:TE} {t:GJ} (ho:PE X o to) (hi:PE X i ti) (hs:YE X t)
  (ha:∀v,assign (.Subscript o i pos) X.env v=(do
   let ov <- holding [v] (eval o X.env)
   let iv <- holding [v,ov] (eval i X.env)
   standAt pos
   holding [v,ov,iv] (setItem ov iv v)
   release [v,ov,iv] []):=by intro _;rfl):PG X (.Subscript o i pos) (P0 to ti t):=by
 intro pins s σ H v u Q I r h
 rw[ha]
 refine a0b (a2e (d8 (ho pins s σ H _ I h) λov s1 ⟨x,H1,I1,r1,q1⟩=>?_))
 refine a0b (a2e (d8 (hi pins s1 σ H1 _ I1 q1) λiv s2 ⟨y,H2,I2,r2,q2⟩=>?_))
 refine a0b (a2y (a0b (a2e (d8 (hs pins s2 σ H2 x y v ov iv u _ I2 r1 r2 r q2) λ_ s3 ⟨H3,I3,q3⟩=>?_))))
 exact wpAny_release ⟨σ,H3,I3,q3⟩
def FR(te:TE)(g:TG):TS:=λD σ H=>te σ H λx H1=>g x σ H1 D.nx
theorem C9 {tg e:Expr} {te:TE} {g:TG} (he:PE X e te) (hg:PG X tg g) (hs:swapsWithSole [tg] e pos.line X.env=pure false:=by rfl) (hw:swappedStores [tg] e X.env=pure none:=by rfl)
  (h1:(assignEach [tg] X.env).map (·.2)=[assign tg X.env]:=by rfl):PS X (.Assign [tg] e pos) (FR te g):=by
 intro pins s σ H D I h
 refine wpAny_Assign_stores (d8 (he pins s σ H _ I h) λv s1 ⟨x,H1,I1,r1,q1⟩=>?_) hs hw
 rw[h1]
 exact d8 (hg pins s1 σ H1 x v _ I1 r1 q1) λ_ s2 q=>q
theorem R7 {i:Nat} {x:Str} {e:Expr} {te:TE} {pos':Pos} (hN:X.N.Nodup) (hi:X.N[i]? =some x) (hx:KY X.env.scope x) (he:PE X e te) (hs:swapsWith e (some (.Name x pos')) pos.line X.env=pure false:=by rfl) (hf:X.fn x=true\/X.env.scope.names.lookup x=some .local:=by first|exact .inl rfl|exact .inr rfl|assumption) :
  PS X (.Assign [.Name x pos'] e pos) (FR te (l6 i)):=by
 intro pins s σ H D I h
 refine wpAny_Assign_Name (d8 (he pins s σ H _ I h) λv s1 ⟨y,H1,I1,r1,q1⟩=>?_) hs
 exact rZ I1 hN hi hx r1 (λs2 I2=>⟨_,H1,I2,q1⟩) hf
def a7B(i j:Nat)(ta:TA):TS:=λD σ H=>ta σ H λvs H1=>∃v w,vs=[v,w]/\D.nx ((σ.set i (some v)).set j (some w)) H1
theorem a1J {i j:Nat} {x y:Str} {a b:Expr} {ta:TA} {px py pt:Pos} {kt k2 pt2} (hc:X.calm=true) (hN:X.N.Nodup) (hi:X.N[i]? =some x) (hj:X.N[j]? =some y) (hij:i≠j)
  (hx:X.env.scope.names.lookup x=some .local) (hy:X.env.scope.names.lookup y=some .local) (ha:PA X [a,b] ta)
  (hw:swappedStores [.Tuple [.Name x px,.Name y py] kt pt] (.Tuple [a,b] k2 pt2) X.env=pure (some [x,y]))
  (hs:swapsWithSole [.Tuple [.Name x px,.Name y py] kt pt] (.Tuple [a,b] k2 pt2) pos.line X.env=pure false:=by rfl) :
  PS X (.Assign [.Tuple [.Name x px,.Name y py] kt pt] (.Tuple [a,b] k2 pt2) pos) (a7B i j ta):=by
 intro pins s σ H D I h
 rw[exec_Assign_arm]
 refine a0b (a2y ?_)
 rw[hs]
 refine a0b (a0d ?_)
 rw[if_neg (by decide)]
 refine a0b (Tuple_ (d8 (ha _ pins s σ H _ I h) λus s1 ⟨vs,H1,I1,r1,q1⟩=>?_))
 obtain⟨v,w,e1,q1⟩:=q1
 subst e1
 obtain ⟨u1,u2,rfl,rv,rw'⟩ : ∃u1 u2,us=[u1,u2]/\bQ v u1/\bQ w u2:=by
  cases r1 with
  | cons p q=>
   cases q with
   | cons p' q'=>
    cases q'
    exact⟨_,_,rfl,p,p'⟩
 refine a2b ?_ (by show 2<=sizeLine;decide)
 have I2:Inv X pins σ H1 {s1 with heap:=s1.heap.push {cls:=.type "tuple",data:=.seq [u1,u2].toArray} }:=I1.kept (t':=s1.toks) λb o e=>a0f _ e
 rw[hw]
 refine a0b (a0d ?_)
 show wpAny (model X.prog X.w) X.A (do rule "assign.swapped-stores";let items <- unpackItems (.ref s1.heap.objs.size) 2 none;assignInOrder [λv=>bindName X.env y v,λv=>bindName X.env x v] items.reverse;pure Flow.next) _ _ _
 refine a0b (a3q (a0b (unpackItems_tuple (items:=#[u1,u2]) (I.ok.hd hc) (IsTup.new s1.heap _) λh' hx'=>?_)))
 have I3:=I2.kept (h':=h') (t':=s1.toks) λb o e=>hx' b o (a0x (a0q e)) e
 show wpAny _ _ (assignInOrder [λv=>bindName X.env y v,λv=>bindName X.env x v] [u2,u1] >>=λ_=>pure Flow.next) _ _ _
 refine a0b (assignInOrder_cons (wpAny_bindName (rZ I3 hN hj (.inl hy) rw' (λs2 I4=>?_) (.inr hy))))
 refine assignInOrder_cons (wpAny_bindName (rZ I4 hN hi (.inl hx) rv (λs3 I5=>assignInOrder_nil (a0d ?_)) (.inr hx)))
 rw[List.set_comm _ _ (a3b hij)] at I5
 exact⟨_,H1,I5,q1⟩
end
section
variable{X:Cx}{pos:Pos}
def a2J(c:TT)(tb:TS):TS:=λD σ H=>∃W:Nat->St->Hp->Prop,(∃m,W m σ H)/\∀m σ H,W m σ H->
 c σ H λb H1=>if b=true then ∃N:St->Hp->Prop,(∀σ' H',N σ' H'->∃m',m'<m/\W m' σ' H')/\tb {D with nx:=N,ct:=N,bk:=D.nx} σ H1 else D.nx σ H1
theorem R8 {c:Expr} {body:List Stmt} {tc:TT} {tb:TS} (hp:PassesOwn (model X.prog X.w) X.A X.env X.xe) (hc:PT X c tc) (hb:zH X body tb):PS X (.While c body [] pos) (a2J tc tb):=by
 intro pins s σ H D I h
 obtain⟨W,⟨m0,w0⟩,turn⟩:=h
 refine wpAny_While (codeAny_whileLoop (λn s'=>∃σ' H',Inv X pins σ' H' s'/\W n σ' H') ?_ m0 ⟨σ,H,I,w0⟩)
 rintro n s1 ⟨σ1,H1,I1,w1⟩
 refine a4n hp (d8 (hc pins s1 σ1 H1 _ I1 (turn n σ1 H1 w1)) λb s2 ⟨H2,I2,q2⟩=>?_)
 cases b with
 | true=>
  obtain⟨N,hN,q2⟩:=q2
  rw[if_pos rfl]
  refine a4n hp (d8 (hb pins s2 σ1 H2 _ I2 q2) λf s3 q3=>?_)
  cases f with
  | next=>
   obtain⟨σ3,H3,I3,n3⟩:=q3
   obtain⟨m',hm,w3⟩:=hN σ3 H3 n3
   exact⟨m',hm,σ3,H3,I3,w3⟩
  | cont=>
   obtain⟨σ3,H3,I3,n3⟩:=q3
   obtain⟨m',hm,w3⟩:=hN σ3 H3 n3
   exact⟨m',hm,σ3,H3,I3,w3⟩
  |brk=>exact q3
  |ret v=>exact q3
 | false=>
  rw[if_neg a0m]
  exact a6x ⟨σ1,H2,I2,q2⟩
end
structure It where
 go:Nat->Hp->Prop
 yld:Nat->Hp->V->Hp->Prop
 stop:Nat->Hp->Prop
def iY(X:Cx)(pins:List (Addr×Obj))(H:Hp)(b:Addr):Prop:=
 H b=none/\b≠X.env.locals/\b∉X.fs/\(b∈X.ex\/X.s₀.heap.objs.size<=b)/\(∀x c,X.env.cells.lookup x=some c->c≠b)/\∀p∈X.pn++pins,p.1≠b
theorem Inv.fpOk {X:Cx} {pins:List (Addr×Obj)} {σ:St} {H H':Hp} {s:Shared} {b:Addr} (I:Inv X pins σ H s) (hb:s.heap.objs.size<=b) (hn:H' b=none):iY X pins H' b:=by
 refine⟨hn,a4t (a0z I.lt hb),I.nofs hb,.inr (a1b I.sz hb),λx c e z=>?_,λp hp z=>?_⟩
 ·obtain⟨v,q⟩:=I.cell x c e
  exact absurd (a0z q.lt (by rw[z];exact hb)) (a5n _)
 ·exact absurd (a0z (a0q (I.pin p hp).1) (by rw[z];exact hb)) (a5n _)
structure Turn (P:Program) (w:World) (K:PySem.W.Frag) (tg:Expr) (J:It) (fp:List Addr) (it:Addr) (tn:Nat->Heap->Prop):Prop where
 mem:it∈fp
 obj:∀i h,tn i h->∀b∈fp,∃o,h.get? b=some o/\∀v,o.data≠ .cell v
 keep:∀i h h',tn i h->(∀b∈fp,∀o,h.get? b=some o->h'.get? b=some o)->tn i h'
 item:∀(X:Cx),X.prog=P->X.w=w->X.K=K->X.calm=true->∀(i:Nat) (pins:List (Addr×Obj)) (s:Shared) (σ:St) (H:Hp) (E:Value->Shared->Prop),Inv X pins σ H s->(∀b∈fp,iY X pins H b)->tn i s.heap->J.go i H->
  wpAny (model P w) X.A (pyNext (.ref it)) (λr s1=>∃u,r=some u/\
   wpAny (model P w) X.A (letOwnedTupleGo tg (.ref it) u) (λ_ s2=>∃x H',Inv X pins σ H' s2/\bQ x u/\J.yld i H x H'/\tn (i+1) s2.heap/\∀b∈fp,H' b=none) E s1) E s
 done:∀(X:Cx),X.prog=P->X.w=w->X.K=K->X.calm=true->∀(i:Nat) (pins:List (Addr×Obj)) (s:Shared) (σ:St) (H:Hp) (E:Value->Shared->Prop),Inv X pins σ H s->(∀b∈fp,iY X pins H b)->tn i s.heap->J.stop i H->
  wpAny (model P w) X.A (pyNext (.ref it)) (λr s1=>r=none/\Inv X pins σ H s1) E s
 self:∀(A:Around) (i:Nat) (s:Ab) (Q:Value->Ab->Prop) (E:Value->Ab->Prop),tn i s.heap->Q (.ref it) s->wpAny (model P w) A (pyIter (.ref it)) Q E s
abbrev TI:=St->Hp->(It->Hp->Prop)->Prop
def a7I(X:Cx)(pins:List (Addr×Obj))(σ:St)(tg:Expr)(R:It->Hp->Prop)(itv:Value)(s2:Shared):Prop:=
 ∃(it:Ac) (fp:List Ac) (tn:Nat->Heap->Prop) (J:It) (H':Hp),itv= .ref it/\Inv X pins σ H' s2/\Turn X.prog X.w X.K tg J fp it tn/\tn 0 s2.heap/\(∀b∈fp,iY X pins H' b)/\R J H'
def PI (X:Cx) (tg iter:Expr) (wi:TI):Prop:=
 ∀ (pins:List (Addr×Obj)) (s:Shared) (σ:St) (H:Hp) (R:It->Hp->Prop),Inv X pins σ H s->wi σ H R->
  wpAny (model X.prog X.w) X.A (eval iter X.env) (λv s1=>wpAny (model X.prog X.w) X.A (pyIter v) (a7I X pins σ tg R) X.xe s1) X.xe s
theorem P5 {M:Model} {A:Around} {E:Value->Shared->Prop} {s:Shared} {tg:Expr} {it:Addr} {u:Value} {o:Obj} {n:String} {vs:Array Value} {Q:Unit->Shared->Prop} (ho:s.heap.get? it=some o) (hc:o.cls= .type n) (hd:o.data= .fields vs)
    (hn:["enumerate", "zip", "dict_itemiterator", "dict_reverseitemiterator", "odict_iterator", "itertools.zip_longest", "itertools.pairwise"].contains n=false) (hQ:Q () s):wpAny M A (letOwnedTupleGo tg (.ref it) u) Q E s:=by
  unfold letOwnedTupleGo
  cases tg <;>first
    |exact a0d hQ
    | (cases u<;>first
        |exact a0d hQ
        | (refine a0b (wpAny_load ho ?_)
           rw[hc,hd]
           show wpAny M A (if (["enumerate", "zip", "dict_itemiterator", "dict_reverseitemiterator", "odict_iterator", "itertools.zip_longest", "itertools.pairwise"].contains n&&vs[0]? ==some (rawInt _))=true then _ else _) Q E s
           rw[if_neg (by intro h;rw[hn,a6u] at h;cases h)]
           exact a0d hQ))
def a67(K:PySem.W.Frag)(a:Addr):It:=
 ⟨λi H=>∃xs x,dO K H a xs/\xs[i]? =some x,λi H x H'=>H'=H/\∀xs,dO K H a xs->xs[i]? =some x,λi H=>∃xs,dO K H a xs/\xs.length<=i⟩
def a68(K:PySem.W.Frag)(a:Addr):It:=
 ⟨λi H=>∃xs x,eQ K H a xs/\xs[i]? =some x,λi H x H'=>H'=H/\∀xs,eQ K H a xs->xs[i]? =some x,λi H=>∃xs,eQ K H a xs/\xs.length<=i⟩
def T1(lo:Int)(n:Nat):It:=⟨λi _=>i<n,λi H x H'=>H'=H/\x= .int (lo+i),λi _=>n<=i⟩
theorem MV {P:Program} {w:World} {K:PySem.W.Frag} {tg:Expr} (a it:Addr):Turn P w K tg (a67 K a) [it] it (λi h=>h.IsListIter it a i) where
 mem:=by simp
 obj:=λi h st b hb=>by
  have e:b=it:=by simpa using hb
  subst e
  obtain⟨o,e,c,d⟩:=st
  exact⟨o,e,λv z=>by rw[d] at z;cases z⟩
 keep:=λi h h' st k=>st.at λo e=>k it (by simp) o e
 item:=by
  intro X hP hw hK hc i pins s σ H E I hf st hg
  subst hP hw hK
  obtain⟨xs,x,hq,hx⟩:=hg
  obtain⟨its,rv,p,hz⟩:=I.list hq
  obtain⟨u,hu,ru⟩:=rv.get hx
  obtain⟨f0,f1,f2,f3,f4,f5⟩:=hf it (by simp)
  refine wpAny_pyNext_list_item st p.isList (x:=u) (by simpa using hu) λh' st' sb=>?_
  have I1:Inv X pins σ H {s with heap:=h'}:=I.turned (t':=s.toks) (λb o hb e=>(sb.2 b hb).trans e) f0 f1 f3 f4 f5
  obtain⟨o,e,c,d⟩:=id st'
  exact⟨u,rfl,P5 (s:={s with heap:=h'}) e c d (by decide) ⟨x,H,I1,ru,⟨rfl,λys hy=>by rw[I.list_inj hy hq];exact hx⟩,st',λb hb=>(hf b hb).1⟩⟩
 done:=by
  intro X hP hw hK hc i pins s σ H E I hf st hg
  subst hP hw hK
  obtain⟨xs,hq,hx⟩:=hg
  obtain⟨its,rv,p,hz⟩:=I.list hq
  obtain⟨f0,f1,f2,f3,f4,f5⟩:=hf it (by simp)
  have hl:=rv.length
  exact wpAny_pyNext_list_end (I.ok.hd hc) st p.isList (by simp;omega) λh' eb=>⟨rfl,I.turned (t':=s.toks) (λb o hb e=>eb b o hb e) f0 f1 f3 f4 f5⟩
 self:=λ_ _ _ _ _ st h=>wpAny_pyIter_listiter st h
theorem IL {P:Program} {w:World} {K:PySem.W.Frag} {tg:Expr} (a it:Addr):Turn P w K tg (a68 K a) [it] it (λi h=>h.IsTupleIter it a i) where
 mem:=by simp
 obj:=λi h st b hb=>by
  have e:b=it:=by simpa using hb
  subst e
  obtain⟨o,e,c,d⟩:=st
  exact⟨o,e,λv z=>by rw[d] at z;cases z⟩
 keep:=λi h h' st k=>st.at λo e=>k it (by simp) o e
 item:=by
  intro X hP hw hK hc i pins s σ H E I hf st hg
  subst hP hw hK
  obtain⟨xs,x,hq,hx⟩:=hg
  obtain⟨its,rv,p,hz⟩:=I.tuple hq
  obtain⟨u,hu,ru⟩:=rv.get hx
  obtain⟨f0,f1,f2,f3,f4,f5⟩:=hf it (by simp)
  refine wpAny_pyNext_tuple_item st (show s.heap.IsTuple a its.toArray from p) (x:=u) (by simpa using hu) λh' st' sb=>?_
  have I1:Inv X pins σ H {s with heap:=h'}:=I.turned (t':=s.toks) (λb o hb e=>(sb.2 b hb).trans e) f0 f1 f3 f4 f5
  obtain⟨o,e,c,d⟩:=id st'
  exact⟨u,rfl,P5 (s:={s with heap:=h'}) e c d (by decide) ⟨x,H,I1,ru,⟨rfl,λys hy=>by rw[I.tuple_inj hy hq];exact hx⟩,st',λb hb=>(hf b hb).1⟩⟩
 done:=by
  intro X hP hw hK hc i pins s σ H E I hf st hg
  subst hP hw hK
  obtain⟨xs,hq,hx⟩:=hg
  obtain⟨its,rv,p,hz⟩:=I.tuple hq
  obtain⟨f0,f1,f2,f3,f4,f5⟩:=hf it (by simp)
  have hl:=rv.length
  exact wpAny_pyNext_tuple_end (I.ok.hd hc) st (show s.heap.IsTuple a its.toArray from p) (by simp;omega) λh' eb=>⟨rfl,I.turned (t':=s.toks) (λb o hb e=>eb b o hb e) f0 f1 f3 f4 f5⟩
 self:=λ_ _ _ _ _ st h=>wpAny_pyIter_tupleiter st h
theorem IK {P:Program} {w:World} {K:PySem.W.Frag} {tg:Expr} (it:Addr) (lo:Int) (n:Nat):Turn P w K tg (T1 lo n) [it] it (λi h=>IsRangeIter h it (lo+(i:Nat)*1) ((n:Int)-(i:Nat)) 1) where
 mem:=by simp
 obj:=λi h st b hb=>by
  have e:b=it:=by simpa using hb
  subst e
  exact ⟨_,st,λv z=>by
   have z':Data.fields _=Data.cell v:=z
   cases z'⟩
 keep:=λi h h' st k=>k it (by simp) _ st
 item:=by
  intro X hP hw hK hc i pins s σ H E I hf st hg
  subst hP hw hK
  obtain⟨f0,f1,f2,f3,f4,f5⟩:=hf it (by simp)
  have W:=Walks.range (prog:=X.prog) (w:=X.w) (I.ok.hd hc) it lo 1 n
  refine W.item i s _ _ hg st λv h' tk hv st' kk=>?_
  obtain⟨t,rfl⟩:=hv
  have I1:Inv X pins σ H {s with heap:=h',toks:=tk}:=I.turned (λb o hb e=>kk b o (by simpa using hb) e) f0 f1 f3 f4 f5
  refine⟨_,rfl,P5 (s:={s with heap:=h',toks:=tk}) (n:="range_iterator") st' rfl rfl (by decide) ⟨.int (lo+i),H,I1,⟨t,?_⟩,⟨rfl,rfl⟩,st',λb hb=>(hf b hb).1⟩⟩
  rw[a6w]
 done:=by
  intro X hP hw hK hc i pins s σ H E I hf st hg
  subst hP hw hK
  obtain⟨f0,f1,f2,f3,f4,f5⟩:=hf it (by simp)
  exact wpAny_pyNext_range_end (I.ok.hd hc) st (by have:n<=i:=hg;omega) λh' eb=>⟨rfl,I.turned (t':=s.toks) (λb o hb e=>eb b o hb e) f0 f1 f3 f4 f5⟩
 self:=λ_ _ _ _ _ st h=>wpAny_pyIter_rangeiter st h
section
variable{X:Cx}{tg:Expr}
def a3U(K:Aa)(tl:TE):TI:=λσ H R=>tl σ H λx H1=>∃a,x= .ref a/\(∃xs,dO K H1 a xs)/\R (a67 K a) H1
def a6P(K:Aa)(tl:TE):TI:=λσ H R=>tl σ H λx H1=>∃a,x= .ref a/\(∃xs,eQ K H1 a xs)/\R (a68 K a) H1
theorem K4{l:Expr}{tl:TE}(hl:PE X l tl):PI X tg l (a3U X.K tl):=by
 intro pins s σ H R I h
 refine d8 (hl pins s σ H _ I h) λv s1 ⟨x,H1,I1,r1,q1⟩=>?_
 obtain⟨a,e,⟨xs,hq⟩,q⟩:=q1
 subst e
 cases r1
 obtain⟨its,rv,p,hz⟩:=I1.list hq
 refine wpAny_pyIter_list p.isList ?_
 refine⟨s1.heap.objs.size,[s1.heap.objs.size],_,_,H1,rfl,I1.kept (t':=s1.toks) λb o e=>a0f _ e,MV a _,⟨_,a1e _ rfl,rfl,rfl⟩,λb hb=>?_,q⟩
 have e:b=s1.heap.objs.size:=by simpa using hb
 subst e
 exact I1.fpOk (a0o _) (I1.hok.fresh (a0o _))
theorem a1F{l:Expr}{tl:TE}(hl:PE X l tl):PI X tg l (a6P X.K tl):=by
 intro pins s σ H R I h
 refine d8 (hl pins s σ H _ I h) λv s1 ⟨x,H1,I1,r1,q1⟩=>?_
 obtain⟨a,e,⟨xs,hq⟩,q⟩:=q1
 subst e
 cases r1
 obtain⟨its,rv,p,hz⟩:=I1.tuple hq
 refine wpAny_pyIter_tuple (show s1.heap.IsTuple a its.toArray from p) ?_
 refine⟨s1.heap.objs.size,[s1.heap.objs.size],_,_,H1,rfl,I1.kept (t':=s1.toks) λb o e=>a0f _ e,IL a _,⟨_,a1e _ rfl,rfl,rfl⟩,λb hb=>?_,q⟩
 have e:b=s1.heap.objs.size:=by simpa using hb
 subst e
 exact I1.fpOk (a0o _) (I1.hok.fresh (a0o _))
theorem RP {pins:List (Addr×Obj)} {σ:St} {H:Hp} {s:Shared} {R:It->Hp->Prop} {E:Value->Shared->Prop} {lo hi:Int} {t u v:Tok} {tk:Nat} (I:Inv X pins σ H s) (h1:-(2^62)<=lo) (h2:lo<2^62) (h3:-(2^62)<=hi) (h4:hi<2^62)
  (q:R (T1 lo (hi-lo).toNat) H):wpAny (model X.prog X.w) X.A (pyIter (.ref s.heap.objs.size)) (a7I X pins σ tg R) E {s with heap:=s.heap.push {cls:=.type "range",data:=.fields #[.int lo t,.int hi u,.int 1 v]},toks:=tk}:=by
 refine wpAny_pyIter_range (IsRange.new ..) (small_one h1 h2 h3 h4) ?_
 have I1:Inv X pins σ H {s with heap:=s.heap.push {cls:=.type "range",data:=.fields #[.int lo t,.int hi u,.int 1 v]},toks:=tk}:=I.kept λb o e=>a0f _ e
 refine ⟨(s.heap.push {cls:=.type "range",data:=.fields #[.int lo t,.int hi u,.int 1 v]}).objs.size,[(s.heap.push {cls:=.type "range",data:=.fields #[.int lo t,.int hi u,.int 1 v]}).objs.size],_,_,H,rfl,
  I1.kept (t':=tk) λb o e=>a0f _ e,IK _ lo (hi-lo).toNat,?_,λb hb=>?_,q⟩
 ·have e1:lo+((0:Nat):Int)*1=lo:=by simp
  have e2:(((hi-lo).toNat:Nat):Int)-((0:Nat):Int)=Builtin.Range.rangeSize lo hi 1:=by rw[rangeSize_one];split<;>omega
  show IsRangeIter _ _ (lo+((0:Nat):Int)*1) ((((hi-lo).toNat:Nat):Int)-((0:Nat):Int)) 1
  rw[e1,e2]
  exact a1e _ rfl
 ·have e:b=(s.heap.push {cls:=.type "range",data:=.fields #[.int lo t,.int hi u,.int 1 v]}).objs.size:=by simpa using hb
  subst e
  exact I1.fpOk (a0o _) (I1.hok.fresh (a0o _))
def JL(ta:TA):TI:=λσ H R=>ta σ H λvs H1=>∃j:Int,vs=[.int j]/\-(2^62)<=j/\j<2^62/\R (T1 0 j.toNat) H1
theorem AD {a:Expr} {ta:TA} {p pos:Pos} (hg:Gl X "range") (hm:X.mg "range"=none) (ha:PA X [a] ta) (hs:starEach [a] X.env=[(false,eval a X.env)]:=by rfl):PI X tg (.Call (.Name "range" p) [a] [] pos) (JL ta):=by
 intro pins s σ H R I h
 refine Call_ (p9 I hg hm boot_range (a4h (d8 (ha pos pins s σ H _ I h) λus s1 ⟨vs,H1,I1,r1,q1⟩=>?_) hs rfl))
 obtain⟨j,e,q1,q2,q⟩:=q1
 subst e
 cases r1 with
 | cons r rr=>
  cases rr
  obtain⟨t,rfl⟩:=r
  exact call_range_1 (RP I1 ∅ ∅ q1 q2 (by simpa using q))
def S8(wi:TI)(g:TG)(tb:TS):TS:=λD σ H=>wi σ H λJ H1=>∃W:Nat->Nat->St->Hp->Prop,(∃m,W 0 m σ H1)/\∀i m σ H,W i m σ H->
 (J.stop i H/\D.nx σ H)\/(J.go i H/\∃N:St->Hp->Prop,(∀σ' H',N σ' H'->∃m',m'<m/\W (i+1) m' σ' H')/\∀x H',J.yld i H x H'->g x σ H' λσ2 H2=>tb {D with nx:=N,ct:=N,bk:=D.nx} σ2 H2)
def pK(fp:List Ac)(h:Heap):List (Ac×Obj):=fp.filterMap λb=>(h.get? b).map λo=>(b,o)
theorem eG{fp:List Ac}{h:Heap}{b:Ac}{o:Obj}(hb:b∈fp)(e:h.get? b=some o):(b,o)∈pK fp h:=a4e.mpr ⟨b,hb,by rw[e];rfl⟩
theorem MC {fp:List Addr} {h:Heap} {p:Addr×Obj} (hp:p∈pK fp h):p.1∈fp/\h.get? p.1=some p.2:=by
 obtain⟨b,hb,e⟩:=a4e.mp hp
 cases q:h.get? b with
 |none=>rw[q] at e;cases e
 | some o=>
  rw[q] at e
  have e':(b,o)=p:=a1i e
  subst e'
  exact⟨hb,q⟩
theorem Inv.pinned {pins:List (Addr×Obj)} {σ:St} {H:Hp} {s:Shared} {fp:List Addr} (I:Inv X pins σ H s) (hf:∀b∈fp,iY X pins H b) (ho:∀b∈fp,∃o,s.heap.get? b=some o/\∀v,o.data≠ .cell v):Inv X (pins++pK fp s.heap) σ H s:=
 I.pins_of λp hp=>(a1c.mp hp).elim (λz=>I.pin p (a0t _ z)) λz=>by
  obtain⟨hb,e⟩:=MC z
  obtain⟨f0,f1,f2,_⟩:=hf p.1 hb
  obtain⟨o,e',d⟩:=ho p.1 hb
  rw[e] at e';cases e'
  exact⟨e,f0,f1,f2,d⟩
theorem Inv.unpinned{pins pl:List (Ac×Obj)}{σ:St}{H:Hp}{s:Ab}(I:Inv X (pins++pl) σ H s):Inv X pins σ H s:=I.pins_of λp hp=>I.pin p (a0t _ (a1z _ hp))
theorem R0 {iter:Expr} {body:List Stmt} {wi:TI} {g:TG} {tb:TS} {pos:Pos} (hp:PassesOwn (model X.prog X.w) X.A X.env X.xe) (hc:X.calm=true) (hi:PI X tg iter wi) (hg:PG X tg g) (hb:zH X body tb)
  (hs:∀x,foldedSetIterable iter X.env x=pure x:=by intro _;rfl):PS X (.For tg iter body [] pos) (S8 wi g tb):=by
 intro pins s σ H D I h
 refine wpAny_For (d8 (hi pins s σ H _ I h) λv s1 h1=>d8 h1 λitv s2 h2=>?_) hs
 obtain⟨it,fp,tn,J,H2,e,I2,T,st2,f2,W,⟨m0,w0⟩,turn⟩:=h2
 subst e
 have stat:∀ {H':Hp},(∀b∈fp,H' b=none)->∀b∈fp,iY X pins H' b:=λhn b hb=>⟨hn b hb,(f2 b hb).2⟩
 refine codeAny_forLoop_any (λn s'=>∃i σ' H',Inv X pins σ' H' s'/\tn i s'.heap/\(∀b∈fp,H' b=none)/\W i n σ' H') ?_ m0 ⟨0,σ,H2,I2,st2,λb hb=>(f2 b hb).1,w0⟩
 rintro n s3 ⟨i,σ3,H3,I3,D9,fr3,w3⟩
 rcases turn i n σ3 H3 w3 with ⟨stop,qn⟩|⟨go,N,hN,step⟩
 ·refine a4n hp (d8 (T.done X rfl rfl rfl hc i pins s3 σ3 H3 X.xe I3 (stat fr3) D9 stop) λr s4 ⟨hr,I4⟩=>?_)
  subst hr
  exact a6x ⟨σ3,H3,I4,qn⟩
 ·refine a4n hp (d8 (T.item X rfl rfl rfl hc i pins s3 σ3 H3 X.xe I3 (stat fr3) D9 go) λr s4 ⟨u,hr,h4⟩=>?_)
  subst hr
  refine a4n hp (d8 h4 λ_ s5 ⟨x,H5,I5,r5,y5,st5,fr5⟩=>?_)
  have I5':=I5.pinned (stat fr5) (T.obj _ _ st5)
  refine a4n hp (d8 (hg _ s5 σ3 H5 x u _ I5' r5 (step x H5 y5)) λ_ s6 ⟨σ6,H6,I6,q6⟩=>?_)
  refine a4n hp (d8 (hb _ s6 σ6 H6 _ I6 q6) λf s7 q7=>?_)
  have again:∀ {σ7:St} {H7:Hp},Inv X (pins++pK fp s5.heap) σ7 H7 s7->N σ7 H7->∃m,m<n/\∃i σ' H',Inv X pins σ' H' s7/\tn i s7.heap/\(∀b∈fp,H' b=none)/\W i m σ' H':=fun {σ7 H7} I7 n7=>by
   obtain⟨m',hm,w7⟩:=hN σ7 H7 n7
   refine⟨m',hm,i+1,σ7,H7,I7.unpinned,T.keep _ _ _ st5 λb hb o e=>(I7.pin (b,o) (a0t _ (a0t _ (eG hb e)))).1,λb hb=>?_,w7⟩
   obtain⟨o,e,d⟩:=T.obj _ _ st5 b hb
   exact (I7.pin (b,o) (a0t _ (a0t _ (eG hb e)))).2.1
  cases f with
  |next=>obtain⟨σ7,H7,I7,n7⟩:=q7;exact again I7 n7
  |cont=>obtain⟨σ7,H7,I7,n7⟩:=q7;exact again I7 n7
  |brk=>obtain⟨σ7,H7,I7,q7⟩:=q7;exact⟨σ7,H7,I7.unpinned,q7⟩
  |ret v=>obtain⟨x7,σ7,H7,I7,r7,q7⟩:=q7;exact⟨x7,σ7,H7,I7.unpinned,r7,q7⟩
end
theorem LV {lo:Int} {n:Nat} {g:TG} {tb:TS} {D:Ends} {σ:St} {H:Hp} (Pv:Nat->St->Hp->Prop) (h0:Pv 0 σ H)
  (hs:∀i σ H,i<n->Pv i σ H->g (.int (lo+i)) σ H λσ2 H2=>tb {D with nx:=Pv (i+1),ct:=Pv (i+1),bk:=D.nx} σ2 H2) (hd:∀σ H,Pv n σ H->D.nx σ H) :
  ∃ W:Nat->Nat->St->Hp->Prop,(∃m,W 0 m σ H)/\∀i m σ H,W i m σ H->
   ((T1 lo n).stop i H/\D.nx σ H)\/((T1 lo n).go i H/\∃N:St->Hp->Prop,(∀σ' H',N σ' H'->∃m',m'<m/\W (i+1) m' σ' H')/\∀x H',(T1 lo n).yld i H x H'->g x σ H' λσ2 H2=>tb {D with nx:=N,ct:=N,bk:=D.nx} σ2 H2):=by
 refine⟨λi m σ H=>m=n-i/\i<=n/\Pv i σ H,⟨n,by simp,a3c _,h0⟩,?_⟩
 rintro i m σ H ⟨rfl,hi,p⟩
 by_cases hlt:i<n
 ·refine .inr ⟨hlt,Pv (i+1),λσ' H' p'=>⟨n-(i+1),by omega,rfl,hlt,p'⟩,λx H' y=>?_⟩
  obtain⟨e,y⟩:=y
  subst e y
  exact hs i σ _ hlt p
 ·have e:i=n:=by omega
  subst e
  exact .inl ⟨a0o _,hd σ H p⟩
abbrev R2:=V->V->Hp->VK->Prop
def nY (X:Cx) (f:Value->Value->Sem Value) (r:R2):Prop:=
 ∀ (pins:List (Addr×Obj)) (s:Shared) (σ:St) (H:Hp) (x y:V) (v u:Value) (Q:VK),Inv X pins σ H s->bQ x v->bQ y u->r x y H Q->
  wpAny (model X.prog X.w) X.A (f v u) (EP X pins σ Q) X.xe s
def a5V (X:Cx) (f:Value->Sem Value) (r:V->Hp->VK->Prop):Prop:=
 ∀ (pins:List (Addr×Obj)) (s:Shared) (σ:St) (H:Hp) (x:V) (v:Value) (Q:VK),Inv X pins σ H s->bQ x v->r x H Q->
  wpAny (model X.prog X.w) X.A (f v) (EP X pins σ Q) X.xe s
def eY (X:Cx) (f:Value) (r:List V->Hp->VK->Prop):Prop:=
 ∀ (pins:List (Addr×Obj)) (s:Shared) (σ:St) (H:Hp) (xs:List V) (us:List Value) (Q:VK),Inv X pins σ H s->bD xs us->r xs H Q->
  wpAny (model X.prog X.w) X.A (call f us) (EP X pins σ Q) X.xe s
def a6C (X:Cx) (r:V->Hp->(Bool->Hp->Prop)->Prop):Prop:=
 ∀ (pins:List (Addr×Obj)) (s:Shared) (σ:St) (H:Hp) (x:V) (v:Value) (Q:Bool->Hp->Prop),Inv X pins σ H s->bQ x v->r x H Q->
  wpAny (model X.prog X.w) X.A (truthy v) (TP X pins σ Q) X.xe s
def SA(r:R2)(ta tb:TE):TE:=λσ H Q=>ta σ H λx H1=>tb σ H1 λy H2=>r x y H2 Q
def a62(r:V->Hp->VK->Prop)(ta:TE):TE:=λσ H Q=>ta σ H λx H1=>r x H1 Q
def rI(C:Int->Int->Prop)(g:Int->Int->V):R2:=λx y H Q=>∃i j,x= .int i/\y= .int j/\C i j/\Q (g i j) H
def yY(g:Int->Int->V):R2:=λx y H Q=>∃i j,x= .int i/\y= .int j/\Q (g i j) H
def rU(g:Int->V):V->Hp->VK->Prop:=λx H Q=>∃i,x= .int i/\Q (g i) H
section
variable{X:Cx}{a b c:Expr}{ta tb tc:TE}{pos:Pos}
theorem YI (ha:PE X a ta) (hb:PE X b tb) {pins:List (Addr×Obj)} {s:Shared} {σ:St} {H:Hp} {R:V->V->Hp->Prop} (I:Inv X pins σ H s)
  (h:ta σ H λx H1=>tb σ H1 λy H2=>R x y H2) {Q:Value->Ab->Prop} {f:Value->Value->Sem Value}
  (hf:∀v u s2 x y H2,Inv X pins σ H2 s2->bQ x v->bQ y u->R x y H2->wpAny (model X.prog X.w) X.A (f v u) Q X.xe s2) :
  wpAny (model X.prog X.w) X.A (eval a X.env) (λv s₁=>wpAny (model X.prog X.w) X.A (eval b X.env) (λu s₂=>wpAny (model X.prog X.w) X.A (f v u) Q X.xe s₂) X.xe s₁) X.xe s:=by
 refine d8 (ha pins s σ H _ I h) λv s1 ⟨x,H1,I1,r1,q1⟩=>?_
 refine d8 (hb pins s1 σ H1 _ I1 q1) λu s2 ⟨y,H2,I2,r2,q2⟩=>?_
 exact hf v u s2 x y H2 I2 r1 r2 q2
theorem AC{op:Operator}{r:R2}(ho:nY X (binaryOp op) r)(ha:PE X a ta)(hb:PE X b tb):PE X (.BinOp a op b pos) (SA r ta tb):=by
 intro pins s σ H Q I h
 exact wpAny_BinOp (YI ha hb I h λv u s2 x y H2 I2 rx ry q=>ho pins s2 σ H2 x y v u Q I2 rx ry q)
theorem Y4{op:UnaryOp}{r:V->Hp->VK->Prop}(ho:a5V X (unaryOp op) r)(ha:PE X a ta):PE X (.UnaryOp op a pos) (a62 r ta):=by
 intro pins s σ H Q I h
 exact UnaryOp_ (d8 (ha pins s σ H _ I h) λv s1 ⟨x,H1,I1,r1,q1⟩=>ho pins s1 σ H1 x v Q I1 r1 q1)
theorem a5Z {f:Value->Value->Sem Value} {C:Int->Int->Prop} {g:Int->Int->Int}
  (rule:∀(i j:Int) (t u:Tok) (s:Ab) (Q:Value->Ab->Prop) (E:Value->Ab->Prop),C i j->Q (.int (g i j) s.toks) {s with toks:=s.toks+1}->wpAny (model X.prog X.w) X.A (f (.int i t) (.int j u)) Q E s) :
  nY X f (rI C λi j=>.int (g i j)):=by
 intro pins s σ H x y v u Q I rx ry h
 obtain⟨i,j,rfl,rfl,hc,q⟩:=h
 obtain⟨t,rfl⟩:=rx
 obtain⟨t',rfl⟩:=ry
 exact rule i j t t' s _ _ hc ⟨.int (g i j),H,I.tok _,⟨_,rfl⟩,q⟩
theorem a46 {f:Value->Value->Sem Value} {g:Int->Int->Int}
  (rule:∀(i j:Int) (t u:Tok) (s:Ab) (Q:Value->Ab->Prop) (E:Value->Ab->Prop),Q (.int (g i j) s.toks) {s with toks:=s.toks+1}->wpAny (model X.prog X.w) X.A (f (.int i t) (.int j u)) Q E s) :
  nY X f (yY λi j=>.int (g i j)):=by
 intro pins s σ H x y v u Q I rx ry h
 obtain⟨i,j,rfl,rfl,q⟩:=h
 obtain⟨t,rfl⟩:=rx
 obtain⟨t',rfl⟩:=ry
 exact rule i j t t' s _ _ ⟨.int (g i j),H,I.tok _,⟨_,rfl⟩,q⟩
theorem a0O {f:Value->Value->Sem Value} {g:Int->Int->Bool}
  (rule:∀(i j:Int) (t u:Tok) (s:Ab) (Q:Value->Ab->Prop) (E:Value->Ab->Prop),Q (.bool (g i j)) s->wpAny (model X.prog X.w) X.A (f (.int i t) (.int j u)) Q E s) :
  nY X f (yY λi j=>.bl (g i j)):=by
 intro pins s σ H x y v u Q I rx ry h
 obtain⟨i,j,rfl,rfl,q⟩:=h
 obtain⟨t,rfl⟩:=rx
 obtain⟨t',rfl⟩:=ry
 exact rule i j t t' s _ _ ⟨.bl (g i j),H,I,rfl,q⟩
def yG(i j:Int):Prop:=0<=j/\j<=1000000/\i.natAbs<2^64
def yF(i j:Int):Prop:=(-(2^64)<i/\i<2^64)\/(-(2^64)<j/\j<2^64)
theorem yF.ok{i j:Int}(h:yF i j):IntMulOk i j:=by
 rcases h with ⟨h1,h2⟩|⟨h1,h2⟩
 ·exact .of_left (intBits_le_64 h1 h2)
 ·exact .of_right (intBits_le_64 h1 h2)
theorem a0P:nY X (binaryOp .Add) (yY λi j=>.int (i+j)):=a46 λ_ _ _ _ _ _ _ q=>add_int q
theorem a0Z:nY X (binaryOp .Sub) (yY λi j=>.int (i-j)):=a46 λ_ _ _ _ _ _ _ q=>sub_int q
theorem a0V:nY X (binaryOp .Mult) (rI yF λi j=>.int (i*j)):=a5Z λ_ _ _ _ _ _ _ hc q=>mul_int q hc.ok
theorem a0U:nY X (binaryOp .Mod) (rI (λ_ j=>0<j) λi j=>.int (i % j)):=a5Z λi j _ _ _ _ _ hc q=>by
 have h1:(0:Int)<j:=hc
 exact mod_int' ∅ (by rw[Int.fmod_eq_emod_of_nonneg i ∅];exact q)
theorem a0X:nY X (binaryOp .Pow) (rI yG λi j=>.int (i^j.toNat)):=a5Z λ_ _ _ _ _ _ _ hc q=>pow_int_small hc.1 hc.2.1 hc.2.2 q
theorem a82 {f:Value->Sem Value} {g:Int->Int}
  (rule:∀(i:Int) (t:Tok) (s:Ab) (Q:Value->Ab->Prop) (E:Value->Ab->Prop),Q (.int (g i) s.toks) {s with toks:=s.toks+1}->wpAny (model X.prog X.w) X.A (f (.int i t)) Q E s) :
  a5V X f (rU λi=>.int (g i)):=by
 intro pins s σ H x v Q I rx h
 obtain⟨i,rfl,q⟩:=h
 obtain⟨t,rfl⟩:=rx
 exact rule i t s _ _ ⟨.int (g i),H,I.tok _,⟨_,rfl⟩,q⟩
theorem a2N:a5V X (unaryOp .USub) (rU λi=>.int (-i)):=a82 λ_ _ _ _ _ q=>neg_int q
end
def a54:V->V->Bool
 |.non,.non=>true|.non,.int _=>true|.int _,.non=>true|.non,.bl _=>true|.bl _,.non=>true|.non,.str _=>true|.str _,.non=>true
 |.int _,.int _=>true|.bl _,.bl _=>true|.str _,.str _=>true|.byt _,.byt _=>true
 |.int _,.str _=>true|.str _,.int _=>true|.bl _,.str _=>true|.str _,.bl _=>true
 |_,_=>false
def a6Y:R2:=λx y H Q=>a54 x y=true/\Q (.bl (decide (x=y))) H
def a71:R2:=λx y H Q=>a54 x y=true/\Q (.bl (!decide (x=y))) H
theorem JD{i j:Int}:decide (V.int i=V.int j)=(i==j):=by
 rw[a4z]
 simp
theorem OA{i j:Bool}:decide (V.bl i=V.bl j)=(i==j):=by
 rw[a4z]
 simp
theorem JE{i j:Str}:decide (V.str i=V.str j)=(i==j):=by
 rw[a4z]
 simp
theorem JC{i j:Array UInt8}:decide (V.byt i=V.byt j)=(i.toList==j.toList):=by
 rw[a4z]
 cases i
 cases j
 simp
section
variable{X:Cx}{a b c:Expr}{ta tb tc:TE}{pos:Pos}
theorem bH{pins:List (Addr×Obj)}{σ:St}{H:Hp}{s:Shared}{Q:VK}{k k':Bool}(I:Inv X pins σ H s)(q:Q (.bl k) H)(e:k=k'):EP X pins σ Q (.bool k') s:=by
 subst e
 exact⟨.bl k,H,I,rfl,q⟩
theorem a47:nY X (compareOp .Eq) a6Y:=by
 intro pins s σ H x y v u Q I rx ry h
 obtain⟨hs,q⟩:=h
 cases x with
 | non=>
  cases rx
  cases y with
  |non=>cases ry;exact PySem.EqNone.eq_none_none (bH I q (by simp))
  |bl j=>cases ry;exact PySem.EqNone.eq_none_bool (bH I q (by simp))
  |int j=>obtain⟨t',rfl⟩:=ry;exact PySem.EqNone.eq_none_int (bH I q (by simp))
  |str j=>obtain⟨t',rfl⟩:=ry;exact PySem.EqNone.eq_none_str (bH I q (by simp))
  |_=>exact absurd (show false=true from hs) a0m
 | bl i=>
  cases rx
  cases y with
  |non=>cases ry;exact PySem.EqNone.eq_bool_none (bH I q (by simp))
  |bl j=>cases ry;exact eq_bool (bH I q OA)
  |str j=>obtain⟨t',rfl⟩:=ry;exact PySem.EqMixed.eq_bool_str (bH I q (by simp))
  |_=>exact absurd (show false=true from hs) a0m
 | int i=>
  obtain⟨t,rfl⟩:=rx
  cases y with
  |non=>cases ry;exact PySem.EqNone.eq_int_none (bH I q (by simp))
  |int j=>obtain⟨t',rfl⟩:=ry;exact eq_int (bH I q JD)
  |str j=>obtain⟨t',rfl⟩:=ry;exact PySem.EqMixed.eq_int_str (bH I q (by simp))
  |_=>exact absurd (show false=true from hs) a0m
 | str i=>
  obtain⟨t,rfl⟩:=rx
  cases y with
  |non=>cases ry;exact PySem.EqNone.eq_str_none (bH I q (by simp))
  |bl j=>cases ry;exact PySem.EqMixed.eq_str_bool (bH I q (by simp))
  |int j=>obtain⟨t',rfl⟩:=ry;exact PySem.EqMixed.eq_str_int (bH I q (by simp))
  |str j=>obtain⟨t',rfl⟩:=ry;exact eq_str (bH I q JE)
  |_=>exact absurd (show false=true from hs) a0m
 | byt i=>
  obtain⟨t,rfl⟩:=rx
  cases y with
  |byt j=>obtain⟨t',rfl⟩:=ry;exact PySem.W.eq_bytes (bH I q JC)
  |_=>exact absurd (show false=true from hs) a0m
 |_=>cases y<;>exact absurd (show false=true from hs) a0m
theorem a4B:nY X (compareOp .NotEq) a71:=by
 intro pins s σ H x y v u Q I rx ry h
 obtain⟨hs,q⟩:=h
 cases x with
 | non=>
  cases rx
  cases y with
  |non=>cases ry;exact PySem.EqNone.ne_none_none (bH I q (by simp))
  |bl j=>cases ry;exact PySem.EqNone.ne_none_bool (bH I q (by simp))
  |int j=>obtain⟨t',rfl⟩:=ry;exact PySem.EqNone.ne_none_int (bH I q (by simp))
  |str j=>obtain⟨t',rfl⟩:=ry;exact PySem.EqNone.ne_none_str (bH I q (by simp))
  |_=>exact absurd (show false=true from hs) a0m
 | bl i=>
  cases rx
  cases y with
  |non=>cases ry;exact PySem.EqNone.ne_bool_none (bH I q (by simp))
  |bl j=>cases ry;exact ne_bool (bH I q (congrArg not OA))
  |str j=>obtain⟨t',rfl⟩:=ry;exact PySem.EqMixed.ne_bool_str (bH I q (by simp))
  |_=>exact absurd (show false=true from hs) a0m
 | int i=>
  obtain⟨t,rfl⟩:=rx
  cases y with
  |non=>cases ry;exact PySem.EqNone.ne_int_none (bH I q (by simp))
  |int j=>obtain⟨t',rfl⟩:=ry;exact ne_int (bH I q (congrArg not JD))
  |str j=>obtain⟨t',rfl⟩:=ry;exact PySem.EqMixed.ne_int_str (bH I q (by simp))
  |_=>exact absurd (show false=true from hs) a0m
 | str i=>
  obtain⟨t,rfl⟩:=rx
  cases y with
  |non=>cases ry;exact PySem.EqNone.ne_str_none (bH I q (by simp))
  |bl j=>cases ry;exact PySem.EqMixed.ne_str_bool (bH I q (by simp))
  |int j=>obtain⟨t',rfl⟩:=ry;exact PySem.EqMixed.ne_str_int (bH I q (by simp))
  |str j=>obtain⟨t',rfl⟩:=ry;exact ne_str (bH I q (congrArg not JE))
  |_=>exact absurd (show false=true from hs) a0m
 | byt i=>
  obtain⟨t,rfl⟩:=rx
  cases y with
  |byt j=>obtain⟨t',rfl⟩:=ry;exact PySem.W.ne_bytes (bH I q (congrArg not JC))
  |_=>exact absurd (show false=true from hs) a0m
 |_=>cases y<;>exact absurd (show false=true from hs) a0m
theorem a4A:nY X (compareOp .Lt) (yY λi j=>.bl (decide (i<j))):=a0O λ_ _ _ _ _ _ _ q=>lt_int q
theorem a49:nY X (compareOp .LtE) (yY λi j=>.bl (decide (i<=j))):=a0O λ_ _ _ _ _ _ _ q=>le_int q
theorem a48:nY X (compareOp .Gt) (yY λi j=>.bl (decide (j<i))):=a0O λ_ _ _ _ _ _ _ q=>gt_int q
theorem a0T:nY X (compareOp .Is) (λx y H Q=>y= .non/\Q (.bl (decide (x= .non))) H):=by
 intro pins s σ H x y v u Q I rx ry h
 obtain⟨rfl,q⟩:=h
 cases ry
 refine is_none_gen (bH I q ?_)
 cases x<;>first
  |(cases rx;rfl)
  |(obtain⟨t,rfl⟩:=rx;rfl)
theorem VH:nY X (compareOp .IsNot) (λx y H Q=>y= .non/\Q (.bl (!decide (x= .non))) H):=by
 intro pins s σ H x y v u Q I rx ry h
 obtain⟨rfl,q⟩:=h
 cases ry
 refine isnot_none_gen (bH I q ?_)
 cases x<;>first
  |(cases rx;rfl)
  |(obtain⟨t,rfl⟩:=rx;rfl)
theorem c9(b:Expr){op:CmpOp}(h:op≠ .In:=by decide)(h2:op≠ .NotIn:=by decide):behindInMarks op b=false:=by
 have e1:(op==CmpOp.In)=false:=by cases op<;>first|rfl|exact absurd rfl h
 have e2:(op==CmpOp.NotIn)=false:=by cases op<;>first|rfl|exact absurd rfl h2
 cases b<;>simp[behindInMarks,e1,e2]
theorem K1{op:CmpOp}{r:R2}(ho:nY X (compareOp op) r)(ha:PE X a ta)(hb:PE X b tb)(hm:behindInMarks op b=false):PE X (.Compare a [op] [b] pos) (SA r ta tb):=by
 intro pins s σ H Q I h
 exact wpAny_Compare1 (YI ha hb I h λv u s2 x y H2 I2 rx ry q=>ho pins s2 σ H2 x y v u Q I2 rx ry q) hm
def KO(t:TE):TT:=λσ H Q=>t σ H λx H'=>∃k,x= .bl k/\Q k H'
theorem K8 {op:CmpOp} {r:R2} (ho:nY X (compareOp op) r) (ha:PE X a ta) (hb:PE X b tb) (hm:behindInMarks op b=false):PT X (.Compare a [op] [b] pos) (KO (SA r ta tb)):=by
 intro pins s σ H Q I h
 refine wpAny_isTrue_Compare1 (d8 (ha pins s σ H _ I h) λv s1 ⟨x,H1,I1,r1,q1⟩=>d8 (hb pins s1 σ H1 _ I1 q1) λu s2 ⟨y,H2,I2,r2,q2⟩=>
  d8 (ho pins s2 σ H2 x y v u _ I2 r1 r2 q2) λc s3 ⟨z,H3,I3,r3,k,e,q3⟩=>?_) hm
 subst e
 cases r3
 exact a3o ⟨H3,I3,q3⟩
def S6(r r':R2)(ta tb tc:TE):TE:=λσ H Q=>ta σ H λx H1=>tb σ H1 λy H2=>r x y H2 λz H3=>∃k,z= .bl k/\
 (if k=true then tc σ H3 λw' H4=>r' y w' H4 Q else Q (.bl false) H3)
theorem QP {op op':CmpOp} {r r':R2} (ho:nY X (compareOp op) r) (ho':nY X (compareOp op') r') (ha:PE X a ta) (hb:PE X b tb) (hc:PE X c tc)
  (hm:lastMarks [op,op'] [b,c]=false:=by with_unfolding_all rfl):PE X (.Compare a [op,op'] [b,c] pos) (S6 r r' ta tb tc):=by
 intro pins s σ H Q I h
 refine Compare_chain (d8 (ha pins s σ H _ I h) λv s1 ⟨x,H1,I1,r1,q1⟩=>chain_link (d8 (hb pins s1 σ H1 _ I1 q1) λu s2 ⟨y,H2,I2,r2,q2⟩=>
  d8 (ho pins s2 σ H2 x y v u _ I2 r1 r2 q2) λd s3 ⟨z,H3,I3,r3,k,e,q3⟩=>?_)) hm
 subst e
 cases r3
 refine a3o ?_
 cases k with
 |false=>exact ite_ff ⟨.bl false,H3,I3,rfl,q3⟩
 |true=>exact ite_tt (chain_last (d8 (hc pins s3 σ H3 _ I3 q3) λw' s4 ⟨z',H4,I4,r4,q4⟩=>ho' pins s4 σ H4 y z' u w' Q I4 r2 r4 q4))
def a37(K:PySem.W.Frag)(x:V)(H:Hp)(k:Bool):Prop:=
 match x with
 |.non=>k=false
 |.bl b=>k=b
 |.int i=>k=(i !=0)
 |.str y=>y.length<=sizeLine/\k=((y.length:Int) !=0)
 |.byt y=>y.size<=sizeLine/\k=((y.size:Int) !=0)
 |.ref p=>(∃xs,dO K H p xs/\k= !xs.isEmpty)\/(∃xs,eQ K H p xs/\k= !xs.isEmpty)\/∃kvs,H p=some (.dK kvs)/\k= !kvs.isEmpty
 |_=>False
theorem HF{κ:Type}{kvs:List (κ×V)}{vs:List (κ×Value)}(r:KV kvs vs):(!vs.isEmpty)= !kvs.isEmpty:=by
 cases r<;>rfl
theorem wB{xs:List V}{its:List Value}(r:bD xs its):(!its.toArray.isEmpty)= !xs.isEmpty:=by
 cases r<;>simp
theorem pA:(sizeLine:Nat)<2^63:=by rw[sizeLine_eq];decide
theorem a2K:a6C X (λx H Q=>∃k,a37 X.K x H k/\Q k H):=by
 intro pins s σ H x v Q I rx h
 obtain⟨k,e,q⟩:=h
 have hl:=pA
 have hs:sizeLine=16777216:=sizeLine_eq
 cases x with
 | non=>
  cases rx
  have e':k=false:=e
  subst e'
  exact truthy_none ⟨H,I,q⟩
 | bl b=>
  cases rx
  have e':k=b:=e
  subst e'
  exact a3o ⟨H,I,q⟩
 | int i=>
  obtain⟨t,rfl⟩:=rx
  have e':k=(i !=0):=e
  subst e'
  exact PySem.P.truthy_int ⟨H,I,q⟩
 | str y=>
  obtain⟨t,rfl⟩:=rx
  obtain⟨hy,e'⟩ : y.length<=sizeLine/\k=((y.length:Int) !=0):=e
  subst e'
  exact PySem.P.truthy_str ∅ ⟨H,I.tok _,q⟩
 | byt y=>
  obtain⟨t,rfl⟩:=rx
  obtain⟨hy,e'⟩ : y.size<=sizeLine/\k=((y.size:Int) !=0):=e
  subst e'
  exact PySem.W.truthy_bytes ∅ ⟨H,I.tok _,q⟩
 | ref p=>
  cases rx
  have e':(∃xs,dO X.K H p xs/\k= !xs.isEmpty)\/(∃xs,eQ X.K H p xs/\k= !xs.isEmpty)\/∃kvs,H p=some (.dK kvs)/\k= !kvs.isEmpty:=e
  rcases e' with ⟨xs,hx,e'⟩|⟨xs,hx,e'⟩|⟨kvs,hx,e'⟩
  ·subst e'
   obtain⟨its,r,pl,hz⟩:=I.list hx
   have hlen:=r.length
   exact wpAny_truthy_list pl.isList (by simp only[a0r];omega) ⟨H,I.tok _,by rw[wB r];exact q⟩
  ·subst e'
   obtain⟨its,r,pl,hz⟩:=I.tuple hx
   have hlen:=r.length
   exact truthy_tuple pl (by simp only[a0r];omega) ⟨H,I.tok _,by rw[wB r];exact q⟩
  ·subst e'
   obtain⟨hz,hS,vs,r,m⟩ : kvs.length<=sizeLine/\(p==sysModules)=false/\∃vs,KV kvs vs/\s.heap.DictOf (dY X.prog X.w) p vs:=I.hok p _ hx
   have hlen:kvs.length=vs.length:=Paired.length r
   exact wpAny_truthy_dict hS m ∅ ⟨H,I.tok _,by rw[HF r];exact q⟩
 |_=>exact (show False from e).elim
theorem HV:nY X (binaryOp .Add) (λx y H Q=>∃i j,x= .str i/\y= .str j/\i.length+j.length<=sizeLine/\Q (.str (i++j)) H):=by
 intro pins s σ H x y v u Q I rx ry h
 obtain⟨i,j,rfl,rfl,hz,q⟩:=h
 obtain⟨t,rfl⟩:=rx
 obtain⟨t',rfl⟩:=ry
 exact add_str (λt' tk=>⟨.str (i++j),H,I.tok _,⟨_,rfl⟩,q⟩) hz
theorem nW{x:V}{us:List Value}(r:bD [x] us):∃u,us=[u]/\bQ x u:=by
 cases r with
 |cons r1 r2=>cases r2;exact⟨_,rfl,r1⟩
theorem SG {x y:V} {us:List Value} (r:bD [x,y] us):∃u w',us=[u,w']/\bQ x u/\bQ y w':=by
 cases r with
 | cons r1 r2=>
  cases r2 with
  |cons r3 r4=>cases r4;exact⟨_,_,rfl,r1,r3⟩
theorem LC(hc:X.calm=true):eY X (.builtin "max") (λxs H Q=>∃i j,xs=[.int i,.int j]/\Q (.int (if j>i then j else i)) H):=by
 intro pins s σ H xs us Q I r h
 obtain⟨i,j,rfl,q⟩:=h
 obtain⟨u,w',rfl,⟨t,rfl⟩,⟨t',rfl⟩⟩:=SG r
 refine max_two_ints (I.ok.hd hc) λh' tk k=>⟨_,H,I.kept k,?_,q⟩
 by_cases hj:j>i
 ·rw[if_pos hj,if_pos hj];exact⟨_,rfl⟩
 ·rw[if_neg hj,if_neg hj];exact⟨_,rfl⟩
theorem LD(hc:X.calm=true):eY X (.builtin "min") (λxs H Q=>∃i j,xs=[.int i,.int j]/\Q (.int (if j<i then j else i)) H):=by
 intro pins s σ H xs us Q I r h
 obtain⟨i,j,rfl,q⟩:=h
 obtain⟨u,w',rfl,⟨t,rfl⟩,⟨t',rfl⟩⟩:=SG r
 refine min_two_ints (I.ok.hd hc) λh' tk k=>⟨_,H,I.kept k,?_,q⟩
 by_cases hj:j<i
 ·rw[if_pos hj,if_pos hj];exact⟨_,rfl⟩
 ·rw[if_neg hj,if_neg hj];exact⟨_,rfl⟩
theorem LB:eY X (.type "int") (λxs H Q=>(∃i,xs=[.int i]/\Q (.int i) H)\/∃k,xs=[.bl k]/\Q (.int (if k then 1 else 0)) H):=by
 intro pins s σ H xs us Q I r h
 rcases h with ⟨i,rfl,q⟩|⟨k,rfl,q⟩
 ·obtain⟨u,rfl,t,rfl⟩:=nW r
  exact call_int_int ⟨.int i,H,I,⟨_,rfl⟩,q⟩
 ·obtain⟨u,rfl,r1⟩:=nW r
  cases r1
  exact call_int_bool ⟨.int (if k then 1 else 0),H,I.tok _,⟨_,rfl⟩,q⟩
def a34(K:PySem.W.Frag)(x:V)(H:Hp)(n:Nat):Prop:=
 match x with
 |.str y=>y.length<=sizeLine/\n=y.length
 |.byt y=>y.size<=sizeLine/\n=y.size
 |.ref p=>(∃xs,dO K H p xs/\n=xs.length)\/∃xs,eQ K H p xs/\n=xs.length
 |_=>False
theorem O2:eY X (.builtin "len") (λxs H Q=>∃x n,xs=[x]/\a34 X.K x H n/\Q (.int n) H):=by
 intro pins s σ H xs us Q I r h
 obtain⟨x,n,rfl,e,q⟩:=h
 obtain⟨u,rfl,rx⟩:=nW r
 have hl:=pA
 have hs:sizeLine=16777216:=sizeLine_eq
 cases x with
 | str y=>
  obtain⟨t,rfl⟩:=rx
  obtain⟨hy,e'⟩ : y.length<=sizeLine/\n=y.length:=e
  subst e'
  exact len_str ∅ ⟨.int _,H,I.tok _,⟨_,rfl⟩,q⟩
 | byt y=>
  obtain⟨t,rfl⟩:=rx
  obtain⟨hy,e'⟩ : y.size<=sizeLine/\n=y.size:=e
  subst e'
  exact PySem.W.len_bytes ∅ ⟨.int _,H,I.tok _,⟨_,rfl⟩,q⟩
 | ref p=>
  cases rx
  have e':(∃xs,dO X.K H p xs/\n=xs.length)\/∃xs,eQ X.K H p xs/\n=xs.length:=e
  rcases e' with ⟨xs,hx,e'⟩|⟨xs,hx,e'⟩
  ·subst e'
   obtain⟨its,r',pl,hz⟩:=I.list hx
   have hlen:=r'.length
   exact Calls.call_len_list pl.isList (by simp only[a0r];omega) ⟨.int xs.length,H,I.tok _,⟨_,by simp only[a0r];rw[hlen]⟩,q⟩
  ·subst e'
   obtain⟨its,r',pl,hz⟩:=I.tuple hx
   have hlen:=r'.length
   exact len_tuple pl (by simp only[a0r];omega) ⟨.int xs.length,H,I.tok _,⟨_,by simp only[a0r];rw[hlen]⟩,q⟩
 |_=>exact (show False from e).elim
end
structure ObjM(h:Heap)(x dx C:Addr)(mA:Str->Option Value):Prop where
 obj:h.get? x=some (PySem.W.instObj C dx)
 ns:h.Ns1 dx mA
 ne:dx≠x
theorem MA {h:Heap} {dx:Addr} {mA:Str->Option Value} (n:h.Ns1 dx mA):∃od,h.get? dx=some od/\∀name,PySem.W.lookIn name od=some (mA name):=by
 obtain⟨o,es,ep,ho,hd,hk,_,hm⟩:=n
 refine⟨o,ho,λname=>?_⟩
 have e:=hm name
 unfold nsFind findBy at e
 rw[<- Array.find?_toList] at e
 unfold PySem.W.lookIn
 rw[hd]
 dsimp only
 split
 ·rename_i y q
  rw[q] at e
  exact congrArg some e
 ·rename_i q
  rw[q] at e
  have a:es.toList.any (·.refKey)=false:=by
   rw[List.any_eq_false]
   intro y hy
   obtain⟨z,t,hkey⟩:=hk y (Array.mem_toList_iff.mp hy)
   simp[DictEntry.refKey,hkey]
  have a':¬es.toList.any (·.refKey)=true:=by rw[a];exact a0m
  rw[if_neg a']
  exact congrArg some e
theorem ObjM.look{h:Heap}{x dx C:Addr}{mA:Str->Option Value}(I:ObjM h x dx C mA):∃od,PySem.W.InstAt h x (PySem.W.instObj C dx) C (some od)/\∀name,PySem.W.lookIn name od=some (mA name):=
 let ⟨od,ho,hl⟩:=MA I.ns
 ⟨od,⟨I.obj,rfl,rfl,ho⟩,hl⟩
theorem B1.some_of{v:V}{o:Option Value}(r:B1 (some v) o):∃u,o=some u/\bQ v u:=by
 cases o with
 |none=>exact (show False from r).elim
 |some u=>exact⟨u,rfl,r⟩
section
variable{P:Program}{w:World}{H H':Hp}{h h':Heap}{a C dx:Ac}{fs fs':List (Str×V)}
theorem UT(hok:oE P w H h)(e:H a=some (.ins C dx fs)):∃mA,ObjM h a dx C mA/\(∀f,B1 (fs.lookup f) (mA f))/\PySem.Within mA (fs.map (·.1))/\fs.length<=1000/\H dx=some (.own a):=by
 obtain⟨d,z,ne,ob,mA,n,r,q⟩:=(show cI P w H h a (.ins C dx fs) from hok a _ e)
 exact⟨mA,⟨ob,n,ne⟩,r,q,z,d⟩
end
structure Cls(K:PySem.W.Frag)(C:Addr):Prop where
 pg:PySem.W.plainGet K C Str.empty=true
 hd:PySem.W.hasDictIn K C=true
 po:PySem.W.plainOver K C=true
 sa:PySem.W.findIn K (.ref C) "__setattr__"=some (some (.builtin "object.__setattr__"))
theorem Cls.get{K:Aa}{C:Ac}(c:Cls K C)(f:Str):PySem.W.plainGet K C f=true:=c.pg
section
variable{X:Cx}{pins:List (Ac×Obj)}{σ:St}{H:Hp}{s:Ab}{A:Around}{E:Value->Ab->Prop}{Q:Value->Ab->Prop}{c:Value}{b:Bool}
inductive TyOf (K:PySem.W.Frag) (H:Hp):V->Value->Prop where
 |non:TyOf K H .non (.type "NoneType")
 |bl (x:Bool):TyOf K H (.bl x) (.type "bool")
 |int (i:Int):TyOf K H (.int i) (.type "int")
 |str (x:Str):TyOf K H (.str x) (.type "str")
 |flt (x:UInt64):TyOf K H (.flt x) (.type "float")
 |lst {a:Ac} {xs:List V} (e:H a=some (.lst xs)):TyOf K H (.ref a) (.type "list")
 |frz {a:Ac} {o:Obj} {xs:List V} (e:H a=some (.frz o (.lst xs))):TyOf K H (.ref a) (.type "list")
 |tup {a:Ac} {xs:List V} (e:H a=some (.tup xs)):TyOf K H (.ref a) (.type "tuple")
 |dK {a:Ac} {kvs:List (d9×V)} (e:H a=some (.dK kvs)):TyOf K H (.ref a) (.type "dict")
 |dT {a:Ac} {kvs:List (List d9×V)} (e:H a=some (.dT kvs)):TyOf K H (.ref a) (.type "dict")
 | ins {a C dx:Addr} {fs:List (Str×V)} (e:H a=some (.ins C dx fs)) (cl:Cls K C) (ha:PySem.W.findIn K (.ref C) "__class__"=some (some (.builtin "object.__class__")))
   (hn:PySem.W.specialIn K (.builtin "object.__class__") "__get__"=some (some (.builtin "getset_descriptor.__get__"))) (htk:PySem.W.takesIn K (.builtin "object.__class__")=some true)
   (hm:PySem.W.mroIn K C (.type "object")=some true):TyOf K H (.ref a) (.ref C)
theorem M3 {x:V} {u t:Value} (I:Inv X pins σ H s) (rx:bQ x u) (ty:TyOf X.K H x t) (e:PySem.W.kitOne X.K t c=some b) (h:∀tk,Q (.bool b) {s with toks:=tk}) :
  wpAny (model X.prog X.w) A (call (.builtin "isinstance") [u,c]) Q E s:=by
 cases ty with
 |non=>cases (show u=Value.none from rx);exact a2t PySem.W.kitx_none I.kIn True.intro e (λz=>nomatch z) h
 |bl y=>cases (show u=Value.bool y from rx);exact a2t PySem.W.kitx_bool I.kIn True.intro e (λz=>nomatch z) h
 |int i=>obtain⟨t,q⟩:=(show ∃t,u=Value.int i t from rx);cases q;exact a2t PySem.W.kitx_int I.kIn True.intro e (λz=>nomatch z) h
 |str y=>obtain⟨t,q⟩:=(show ∃t,u=Value.str y t from rx);cases q;exact a2t PySem.W.kitx_str I.kIn True.intro e (λz=>nomatch z) h
 |flt y=>obtain⟨t,q⟩:=(show ∃t,u=Value.float y t from rx);cases q;exact a2t PySem.W.kitx_float I.kIn True.intro e (λz=>nomatch z) h
 | @lst a xs ea=>
  cases (show u=Value.ref a from rx)
  obtain⟨_,_,n,_,h1⟩:=(show cI X.prog X.w H s.heap a (.lst xs) from I.hok a _ ea)
  exact a2t PySem.W.kitx_list I.kIn ⟨_,h1,rfl⟩ e (λz=>nomatch z) h
 | @frz a ob xs ea=>
  cases (show u=Value.ref a from rx)
  obtain⟨_,_,_,n,_,h1⟩:=(show cI X.prog X.w H s.heap a (.frz ob (.lst xs)) from I.hok a _ ea)
  exact a2t PySem.W.kitx_list I.kIn ⟨_,h1,rfl⟩ e (λz=>nomatch z) h
 | @tup a xs ea=>
  cases (show u=Value.ref a from rx)
  obtain⟨_,_,_,p⟩:=(show cI X.prog X.w H s.heap a (.tup xs) from I.hok a _ ea)
  obtain⟨o,h1,h2,_⟩:=p
  exact a2t PySem.W.kitx_tuple I.kIn ⟨o,h1,h2⟩ e (λz=>nomatch z) h
 | @dK a kvs ea=>
  cases (show u=Value.ref a from rx)
  obtain⟨_,_,vs,_,p⟩:=(show cI X.prog X.w H s.heap a (.dK kvs) from I.hok a _ ea)
  obtain⟨o,es,ep,h1,h2,_⟩:=p
  exact a2t PySem.W.kitx_dict I.kIn ⟨o,h1,h2.1⟩ e (λz=>nomatch z) h
 | @dT a kvs ea=>
  cases (show u=Value.ref a from rx)
  obtain⟨_,_,xs,_,o,es,ep,h1,h2,_⟩:=(show cI X.prog X.w H s.heap a (.dT kvs) from I.hok a _ ea)
  exact a2t PySem.W.kitx_dict I.kIn ⟨o,h1,h2.1⟩ e (λz=>nomatch z) h
 | @ins a C dx fs ea cl ha hn htk hm=>
  cases (show u=Value.ref a from rx)
  obtain⟨mA,O,_⟩:=UT I.hok ea
  obtain⟨od,J,_⟩:=O.look
  exact a2t (PySem.W.kitx_own (cl.get _) cl.hd ha hn htk hm) I.kIn J e (λz=>nomatch z) h
end
structure Room(k:Nat)(A:Around):Prop where
 hd:A.handled=none
 dp:A.depth+3*k+5<recursionLimit
 un:A.units+16*k+200<cLine
 gd:A.guards=some []:=by rfl
theorem Room.mono{j k:Nat}{A:Around}(r:Room k A)(h:j<=k):Room j A:=⟨r.hd,by have:=r.dp;omega,by have:=r.un;omega,r.gd⟩
theorem Room.deeper{k:Nat}{A:Around}(r:Room (k+1) A)(env:Env):Room k (A.deeper env):=
 ⟨r.hd,by have:=r.dp;show A.depth+1+3*k+5<_;omega,by have:=r.un;show A.units+3+16*k+200<_;omega,r.gd⟩
theorem Room.depth{k:Nat}{A:Around}(r:Room k A):A.depth<recursionLimit:=by have:=r.dp;omega
theorem Room.units{k:Nat}{A:Around}(r:Room k A):A.units+64<cLine:=by have:=r.un;omega
def S9:TA:=λ_ H Q=>Q [] H
def FS(ta:TE)(tr:TA):TA:=λσ H Q=>ta σ H λx H1=>tr σ H1 λxs H2=>Q (x::xs) H2
section
variable{X:Cx}{e:Expr}{es:List Expr}{te:TE}{t:TA}{pos:Pos}
theorem lX:PA X [] S9:=λ_ _ _ _ H Q I h=>Calls.spliced_nil ⟨[],H,I,.nil,h⟩
theorem iB(ha:PE X e te)(hr:PA X es t)(hs:starEach (e::es) X.env=(false,eval e X.env)::starEach es X.env:=by rfl):PA X (e::es) (FS te t):=by
 intro pos pins s σ H Q I h
 rw[hs]
 show wpAny _ _ (spliced ((false,eval e X.env)::backTo pos (starEach es X.env))) _ _ s
 refine Calls.spliced_cons (d8 (ha pins s σ H _ I h) λu s1 ⟨x,H1,I1,r1,q1⟩=>?_)
 exact d8 (hr pos pins s1 σ H1 _ I1 q1) λus s2 ⟨xs,H2,I2,r2,q2⟩=>⟨x::xs,H2,I2,.cons r1 r2,q2⟩
def a7D(t:TA):TE:=λσ H Q=>t σ H λxs H1=>xs.length<=sizeLine/\∀p,H1 p=none->Q (.ref p) (bX H1 p (.tup xs))
def X2(t:TA):TE:=λσ H Q=>t σ H λxs H1=>xs.length<=sizeLine/\∀p,H1 p=none->Q (.ref p) (bX H1 p (.lst xs))
theorem a1D{x1}(h:PA X es t):PE X (.Tuple es x1 pos) (a7D t):=by
 intro pins s σ H Q I hq
 refine wpAny_Tuple_spliced (d8 (h pos pins s σ H _ I hq) λus s1 ⟨xs,H1,I1,r,z,q⟩=>⟨by rw[<- r.length];exact z,?_⟩)
 have hf:H1 s1.heap.objs.size=none:=I1.hok.fresh (a0o _)
 refine⟨.ref s1.heap.objs.size,bX H1 s1.heap.objs.size (.tup xs),I1.laid (t':=s1.toks) (λb u e=>a0f _ e) (a0o _) ?_,rfl,q _ hf⟩
 exact⟨z,us,r,⟨_,a1e _ rfl,rfl,_,rfl⟩⟩
theorem QR(h:PA X es t):PE X (.List es pos) (X2 t):=by
 intro pins s σ H Q I hq
 refine wpAny_List_spliced (d8 (h pos pins s σ H _ I hq) λus s1 ⟨xs,H1,I1,r,z,q⟩=>⟨by rw[<- r.length];exact z,?_⟩)
 have hf:H1 s1.heap.objs.size=none:=I1.hok.fresh (a0o _)
 refine⟨.ref s1.heap.objs.size,bX H1 s1.heap.objs.size (.lst xs),I1.laid (t':=s1.toks) (λb u e=>a0f _ e) (a0o _) ?_,rfl,q _ hf⟩
 exact⟨z,us,0,r,a1e _ rfl⟩
end
abbrev Sp:=List V->Hp->VK->XK->Prop
abbrev NE:=List Env->Hp->Ab->XK->Value->Ab->Prop
structure Env0(P:Program)(w:World)(K:PySem.W.Frag)(mg:Str->Option Value)(base:Heap)(A:Around)(outer:List Env)(s:Shared)(H:Hp):Prop where
 frames:A.frames=some outer
 mod:Mod K mg base
 bs:∀b o,base.get? b=some o->s.heap.get? b=some o/\H b=none
 bsz:base.objs.size<=s.heap.objs.size
 funs:s.heap.FunFrames base outer
 frf:∀b∈OX outer,H b=none
 hok:oE P w H s.heap
 bare:AllBare s.gens
 tb:∀b∈base.life.registered,H b=some .tbl
def CE(outer:List Env)(P:Program)(w:World)(H:Hp)(s:Shared)(Q:VK)(u:Value)(s':Shared):Prop:=
 ∃v H',s'.os=s.os/\(AllBare s'.gens/\GX s.gens s'.gens)/\Un (OX outer) [] H H' s.heap s'.heap/\oE P w H' s'.heap/\bQ v u/\Q v H'
def CR(CX:NE)(outer:List Env)(P:Program)(w:World)(H:Hp)(s:Shared)(Q:VK)(E:XK)(r:Result)(s':Shared):Prop:=
 match r with
 |.ok (.ret u)=>CE outer P w H s Q u s'
 |.ok _=>False
 |.error e=>CX outer H s E e s'
structure FnOk (P:Program) (w:World) (K:PySem.W.Frag) (mg:Str->Option Value) (base:Heap) (CX:NE) (k:Nat) (f:Addr) (fd:FuncData) (ps:List Str) (sp:Sp):Prop where
 len:∀vs H Q E,sp vs H Q E->vs.length=ps.length
 run:∀(A:Around) (outer:List Env) (s:Shared) (H:Hp) (args:Args) (us:List Value) (vs:List V) (Q:VK) (E:XK),Room k A->Env0 P w K mg base A outer s H->BindsTo s fd args (ps.zip us)->bD vs us->sp vs H Q E->
  codeAny (model P w) A (.call (.ref f) args) (CR CX outer P w H s Q E) s
theorem FnOk.imp {P:Program} {w:World} {K:PySem.W.Frag} {mg:Str->Option Value} {base:Heap} {CX:NE} {k:Nat} {f:Addr} {fd:FuncData} {ps:List Str} {sp sp':Sp} (F:FnOk P w K mg base CX k f fd ps sp)
  (h:∀vs H Q E,sp' vs H Q E->sp vs H Q E):FnOk P w K mg base CX k f fd ps sp':=
 ⟨λvs H Q E q=>F.len vs H Q E (h _ _ _ _ q),λA outer s H args us vs Q E hr he hb hv hs=>F.run A outer s H args us vs Q E hr he hb hv (h _ _ _ _ hs)⟩
section
variable{X:Cx}{pins:List (Ac×Obj)}{σ:St}{H:Hp}{s s':Ab}
theorem Inv.env0(I:Inv X pins σ H s):Env0 X.prog X.w X.K X.mg X.base X.A X.stack s H:=
 ⟨I.ok.frames,I.ok.mod,I.bs,a1b I.ok.bsz I.sz,I.stack,I.stkFree,I.hok,I.bare.1,I.tb⟩
theorem Inv.after{Q:VK}{u:Value}(I:Inv X pins σ H s)(h:CE X.stack X.prog X.w H s Q u s'):EP X pins σ Q u s':=by
 obtain⟨v,H',os,bare,un,hok,r,q⟩:=h
 obtain⟨hh,g,d,t,os'⟩:=s'
 obtain rfl:os'=s.os:=os
 exact⟨v,H',I.call (h':=hh) (g':=g) (d':=d) (t':=t) (ch:=[]) un hok bare (λb z=>absurd z (by simp)),r,q⟩
end
def YA(sp:Sp)(dvs:List V)(E:XK)(t:TA):TE:=λσ H Q=>t σ H λvs H1=>sp (vs++dvs) H1 Q E
def zG(K:PySem.W.Frag)(fd:FuncData)(ps:List Str)(ds:List Value):Prop:=
 ∀(s:Ab) (us:List Value),K.In s.heap->(us++ds).length=ps.length->BindsTo s fd ⟨us,[]⟩ (ps.zip (us++ds))
theorem zG.all{K:PySem.W.Frag}{fd:FuncData}{ps:List Str}(h:∀us:List Value,us.length=ps.length->bindArgs fd ⟨us,[]⟩=pure (ps.zip us)):zG K fd ps []:=λs us _ hl=>by
 rw[a5r] at hl ⊢
 exact .of_eq (h us hl)
def GH(CX:NE)(X:Cx)(E:XK):Prop:=∀(pins:List (Ac×Obj)) (σ:St) (H:Hp) (s:Ab) (e:Value) (s':Ab),Inv X pins σ H s->CX X.stack H s E e s'->X.xe e s'
section
variable{X:Cx}{CX:NE}{k:Nat}{f C:Ac}{fd:FuncData}{ps:List Str}{sp:Sp}{dvs:List V}{ds:List Value}{E:XK}{x m:Str}{p pos apos:Pos}{e o:Expr}{es:List Expr}{ta:TE}{t:TA}
theorem a23 {pins:List (Addr×Obj)} {σ:St} {H:Hp} {s:Shared} {Q:VK} {us:List Value} {vs:List V} (F:FnOk X.prog X.w X.K X.mg X.base CX k f fd ps sp) (hr:Room k X.A) (hb:zG X.K fd ps ds) (hd:bD dvs ds) (hx:GH CX X E)
  (I:Inv X pins σ H s) (r:bD vs us) (h:sp (vs++dvs) H Q E):wpAny (model X.prog X.w) X.A (call (.ref f) us) (EP X pins σ Q) X.xe s:=by
 have r2:bD (vs++dvs) (us++ds):=r.append hd
 have hl:(us++ds).length=ps.length:=by rw[<- r2.length];exact F.len _ _ _ _ h
 refine wpAny_call (a6y (F.run X.A X.stack s H ⟨us,[]⟩ (us++ds) (vs++dvs) Q E hr I.env0 (hb s us I.kIn hl) r2 h) λr s' hq=>?_)
 cases r with
 |error e=>exact hx pins σ H s e s' I hq
 | ok fl=>
  cases fl with
  |ret u=>exact I.after hq
  |next=>exact False.elim hq
  |brk=>exact False.elim hq
  |cont=>exact False.elim hq
theorem VP (F:FnOk X.prog X.w X.K X.mg X.base CX k f fd ps sp) (hr:Room k X.A) (hg:Gl X x) (hm:X.mg x=some (.ref f)) (hk:PySem.W.keepIn X.K (.ref f)=true) (hb:zG X.K fd ps ds) (hd:bD dvs ds) (hx:GH CX X E)
  (ha:PA X (e::es) t) (hdb:(x==("__debug__" : Str))=false:=by decide) (he:starEach (e::es) X.env=(false,eval e X.env)::starEach es X.env:=by rfl) (hpl:(backTo pos (starEach es X.env)).any (·.1)=false:=by rfl) :
  PE X (.Call (.Name x p) (e::es) [] pos) (YA sp dvs E t):=by
 intro pins s σ H Q I h
 refine a6g (JS I hg hm ?_ hdb)
 refine PySem.W.callWith_K (h₀:=X.base) I.ok.mod.kin hk (d8 (ha pos pins s σ H _ I h) λus s1 ⟨vs,H1,I1,r,q⟩=>⟨I1.kIn,?_⟩) he hpl
 exact a23 F hr hb hd hx I1 r q
end
structure FnScope(N P:List Str)(sc:Scope):Prop where
 kind:sc.kind= .function
 co:sc.isCoroutine=false
 gen:sc.isGenerator=false
 nd:N.Nodup
 pre:N.take P.length=P
 par:∀x∈P,sc.names.lookup x=some .local\/sc.names.lookup x=some .cell
 nofree:∀y∈sc.names,y.2≠ .free
theorem zM {kindOf:Str->Option NameKind} {x:Str}:∀ {binds:List (Str×Value)} {m:Str->Option Value},(∀v,(x,v)∉binds)->bindL kindOf binds m x=m x
 |[],_,_=>rfl
 | (n,v)::r,m,h=>by
  unfold bindL
  rw[zM λw hw=>h w (a0j _ hw)]
  split
  ·have:x≠n:=by rintro rfl;exact h v a0n
   simp[this]
  ·rfl
theorem zK {kindOf:Str->Option NameKind} {x:Str}:∀ {binds:List (Str×Value)} {m:Str->Option Value},(∀v,(x,v)∉binds)->bindC kindOf binds m x=m x
 |[],_,_=>rfl
 | (n,v)::r,m,h=>by
  unfold bindC
  rw[zK λw hw=>h w (a0j _ hw)]
  split
  ·rfl
  ·have:x≠n:=by rintro rfl;exact h v a0n
   simp[this]
theorem zL {kindOf:Str->Option NameKind} {x:Str} {v:Value}:∀ {P:List Str} {vs:List Value} {i:Nat} {m:Str->Option Value},P.Nodup->P[i]? =some x->vs[i]? =some v->kindOf x=some .local->
  bindL kindOf (P.zip vs) m x=some v
 |[],_,_,_,_,h,_,_=>by simp at h
 |_::_,[],_,_,_,_,h,_=>by simp at h
 | p::P,w::vs,0,m,nd,h1,h2,hk=>by
  simp at h1 h2;subst h1;subst h2
  show bindL kindOf ((p,w)::P.zip vs) m p=_
  unfold bindL
  rw[zM λv hv=>(a2k.mp nd).1 (List.of_mem_zip hv).1,if_pos hk]
  simp
 | p::P,w::vs,i+1,m,nd,h1,h2,hk=>by
  show bindL kindOf ((p,w)::P.zip vs) m x=_
  unfold bindL
  exact zL (i:=i) (a2k.mp nd).2 (by simpa using h1) (by simpa using h2) hk
theorem zJ {kindOf:Str->Option NameKind} {x:Str} {v:Value}:∀ {P:List Str} {vs:List Value} {i:Nat} {m:Str->Option Value},P.Nodup->P[i]? =some x->vs[i]? =some v->kindOf x≠some .local->
  bindC kindOf (P.zip vs) m x=some v
 |[],_,_,_,_,h,_,_=>by simp at h
 |_::_,[],_,_,_,_,h,_=>by simp at h
 | p::P,w::vs,0,m,nd,h1,h2,hk=>by
  simp at h1 h2;subst h1;subst h2
  show bindC kindOf ((p,w)::P.zip vs) m p=_
  unfold bindC
  rw[zK λv hv=>(a2k.mp nd).1 (List.of_mem_zip hv).1,if_neg hk]
  simp
 | p::P,w::vs,i+1,m,nd,h1,h2,hk=>by
  show bindC kindOf ((p,w)::P.zip vs) m x=_
  unfold bindC
  exact zJ (i:=i) (a2k.mp nd).2 (by simpa using h1) (by simpa using h2) hk
def start(N:List Str)(vs:List V):St:=vs.map some++List.replicate (N.length-vs.length) none
def cX(CX:NE)(P:Program)(w:World)(K:PySem.W.Frag)(mg:Str->Option Value)(base:Heap)(N:List Str)(qual:Str)(scope:Scope)(f:Addr)(cd:Value)(A:Around)(outer:List Env)(s:Shared)(H:Hp)(E:XK):Cx where
 prog:=P
 w:=w
 K:=K
 mg:=mg
 base:=base
 A:=A.deeper (envOfC qual scope s.heap.objs.size f cd)
 N:=N
 s₀:=s
 H₀:=H
 env:=envOfC qual scope s.heap.objs.size f cd
 outer:=outer
 stack:=envOfC qual scope s.heap.objs.size f cd::outer
 ex:=[]
 calm:=true
 fn:=λ_=>true
 pn:=[]
 xe:=λe s'=>wpAny (model P w) (A.deeper (envOfC qual scope s.heap.objs.size f cd)) (leaving (envOfC qual scope s.heap.objs.size f cd) e) (λ_ s''=>CX outer H s E e s'') (λe' s''=>CX outer H s E e' s'') s'
theorem DR{sc:Scope}{n:Nat}{x:Str}(h:sc.names.lookup x=some .cell):∃c,(cellsFrom n sc.names []).lookup x=some c:=by
 have q:=PySem.W.cellsFrom_some sc.names n [] (.inl h)
 exact a2f.mp q
theorem M0 {CX:NE} {P:Program} {w:World} {K:PySem.W.Frag} {mg:Str->Option Value} {base:Heap} {N ps:List Str} {qual:Str} {scope:Scope} {f:Addr} {cd:Value} {A:Around} {outer:List Env} {s s1:Shared} {H:Hp} {E:XK} {us:List Value} {vs:List V}
  (S:FnScope N ps scope) (hd:A.handled=none) (e0:Env0 P w K mg base A outer s H) (hl:vs.length=ps.length) (r:bD vs us)
  (x:InCallC s s.heap.objs.size (bindL (envOfC qual scope s.heap.objs.size f cd).kindOf (ps.zip us) λ_=>none) (cellsFrom (s.heap.objs.size+1) scope.names []) (bindC (envOfC qual scope s.heap.objs.size f cd).kindOf (ps.zip us) λ_=>none) s1) :
  Inv (cX CX P w K mg base N qual scope f cd A outer s H E) [] (start N vs) H s1:=by
 have hpl:ps.length<=N.length:=by have:=congrArg List.length S.pre;rw[a2h] at this;omega
 obtain⟨h1,tk,rfl,hk⟩:=x.done
 have noA:∀b:Ac,b∉(cX CX P w K mg base N qual scope f cd A outer s H E).ex:=λb z=>absurd (show b∈([]:List Ac) from z) (by simp)
 refine ⟨⟨e0.mod,S.kind,rfl,rfl,a0o _,λy z c h1 h2=>?_,λy hy=>?_,λy c _ h=>?_,λ_=>hd,Around.frames_deeper e0.frames,.inr ⟨rfl,rfl⟩,λb z=>absurd z (noA b),e0.bs,e0.bsz,λb _ _=>noA b,λb z=>absurd z (noA b),e0.funs,e0.frf,e0.tb⟩,
  rfl,⟨e0.bare,λ_ _ e=>e⟩,Un.kept hk,⟨_,x.toInCall.ns,λi y v h1 h2 h3=>?_⟩,λy c h=>⟨_,x.cell y c h⟩,e0.hok.fresh (a0o _),λy c h=>?_,λp hp=>absurd (show p∈([]:List (Ac×Obj)) from hp) (by simp),e0.hok.kept hk,?_⟩
 ·exact name_of_addr x.apart (a4p h1) (a4p h2)
 ·have hy:scope.names.lookup y=some .cell\/scope.names.lookup y=some .free:=hy
  rcases hy with hy|hy
  ·exact DR hy
  ·exact absurd rfl (S.nofree _ (a4p hy))
 ·exact a3r (x.above y c (a4p h))
 ·have hi:i<vs.length:=by
   unfold start at h2
   by_cases hi:i<vs.length
   ·exact hi
   ·rw[a1g (by simpa using hi)] at h2
    rw[a2a] at h2
    split at h2<;>cases h2
  have ha:vs[i]? =some v:=by
   unfold start at h2
   rw[a1f (by simpa using hi),a0h] at h2
   cases e:vs[i]? with
   |none=>rw[e] at h2;cases h2
   |some a=>rw[e] at h2;cases h2;rfl
  obtain⟨u,hu,rv⟩:=r.get ha
  have hp:ps[i]? =some y:=by
   rw[<- S.pre,List.getElem?_take_of_lt ∅];exact h1
  have ndP:ps.Nodup:=by rw[<- S.pre];exact S.nd.sublist (List.take_sublist _ _)
  refine⟨u,rv,?_⟩
  rcases S.par y (a0k hp) with k|k
  ·exact .inl ⟨k,zL ndP hp hu k⟩
  ·obtain⟨c,e⟩:=DR (n:=s.heap.objs.size+1) k
   refine .inr ⟨.inl k,c,e,?_⟩
   have q:=x.cell y c e
   rw[zJ ndP hp hu (by show scope.names.lookup y≠_;rw[k];decide)] at q
   exact q
 ·exact e0.hok.fresh (a3r (x.above y c (a4p h)))
 ·unfold start
  show _=N.length
  rw[a1l,a0g,a1w]
  omega
theorem XT {CX:NE} {P:Program} {w:World} {K:PySem.W.Frag} {mg:Str->Option Value} {base:Heap} {k:Nat} {f:Addr} {name qual:Str} {params:Arguments} {body:List Stmt} {scope:Scope} {dV kV doc pm cdv ct oc:Value} {an od:Option Addr}
  {osl:Array (Option Value)} {N ps:List Str} {sp:Sp} (lk:K.lookup f=some ⟨oc,od,.func (PySem.W.fnOf name qual params body scope dV kV doc pm an cdv ct),osl⟩) (hcd:PySem.W.codeIn K cdv qual=true) (S:FnScope N ps scope)
  (len:∀vs H Q E,sp vs H Q E->vs.length=ps.length)
  (hbody:∀(A:Around) (outer:List Env) (s:Shared) (H:Hp) (vs:List V) (Q:VK) (E:XK),Room k (A.deeper (envOfC qual scope s.heap.objs.size f cdv))->sp vs H Q E->
   ∃t,zH (cX CX P w K mg base N qual scope f cdv A outer s H E) body t/\t {nx:=λ_ H'=>Q .non H',rt:=Q} (start N vs) H) :
  FnOk P w K mg base CX (k+1) f (PySem.W.fnOf name qual params body scope dV kV doc pm an cdv ct) ps sp:=by
 refine⟨len,λA outer s H args us vs Q E hr e0 hb r hsp=>?_⟩
 have hl:=len _ _ _ _ hsp
 have KX:K.In s.heap:=e0.mod.kin.keeps λb o e=>(e0.bs b o e).1
 have lim:s.heap.NoLimit:=e0.mod.nolimit.keeps λb o e=>(e0.bs b o e).1
 have hkind:∀y∈ps.zip us,scope.names.lookup y.1=some .local\/(scope.names.lookup y.1=some .cell/\((cellsFrom (s.heap.objs.size+1) scope.names []).lookup y.1).isSome=true):=λ⟨n,v⟩ hy=>by
  rcases S.par n (List.of_mem_zip hy).1 with q|q
  ·exact .inl q
  ·exact .inr ⟨q,PySem.W.cellsFrom_some _ _ _ (.inl q)⟩
 refine codeAny_call_function hr.depth (KX _ _ lk) rfl S.co S.gen rfl (PySem.W.codeRec_of KX hcd) (hb _ _ _ _ ?_)
 refine wpAny_newFunctionEnv_cells S.kind hkind λenv he s1 x=>?_
 subst he
 refine⟨lim.keeps x.toInCall.keep,codeAny_func ?_⟩
 obtain⟨t,ht,hq⟩:=hbody A outer s H vs Q E (hr.deeper _) hsp
 have I:Inv (cX CX P w K mg base N qual scope f cdv A outer s H E) [] (start N vs) H s1:=M0 S hr.hd e0 hl r x
 refine a1j (ht [] s1 (start N vs) H _ I hq) (λfl s' hs=>?_) λe s' hs=>hs
 have fin:∀ {σ':St} {H':Hp} {v:V} {u:Value},Inv (cX CX P w K mg base N qual scope f cdv A outer s H E) [] σ' H' s'->bQ v u->Q v H'->CE outer P w H s Q u s':=
  fun {σ' H' v u} J rv q=>⟨v,H',J.os,J.bare,J.base,J.hok,rv,q⟩
 cases fl with
 | ret u=>
  obtain⟨v,σ',H',J,rv,q⟩:=hs
  exact fin J rv q
 | next=>
  obtain⟨σ',H',J,q⟩:=hs
  exact fin (v:=V.non) (u:=Value.none) J rfl q
 | brk=>
  obtain⟨_,_,_,q⟩:=hs
  exact False.elim q
 | cont=>
  obtain⟨_,_,_,q⟩:=hs
  exact False.elim q
section
variable{X:Cx}{x:Str}{p pos:Pos}{e:Expr}{es:List Expr}{t:TA}{id T:String}{r:List V->Hp->VK->Prop}
def Y9(r:List V->Hp->VK->Prop)(t:TA):TE:=λσ H Q=>t σ H λvs H1=>r vs H1 Q
theorem nI (hc:eY X (.builtin id) r) (hg:Gl X x) (hm:X.mg x=none) (hv:bootBuiltins x=some (.builtin id)) (ha:PA X (e::es) t) (hn:x≠ "__name__":=by decide) (hdb:(x==("__debug__" : Str))=false:=by decide)
  (he:starEach (e::es) X.env=(false,eval e X.env)::starEach es X.env:=by rfl) (hpl:(backTo pos (starEach es X.env)).any (·.1)=false:=by rfl):PE X (.Call (.Name x p) (e::es) [] pos) (Y9 r t):=by
 intro pins s σ H Q I h
 refine a6g (p9 I hg hm hv ?_ hn hdb)
 exact PyProof.Rows.callWith_builtin1 (d8 (ha pos pins s σ H _ I h) λus s1 ⟨vs,H1,I1,r1,q1⟩=>hc pins s1 σ H1 vs us Q I1 r1 q1) he hpl
theorem jB (hc:eY X (.type T) r) (hg:Gl X x) (hm:X.mg x=none) (hv:bootBuiltins x=some (.type T)) (ha:PA X (e::es) t) (hn:x≠ "__name__":=by decide) (hdb:(x==("__debug__" : Str))=false:=by decide)
  (he:starEach (e::es) X.env=(false,eval e X.env)::starEach es X.env:=by rfl) (hpl:(backTo pos (starEach es X.env)).any (·.1)=false:=by rfl):PE X (.Call (.Name x p) (e::es) [] pos) (Y9 r t):=by
 intro pins s σ H Q I h
 refine a6g (p9 I hg hm hv ?_ hn hdb)
 exact a4h (d8 (ha pos pins s σ H _ I h) λus s1 ⟨vs,H1,I1,r1,q1⟩=>hc pins s1 σ H1 vs us Q I1 r1 q1) he hpl
end
end L2
namespace HT
open PySem PyProof.Rows
section
open PySem.SeqAt
open PySem.AutoSeq1 (wpAny_loadPart')
open PySem.MeetsSeq PySem.MeetsSeq2 PySem.MeetsSeq3
end
section
variable{prog:Program}{w:World}{A:Around}{E:Value->Ab->Prop}{s:Ab}
def sIx(n d:Nat):Option Int->Nat
 |none=>d
 |some v=>if v<0 then (v+(n:Int)).toNat else min v.toNat n
theorem sIx_none(n d:Nat):sIx n d none=d:=rfl
theorem sIx_le (n d:Nat) (hd:d<=n) (o:Option Int):sIx n d o<=n:=by
 cases o with
 |none=>exact hd
 | some v=>
  show (if v<0 then (v+(n:Int)).toNat else min v.toNat n)<=n
  by_cases hv:v<0
  ·rw[if_pos hv];omega
  ·rw[if_neg hv];exact Nat.min_le_right _ _
theorem clip_eq(v:Int)(n d:Nat):(if v<0 then max (v+(n:Int)) 0 else min v (n:Int))=((sIx n d (some v):Nat):Int):=by
 show (if v<0 then max (v+(n:Int)) 0 else min v (n:Int))=(((if v<0 then (v+(n:Int)).toNat else min v.toNat n):Nat):Int)
 by_cases hv:v<0
 ·simp only[if_pos hv];omega
 ·simp only[if_neg hv];omega
theorem adjust_gen (lo hi:Option Int) (n:Nat):Builtin.Slice.sliceAdjust lo hi 1 (n:Int)=(((sIx n 0 lo:Nat):Int),((sIx n n hi:Nat):Int)):=by
 have h1:¬((1:Int)<0):=by omega
 unfold Builtin.Slice.sliceAdjust
 simp only[h1,a6q]
 refine Prod.ext ?_ ?_
 ·cases lo with
  |none=>rfl
  |some v=>exact clip_eq v n 0
 ·cases hi with
  |none=>rfl
  |some v=>exact clip_eq v n n
theorem places_gen(i j:Nat):Builtin.Slice.slicePlaces (i:Int) (j:Int) 1=j-i:=by
 unfold Builtin.Slice.slicePlaces
 have h1:(1:Int)>0:=by omega
 simp only[h1,a6e,Int.ediv_one]
 split<;>omega
theorem slicePart_{v:Value}{o:Option Int}{Q:Option Int->Shared->Prop}(p:IsPart v o)(h:Q o s):wpAny (model prog w) A (Builtin.Slice.slicePartIndex v) Q E s:=by
 cases p with
 |none=>exact slicePart_none h
 |int i t=>exact slicePart_int h
theorem sliceApplied_gen {sl:Addr} {vl vu:Value} {lo hi:Option Int} {n:Nat} {Q:Int×Int×Nat->Shared->Prop} (hs:s.heap.IsSliceOf sl vl vu .none) (pl:IsPart vl lo) (pu:IsPart vu hi)
  (h:Q (((sIx n 0 lo:Nat):Int),1,sIx n n hi-sIx n 0 lo) s):wpAny (model prog w) A (Builtin.Slice.sliceApplied (.ref sl) (pure (n:Int))) Q E s:=by
 obtain⟨os,hos,hcs,hds⟩:=id hs
 unfold Builtin.Slice.sliceApplied Builtin.Slice.sliceFields
 refine a0b (a0b (wpAny_field hos hds (x:=vl) rfl (a0b (wpAny_field hos hds (x:=vu) rfl (a0b (wpAny_field hos hds (x:=.none) rfl (a0d ?_)))))))
 refine a0b (slicePart_none ?_)
 show wpAny _ _ (if ((1:Int)==0)=true then _ else _) _ _ s
 rw[if_neg (by decide)]
 refine a0b (slicePart_ pl (a0b (slicePart_ pu (a0b (a0d ?_)))))
 show wpAny _ _ (match Builtin.Slice.sliceAdjust lo hi 1 (n:Int) with|(lo,hi)=>pure (lo,(1:Int),Builtin.Slice.slicePlaces lo hi 1)) _ _ s
 rw[adjust_gen lo hi n]
 show wpAny _ _ (pure (((sIx n 0 lo:Nat):Int),(1:Int),Builtin.Slice.slicePlaces ((sIx n 0 lo:Nat):Int) ((sIx n n hi:Nat):Int) 1)) _ _ s
 rw[places_gen]
 exact a0d h
theorem pick_gen (xs:Array Value) (i k:Nat):((List.range k).filterMap λ(m:Nat)=>xs[((i:Int)+(m:Int)*1).toNat]?).toArray=((xs.toList.drop i).take k).toArray:=by
 have e:(λ(m:Nat)=>xs[((i:Int)+(m:Int)*1).toNat]?)=λm=>xs[i+m]?:=by
  funext m
  have:((i:Int)+(m:Int)*1).toNat=i+m:=by omega
  rw[this]
 rw[e]
 have:=pick_run xs i k
 rw[a4f] at this
 have e2:((λx=>xs[x]?)∘λx=>i+x)=λm=>xs[i+m]?:=rfl
 rw[e2] at this
 rw[this]
theorem getItem_tuple_cut {t sl:Addr} {items:Array Value} {vl vu:Value} {lo hi:Option Int} {Q:Value->Shared->Prop} (ht:IsTup s.heap t items) (hs:s.heap.IsSliceOf sl vl vu .none) (pl:IsPart vl lo) (pu:IsPart vu hi)
  (hw:¬(sIx items.size 0 lo=0/\sIx items.size items.size hi=items.size))
  (h:Q (.ref s.heap.objs.size) {s with heap:=s.heap.push {cls:=.type "tuple",data:=.seq ((items.toList.drop (sIx items.size 0 lo)).take (sIx items.size items.size hi-sIx items.size 0 lo)).toArray} })
  (hsz:items.size<=sizeLine):wpAny (model prog w) A (getItem (.ref t) (.ref sl)) Q E s:=by
 have htake:sizeOk (.seq ((items.toList.drop (sIx items.size 0 lo)).take (sIx items.size items.size hi-sIx items.size 0 lo)).toArray):=by
  show ((items.toList.drop (sIx items.size 0 lo)).take (sIx items.size items.size hi-sIx items.size 0 lo)).toArray.size<=sizeLine
  rw[a0r,a2h,a6j,a0w]
  omega
 have hj:sIx items.size items.size hi<=items.size:=sIx_le _ _ (a0o _) hi
 obtain⟨os,hos,hcs,hds⟩:=id hs
 have hTs:s.TypeIs (.ref sl) "slice":=⟨os,hos,hcs⟩
 unfold getItem
 try with_reducible refine a2e ?_
 first|refine a0b (a0d ?_)|skip
 refine a0b (wpAny_sequenceKey ht.typeIs (by decide) ?_)
 refine a0b (a4g (name:=Str.ofString "__getitem__") ht.typeIs a5d
  (a3e a5d ht.typeIs entry_tuple_getitem ?_ (args_tuple_getitem _ _)))
 show wpAny _ _ (Builtin.Tuple.tupleItemsOf (.ref t) >>=_) _ _ s
 refine a0b (tupleItemsOf_ ht ?_)
 refine a0b (wpAny_typeOf hTs ?_)
 rw[if_pos (by decide)]
 refine a0b (sliceApplied_gen hs pl pu ?_)
 have hno:¬((((sIx items.size 0 lo:Nat):Int)==0&&(1:Int)==1&&(sIx items.size items.size hi-sIx items.size 0 lo)==items.size)=true):=by
  intro q
  rw[a1d,a1d] at q
  have q1:((sIx items.size 0 lo:Nat):Int)=0:=eq_of_beq q.1.1
  have q2:sIx items.size items.size hi-sIx items.size 0 lo=items.size:=eq_of_beq q.2
  exact hw ⟨by omega,by omega⟩
 show wpAny _ _ (if (((sIx items.size 0 lo:Nat):Int)==0&&(1:Int)==1&&(sIx items.size items.size hi-sIx items.size 0 lo)==items.size)=true then _ else _) _ _ s
 rw[if_neg hno,pick_gen]
 first
  |exact a0b (m:=Builtin.Tuple.tupleExact _) (a2b (a0d ⟨_,rfl,a0d h⟩) htake)
  |exact a0b (m:=Builtin.Tuple.tupleExact _) (a2b (a0b (a0d (a0d ⟨_,rfl,a0d h⟩))) htake)
  |exact a0b (a0b (m:=Builtin.Tuple.tupleExact _) (a2b (a0d (a0d ⟨_,rfl,a0d h⟩)) htake))
  |exact a0b (a0b (m:=Builtin.Tuple.tupleExact _) (a2b (a0d ⟨_,rfl,a0d h⟩) htake))
end
end HT
namespace L2
open PySem PySem.Spec PyProof.Rows
abbrev TO:=St->Hp->(Option Int->Hp->Prop)->Prop
def PO (X:Cx) (e:Option Expr) (t:TO):Prop:=
 ∀ (pins:List (Addr×Obj)) (s:Shared) (σ:St) (H:Hp) (Q:Option Int->Hp->Prop),Inv X pins σ H s->t σ H Q->
  wpAny (model X.prog X.w) X.A (evalPart e X.env) (λu s'=>∃o H',Inv X pins σ H' s'/\IsPart u o/\Q o H') X.xe s
def X5:TO:=λ_ H Q=>Q none H
def a5E(t:TE):TO:=λσ H Q=>t σ H λx H1=>∃i,x= .int i/\Q (some i) H1
theorem wA {ns:List Int}:∀ {us:List Value},bD (ns.map V.int) us->IntsAre us ns:=by
 induction ns with
 |nil=>intro us r;rw[a5u] at r;cases r;exact .nil
 | cons n ns ih=>
  intro us r
  rw[a0i] at r
  cases r with
  | cons r1 r2=>
   obtain⟨t,e⟩:=r1
   subst e
   exact .cons n t (ih r2)
section
variable{X:Cx}{e:Expr}{te:TE}{lo hi:Option Expr}{tl th:TO}{pos p2:Pos}
theorem VX:PO X none X5:=by
 intro pins s σ H Q I h
 rw[evalPart_none]
 exact a0d ⟨none,H,I,.none,h⟩
theorem VY(h:PE X e te):PO X (some e) (a5E te):=by
 intro pins s σ H Q I hw
 rw[evalPart_some]
 refine d8 (h pins s σ H _ I hw) λu s1 ⟨x,H1,I1,r1,q1⟩=>?_
 obtain⟨i,rfl,q⟩:=q1
 obtain⟨t,rfl⟩:=r1
 exact⟨some i,H1,I1,.int i t,q⟩
def a5U (X:Cx) (r:V->Option Int->Option Int->Hp->VK->Prop):Prop:=
 ∀ (pins:List (Addr×Obj)) (s:Shared) (σ:St) (H:Hp) (x:V) (v vl vu:Value) (lo hi:Option Int) (sl:Addr) (Q:VK),Inv X pins σ H s->bQ x v->s.heap.IsSliceOf sl vl vu .none->IsPart vl lo->IsPart vu hi->r x lo hi H Q->
  ∃T id,typeLookup (.type T) "__getitem__"=pure (some (.builtin id))/\s.TypeIs v T/\wpAny (model X.prog X.w) X.A (getItem v (.ref sl)) (EP X pins σ Q) X.xe s
def a81(r:V->Option Int->Option Int->Hp->VK->Prop)(te:TE)(tl th:TO):TE:=λσ H Q=>te σ H λx H1=>tl σ H1 λl H2=>th σ H2 λu H3=>r x l u H3 Q
theorem QU{r:V->Option Int->Option Int->Hp->VK->Prop}(hr:a5U X r)(he:PE X e te)(hl:PO X lo tl)(hu:PO X hi th):PE X (.Subscript e (.Slice lo hi none p2) pos) (a81 r te tl th):=by
 intro pins s σ H Q I h
 refine Subscript_ (d8 (he pins s σ H _ I h) λv s1 ⟨x,H1,I1,r1,q1⟩=>?_)
 refine wpAny_Slice (d8 (hl pins s1 σ H1 _ I1 q1) λvl s2 ⟨l,H2,I2,pl,q2⟩=>d8 (hu pins s2 σ H2 _ I2 q2) λvu s3 ⟨u,H3,I3,pu,q3⟩=>?_)
 rw[evalPart_none]
 refine a0d ?_
 have I4:Inv X pins σ H3 {s3 with heap:=s3.heap.push {cls:=.type "slice",data:=.fields #[vl,vu,.none]} }:=I3.kept (t':=s3.toks) λb ob q=>a0f _ q
 obtain⟨T,id,hT,ht,hg⟩:=hr pins {s3 with heap:=s3.heap.push {cls:=.type "slice",data:=.fields #[vl,vu,.none]} } σ H3 x v vl vu l u s3.heap.objs.size Q I4 r1 (Heap.IsSliceOf.new ..) pl pu q3
 show wpAny (model X.prog X.w) X.A (subscriptTail e (.Slice lo hi none p2) v (.ref s3.heap.objs.size)) (EP X pins σ Q) X.xe {s3 with heap:=s3.heap.push {cls:=.type "slice",data:=.fields #[vl,vu,.none]} }
 exact tail_any (ops:=[.ref s3.heap.objs.size,v]) ht hT hg (by with_unfolding_all rfl)
def DT(xs:List V)(lo hi:Option Int):List V:=(xs.drop (HT.sIx xs.length 0 lo)).take (HT.sIx xs.length xs.length hi-HT.sIx xs.length 0 lo)
theorem tT(xs:List V)(lo hi:Option Int):(DT xs lo hi).length<=xs.length:=by
 unfold DT
 rw[a2h,a6j]
 omega
def a4Y(K:PySem.W.Frag):V->Option Int->Option Int->Hp->VK->Prop:=λx lo hi H Q=>∃a xs,x= .ref a/\eQ K H a xs/\
 ¬(HT.sIx xs.length 0 lo=0/\HT.sIx xs.length xs.length hi=xs.length)/\∀p,H p=none->Q (.ref p) (bX H p (.tup (DT xs lo hi)))
theorem a2A:a5U X (a4Y X.K):=by
 intro pins s σ H x v vl vu lo hi sl Q I rx hs pl pu h
 obtain⟨a,xs,rfl,hx,hw,q⟩:=h
 cases rx
 obtain⟨its,r,ht,hz⟩:=I.tuple hx
 have hlen:its.toArray.size=xs.length:=by rw[a0r];exact r.length.symm
 refine⟨"tuple",_,a5d.lookup,ht.typeIs,?_⟩
 refine HT.getItem_tuple_cut ht hs pl pu (by rw[hlen];exact hw) ?_ (by rw[hlen];exact hz)
 rw[hlen]
 refine⟨.ref s.heap.objs.size,_,I.laid (t':=s.toks) (o:=.tup (DT xs lo hi)) (λb ob q=>a0f _ q) (a0o _) ?_,rfl,q _ (I.hok.fresh (a0o _))⟩
 exact⟨a1b (tT xs lo hi) hz,_,(r.drop (HT.sIx xs.length 0 lo)).take (HT.sIx xs.length xs.length hi-HT.sIx xs.length 0 lo),IsTup.new _ _⟩
end
def yD(n:Nat)(i:Int):Option Nat:=if 0<=i then (if i<n then some i.toNat else none) else if -(n:Int)<=i then some (i+n).toNat else none
def kZ{α:Type}(xs:List α)(i:Int):Option α:=(yD xs.length i).bind λj=>xs[j]?
theorem JO {n:Nat} {i:Int} {j:Nat} (h:yD n i=some j):seqIndex? i n=some j/\j<n/\-(n:Int)<=i/\i<n:=by
 unfold yD at h
 by_cases h0:0<=i
 ·rw [if_pos h0] at h
  by_cases h1:i<n
  ·rw[if_pos h1] at h
   have e:i.toNat=j:=a1i h
   exact⟨by rw[seqIndex_of h0 h1,e],by omega,by omega,h1⟩
  ·rw[if_neg h1] at h;cases h
 ·rw [if_neg h0] at h
  by_cases h1:-(n:Int)<=i
  ·rw[if_pos h1] at h
   have e:(i+n).toNat=j:=a1i h
   exact⟨by rw[seqIndex_neg ∅ h1,e],by omega,h1,by omega⟩
  ·rw[if_neg h1] at h;cases h
theorem B7 {α:Type} {xs:List α} {i:Int} {v:α} (h:kZ xs i=some v):∃j,seqIndex? i xs.length=some j/\xs[j]? =some v/\j<xs.length/\-(xs.length:Int)<=i/\i<xs.length:=by
 unfold kZ at h
 cases e:yD xs.length i with
 |none=>rw[e] at h;cases h
 | some j=>
  rw[e] at h
  obtain⟨h1,h2,h3,h4⟩:=JO e
  exact⟨j,h1,h,h2,h3,h4⟩
theorem T9 {α:Type} {xs:List α} {j:Nat} {v:α} (h:xs[j]? =some v):kZ xs (j:Int)=some v:=by
 have hj:j<xs.length:=(a0e.mp h).1
 have e:yD xs.length (j:Int)=some j:=by
  unfold yD
  rw[if_pos ∅,if_pos ∅];simp
 unfold kZ;rw[e];exact h
theorem DJ {α:Type} (xs:List α) (v:α):kZ (xs++[v]) (-1)=some v:=by
 have hl:(xs++[v]).length=xs.length+1:=by simp
 have e:yD (xs++[v]).length (-1)=some xs.length:=by
  unfold yD
  rw[hl,if_neg (by decide),if_pos ∅]
  congr 1
  omega
 unfold kZ
 rw[e]
 show (xs++[v])[xs.length]? =some v
 simp
def T4(b:Expr):Prop:=∀o i,subscripted b false o i=operate [o,i] (getItem o i)
def NF (X:Cx) (r:R2):Prop:=
 ∀ (value slice:Expr) (pins:List (Addr×Obj)) (s:Shared) (σ:St) (H:Hp) (x y:V) (v u:Value) (Q:VK),Inv X pins σ H s->bQ x v->bQ y u->r x y H Q->
  subscripted slice false v u=operate [v,u] (getItem v u)->wpAny (model X.prog X.w) X.A (subscriptTail value slice v u) (EP X pins σ Q) X.xe s
def a7H (X:Cx) (id:String) (r:V->List V->Hp->VK->Prop):Prop:=
 ∀ (pins:List (Addr×Obj)) (s:Shared) (σ:St) (H:Hp) (x:V) (xs:List V) (v:Value) (us:List Value) (Q:VK),Inv X pins σ H s->bQ x v->bD xs us->r x xs H Q->
  wpAny (model X.prog X.w) X.A (call (.builtin id) (v::us)) (EP X pins σ Q) X.xe s
section
variable{X:Cx}{a b:Expr}{ta tb:TE}{pos:Pos}
theorem NF.or{r r':R2}(h:NF X r)(h':NF X r'):NF X (λx y H Q=>r x y H Q\/r' x y H Q):=by
 intro value slice pins s σ H x y v u Q I rx ry q hs
 rcases q with q|q
 ·exact h value slice pins s σ H x y v u Q I rx ry q hs
 ·exact h' value slice pins s σ H x y v u Q I rx ry q hs
theorem Y3{r:R2}(hr:NF X r)(ha:PE X a ta)(hb:PE X b tb)(hs:T4 b):PE X (.Subscript a b pos) (SA r ta tb):=by
 intro pins s σ H Q I h
 exact Subscript_ (YI ha hb I h λv u s2 x y H2 I2 rx ry q=>hr a b pins s2 σ H2 x y v u Q I2 rx ry q (hs _ _))
def WL(K:Aa):R2:=λx y H Q=>∃p xs i v,x= .ref p/\y= .int i/\dO K H p xs/\kZ xs i=some v/\Q v H
def a4V(K:Aa):R2:=λx y H Q=>∃p xs i v,x= .ref p/\y= .int i/\eQ K H p xs/\kZ xs i=some v/\Q v H
def a4U:R2:=λx y H Q=>∃z i c,x= .str z/\y= .int i/\z.length<=sizeLine/\kZ z.cps.toList i=some c/\Q (.str ⟨#[c]⟩) H
theorem BP:NF X (WL X.K):=by
 intro value slice pins s σ H x y v u Q I rx ry h hs
 obtain⟨p,xs,i,z,rfl,rfl,hq,he,q⟩:=h
 cases rx
 obtain⟨t,rfl⟩:=ry
 obtain⟨its,r,pl,hz⟩:=I.list hq
 obtain⟨j,h1,h2,h3,h4,h5⟩:=B7 he
 obtain⟨w,ew,rw'⟩:=r.get h2
 have hl:=r.length
 have hn:=pA
 have fin:EP X pins σ Q w s:=⟨z,H,I,rw',q⟩
 by_cases h0:0<=i
 ·have hj:i.toNat=j:=by
   rw[seqIndex_of h0 h5] at h1
   exact a1i h1
  exact item_listR pl.isList h0 ∅ (by rw[hj];simpa using ew) fin hs
 ·have hj:(i+(its.toArray.size:Int)).toNat=j:=by
   rw[seqIndex_neg ∅ h4] at h1
   rw[a0r,<- hl]
   exact a1i h1
  exact subscriptTail_builtinR (x:=w) pl.isList.typeIs slot_list_getitem.lookup
   (wpAny_getItem_list_neg (Q:=λr s'=>r=w/\EP X pins σ Q r s') pl.isList ∅ (by rw[a0r]<;>omega) ∅ (by rw[hj];simpa using ew) ⟨rfl,fin⟩) hs
theorem a01:NF X (a4V X.K):=by
 intro value slice pins s σ H x y v u Q I rx ry h hs
 obtain⟨p,xs,i,z,rfl,rfl,hq,he,q⟩:=h
 cases rx
 obtain⟨t,rfl⟩:=ry
 obtain⟨its,r,pl,hz⟩:=I.tuple hq
 obtain⟨j,h1,h2,h3,h4,h5⟩:=B7 he
 obtain⟨w,ew,rw'⟩:=r.get h2
 have hl:=r.length
 have hn:=pA
 have fin:EP X pins σ Q w s:=⟨z,H,I,rw',q⟩
 exact subscriptTail_builtinR (x:=w) pl.typeIs slot_tuple_getitem.lookup
  (getItem_tuple (j:=j) (Q:=λr s'=>r=w/\EP X pins σ Q r s') pl ∅ ∅ (by rw[a0r,<- hl];exact h1) (by simpa using ew) ⟨rfl,fin⟩) hs
theorem a00:NF X a4U:=by
 intro value slice pins s σ H x y v u Q I rx ry h hs
 obtain⟨z,i,c,rfl,rfl,hz,he,q⟩:=h
 obtain⟨t,rfl⟩:=rx
 obtain⟨t',rfl⟩:=ry
 obtain⟨j,h1,h2,h3,h4,h5⟩:=B7 he
 have hl:z.cps.toList.length=z.length:=by simp[Str.length]
 rw[hl] at h1 h4 h5
 have hn:=pA
 exact tail_any (typeIs_str s z t) slot_str_getitem.lookup (getItem_str (c:=c) (by
  have e1:decide (i < -(2^63:Int))=false:=a1y ∅
  have e2:decide (i≥2^63)=false:=a1y ∅
  rw[e1,e2,Bool.or_false]) (by rw[h1];simpa using h2) ⟨.str ⟨#[c]⟩,H,I.tok _,⟨_,rfl⟩,q⟩) hs
def a7X(K:Aa):R2:=λx y H Q=>WL K x y H Q\/a4V K x y H Q\/a4U x y H Q
theorem ZZ:NF X (a7X X.K):=BP.or (a01.or a00)
theorem HI(its:List Value)(n j:Nat)(u:Value):Obj.mapSeq (·.setIfInBounds j u) {cls:=.type "list",data:=.seq its.toArray n}={cls:=.type "list",data:=.seq (its.set j u).toArray n}:=by
 simp[Obj.mapSeq]
theorem Inv.lst {pins:List (Addr×Obj)} {σ:St} {H:Hp} {s:Shared} {p:Addr} {xs:List V} (I:Inv X pins σ H s) (h:H p=some (.lst xs)) :
  ∃(its:List Value) (n:Nat),bD xs its/\s.heap.get? p=some {cls:=.type "list",data:=.seq its.toArray n}/\xs.length<=sizeLine:=by
 obtain⟨z,its,n,r,e⟩:=I.hok p _ h
 exact⟨its,n,r,e,z⟩
theorem Inv.lstUpd {pins:List (Addr×Obj)} {σ:St} {H:Hp} {s:Shared} {p:Addr} {xs ys:List V} {its its':List Value} {n n':Nat} {f:Obj->Obj} (I:Inv X pins σ H s) (h:H p=some (.lst xs))
  (ho:s.heap.get? p=some {cls:=.type "list",data:=.seq its.toArray n}) (hf:f {cls:=.type "list",data:=.seq its.toArray n}={cls:=.type "list",data:=.seq its'.toArray n'}) (r:bD ys its') (hz:ys.length<=sizeLine) (t:Nat) :
  Inv X pins σ (bX H p (.lst ys)) {s with heap:=s.heap.update p f,toks:=t}:=by
 have e:(s.heap.update p f).get? p=some {cls:=.type "list",data:=.seq its'.toArray n'}:=by
  rw[a2m f ho (by rw[hf]<;>rfl),hf]
 refine I.write (x:=p) (e:=p) (by rw[h];trivial) (.inl rfl) (λb u hb q=>(a2j _ _ (a3b hb)).trans q) ⟨_,e⟩ ?_
 exact⟨hz,its',n',r,e⟩
def AM:V->V->V->Hp->(Hp->Prop)->Prop:=λo i v H Q=>∃p xs k j,o= .ref p/\i= .int k/\H p=some (.lst xs)/\yD xs.length k=some j/\Q (bX H p (.lst (xs.set j v)))
theorem rV:YE X AM:=by
 intro pins s σ H o i v ov iv u Q I ro ri rv h
 obtain⟨p,xs,k,j,rfl,rfl,hp,hj,q⟩:=h
 cases ro
 obtain⟨t,rfl⟩:=ri
 obtain⟨its,n,r,ho,hz⟩:=I.lst hp
 obtain⟨h1,h2,h3,h4⟩:=JO hj
 have hl:=r.length
 have hn:=pA
 have I':Inv X pins σ (bX H p (.lst (xs.set j v))) {s with heap:=s.heap.update p (Obj.mapSeq (·.setIfInBounds j u))}:=
  I.lstUpd hp ho (HI its n j u) (r.set rv j) (by rw[List.length_set];exact hz) s.toks
 by_cases h0:0<=k
 ·have hk:k.toNat=j:=by
   rw[seqIndex_of h0 h4] at h1
   exact a1i h1
  exact PySem.W.ki_setAt ho h0 ∅ (by rw[a0r,<- hl];exact h4) (by rw[hk];exact⟨_,I',q⟩)
 ·have hk:(k+(its.toArray.size:Int)).toNat=j:=by
   rw[seqIndex_neg ∅ h3] at h1
   rw[a0r,<- hl]
   exact a1i h1
  exact PySem.W.ki_setBack ho ∅ (by rw[a0r,<- hl];exact h3) ∅ (by rw[hk];exact⟨_,I',q⟩)
theorem CO (lo hi:Option Int) (n:Nat):(sliceBounds lo hi none n).1=((HT.sIx n 0 lo:Nat):Int)/\(sliceBounds lo hi none n).2.1=((HT.sIx n n hi:Nat):Int)/\(sliceBounds lo hi none n).2.2=1:=by
 refine⟨?_,?_,rfl⟩
 ·cases lo with
  |none=>simp[sliceBounds,HT.sIx]
  | some i=>
   simp only[sliceBounds,HT.sIx,Option.getD_none,show (1:Int)>0 by decide,a6e]
   by_cases h:i<0
   ·simp only[h,a6e]<;>omega
   ·simp only[h,a6q]<;>omega
 ·cases hi with
  |none=>simp[sliceBounds,HT.sIx]
  | some i=>
   simp only[sliceBounds,HT.sIx,Option.getD_none,show (1:Int)>0 by decide,a6e]
   by_cases h:i<0
   ·simp only[h,a6e]<;>omega
   ·simp only[h,a6q]<;>omega
theorem z9(its:List Value)(lo hi:Option Int):slicePick its.toArray lo hi none=((its.drop (HT.sIx its.length 0 lo)).take (HT.sIx its.length its.length hi-HT.sIx its.length 0 lo)).toArray:=by
 obtain⟨h1,h2,h3⟩:=CO lo hi its.toArray.size
 unfold slicePick
 rw[h1,h2,h3]
 simp only[sliceRange_one,pick_run,a0r]<;>rfl
def a4X(K:Aa):V->Option Int->Option Int->Hp->VK->Prop:=λx lo hi H Q=>∃a xs,x= .ref a/\dO K H a xs/\∀p,H p=none->Q (.ref p) (bX H p (.lst (DT xs lo hi)))
theorem WT:a5U X (a4X X.K):=by
 intro pins s σ H x v vl vu lo hi sl Q I rx hs pl pu h
 obtain⟨a,xs,rfl,hx,q⟩:=h
 cases rx
 obtain⟨its,r,ht,hz⟩:=I.list hx
 have hlen:=r.length
 refine⟨"list",_,slot_list_getitem.lookup,ht.isList.typeIs,?_⟩
 refine wpAny_getItem_list_slice ht.isList hs pl pu .none (by simp) ?_ (by rw[a0r]<;>omega)
 rw[z9,<- hlen]
 refine⟨.ref s.heap.objs.size,_,I.laid (t':=s.toks) (o:=.lst (DT xs lo hi)) (λb ob q=>a0f _ q) (a0o _) ?_,rfl,q _ (I.hok.fresh (a0o _))⟩
 exact⟨a1b (tT xs lo hi) hz,_,0,(r.drop (HT.sIx xs.length 0 lo)).take (HT.sIx xs.length xs.length hi-HT.sIx xs.length 0 lo),a1e _ rfl⟩
theorem BG:eY X (.builtin "len") (λxs H Q=>∃p ys,xs=[.ref p]/\(dO X.K H p ys\/eQ X.K H p ys)/\Q (.int ys.length) H):=by
 intro pins s σ H xs us Q I r h
 obtain⟨p,ys,rfl,hq,q⟩:=h
 obtain⟨u,rfl,rx⟩:=nW r
 cases rx
 have hn:=pA
 rcases hq with hq|hq
 ·obtain⟨its,r',pl,hz⟩:=I.list hq
  have hlen:=r'.length
  exact Calls.call_len_list pl.isList (by simp only[a0r]<;>omega) ⟨.int ys.length,H,I.tok _,⟨s.toks+1,by rw[a0r,hlen]⟩,q⟩
 ·obtain⟨its,r',pl,hz⟩:=I.tuple hq
  have hlen:=r'.length
  exact len_tuple pl (by simp only[a0r]<;>omega) ⟨.int ys.length,H,I.tok _,⟨s.toks+1,by rw[a0r,hlen]⟩,q⟩
theorem BH:eY X (.type "list") (λxs H Q=>∃p ys,xs=[.ref p]/\(dO X.K H p ys\/eQ X.K H p ys)/\∀l,H l=none->Q (.ref l) (bX H l (.lst ys))):=by
 intro pins s σ H xs us Q I r h
 obtain⟨p,ys,rfl,hq,q⟩:=h
 obtain⟨u,rfl,rx⟩:=nW r
 cases rx
 have fin:∀(its:List Value),bD ys its->ys.length<=sizeLine->∀(h':Heap) (c':Nat),(∀b o',s.heap.get? b=some o'->h'.get? b=some o')->
   h'.get? s.heap.objs.size=some {cls:=.type "list",dict:=none,data:=.seq its.toArray c',slots:=#[]}->EP X pins σ Q (.ref s.heap.objs.size) {s with heap:=h'}:=λits r' hz h' c' kp e=>
  ⟨.ref s.heap.objs.size,_,I.laid (t':=s.toks) kp (a0o _) (show cI X.prog X.w _ h' _ (.lst ys) from ⟨hz,its,c',r',e⟩),rfl,q _ (I.hok.fresh (a0o _))⟩
 rcases hq with hq|hq
 ·obtain⟨its,r',pl,hz⟩:=I.list hq
  have hlen:=r'.length
  obtain⟨o,ho,hc,n,hd⟩:=pl.isList
  exact call_list_seq p (.inl rfl) ho hc hd (λh' c' kp e=>fin its r' hz h' c' kp e) (by simp only[a0r]<;>omega)
 ·obtain⟨its,r',pl,hz⟩:=I.tuple hq
  have hlen:=r'.length
  obtain⟨o,ho,hc,n,hd⟩:=pl
  exact call_list_seq p (.inr rfl) ho hc hd (λh' c' kp e=>fin its r' hz h' c' kp e) (by simp only[a0r]<;>omega)
theorem yK:eY X (.type "tuple") (λxs H Q=>∃p ys,xs=[.ref p]/\((dO X.K H p ys/\∀l,H l=none->Q (.ref l) (bX H l (.tup ys)))\/(eQ X.K H p ys/\Q (.ref p) H))):=by
 intro pins s σ H xs us Q I r h
 obtain⟨p,ys,rfl,h⟩:=h
 obtain⟨u,rfl,rx⟩:=nW r
 cases rx
 rcases h with ⟨hq,q⟩|⟨hq,q⟩
 ·obtain ⟨its,r',pl,hz⟩:=I.list hq
  have hlen:=r'.length
  refine call_tuple_list pl.isList (λh' kp=>?_) (by simp only[a0r]<;>omega)
  have I1:Inv X pins σ H {s with heap:=h'}:=I.kept (t':=s.toks) kp
  have I2:Inv X pins σ (bX H h'.objs.size (.tup ys)) {s with heap:=h'.push {cls:=.type "tuple",data:=.seq its.toArray} }:=
   I1.laid (t':=s.toks) (λb o e=>a0f _ e) (a0o _) (show cI X.prog X.w _ _ _ (.tup ys) from ⟨hz,its,r',IsTup.new _ _⟩)
  exact⟨.ref h'.objs.size,_,I2,rfl,q _ (I1.hok.fresh (a0o _))⟩
 ·obtain⟨its,r',pl,hz⟩:=I.tuple hq
  exact call_tuple_same pl ⟨.ref p,H,I,rfl,q⟩
def a7E (K:PySem.W.Frag) (T:String) (x:V) (H:Hp):Prop:=match x with
 |.str _=>T="str"
 |.int _=>T="int"
 | .ref p=>(T="list"/\∃xs,dO K H p xs)\/(T="tuple"/\∃o,K.lookup p=some o/\o.cls= .type "tuple"/\o.dict=none)\/
   (T="dict"/\((∃kvs,H p=some (.dK kvs))\/∃kvs,H p=some (.dT kvs)))\/(T="set"/\∃S n,H p=some (.set S n))
 |_=>False
theorem a2M {pins:List (Addr×Obj)} {σ:St} {H:Hp} {s:Shared} {T:String} {x:V} {v:Value} (I:Inv X pins σ H s) (r:bQ x v) (ty:a7E X.K T x H) :
  s.TypeIs v T/\∀a,v= .ref a->∃ob,s.heap.get? a=some ob/\ob.dict=none:=by
 cases x with
 | str z=>
  obtain⟨t,rfl⟩:=r
  cases (show T="str" from ty)
  exact⟨typeIs_str s z t,λ_ e=>nomatch e⟩
 | int i=>
  obtain⟨t,rfl⟩:=r
  cases (show T="int" from ty)
  exact⟨typeIs_int s i t,λ_ e=>nomatch e⟩
 | ref p=>
  cases r
  rcases ty with ⟨rfl,xs,hq⟩|⟨rfl,o,hk,hc,hd⟩|⟨rfl,hk⟩|⟨rfl,S,n,hk⟩
  ·obtain⟨its,_,pl,_⟩:=I.list hq
   refine⟨pl.isList.typeIs,λa e=>?_⟩
   cases e
   obtain⟨o,n,e,c,hd,_⟩:=pl
   exact⟨o,e,hd⟩
  ·refine⟨⟨o,I.kIn p o hk,hc⟩,λa e=>?_⟩
   cases e
   exact⟨o,I.kIn _ o hk,hd⟩
  ·have z:∃o,s.heap.get? p=some o/\o.ExactDict:=by
    rcases hk with ⟨kvs,hk⟩|⟨kvs,hk⟩
    ·obtain⟨_,_,_,_,o,_,_,e,ex,_⟩:=I.hok p _ hk
     exact⟨o,e,ex⟩
    ·obtain⟨_,_,_,_,o,_,_,e,ex,_⟩:=I.hok p _ hk
     exact⟨o,e,ex⟩
   obtain⟨o,e,ex⟩:=z
   refine⟨⟨o,e,ex.1⟩,λa e2=>?_⟩
   cases e2
   exact⟨o,e,ex.2.1⟩
  ·obtain⟨o,_,_,_,e,ex,_⟩:=I.hok p _ hk
   refine⟨⟨o,e,ex.1⟩,λa e2=>?_⟩
   cases e2
   exact⟨o,e,ex.2.1⟩
 |_=>exact False.elim ty
def a7Y(K:Aa)(T:String)(r:V->List V->Hp->VK->Prop)(to:TE)(t:TA):TE:=λσ H Q=>to σ H λx H1=>a7E K T x H1/\t σ H1 λxs H2=>r x xs H2 Q
variable{o e:Expr}{es:List Expr}{to:TE}{t:TA}{name:Str}{apos cpos:Pos}{T id:String}{r:V->List V->Hp->VK->Prop}
theorem a4G (pa:PlainAttrs T) (slot:Slot T name id) (hty:typeOf (.builtin id)=pure (.type "method_descriptor")) (hm:a7H X id r) (ho:PE X o to) (ha:PA X (e::es) t)
  (hbase:attributeBase o name X.env (eval o X.env)=eval o X.env:=by rfl)
  (hfew:((backTo cpos (starEach (e::es) X.env)).all (λx=>!x.1)&&(backToKw cpos (keywordEach [] X.env)).all (λx=>x.1.isSome)
   &&decide ((e::es).length+([]:List Keyword).length+(if ([]:List Keyword).isEmpty then 0 else 1)<30))=true:=by rfl)
  (hline:(apos.endLine==cpos.line)=true:=by rfl) (hs:starEach (e::es) X.env=(false,eval e X.env)::starEach es X.env:=by rfl) (hplain:(backTo cpos (starEach es X.env)).any (·.1)=false:=by rfl) :
  PE X (.Call (.Attribute o name apos) (e::es) [] cpos) (a7Y X.K T r to t):=by
 intro pins s σ H Q I h
 refine wpAny_Call_method_late hbase hfew hline rfl (d8 (ho pins s σ H _ I h) λv s1 ⟨x,H1,I1,r1,ty,q1⟩=>?_)
 obtain⟨h1,h2⟩:=a2M I1 r1 ty
 refine⟨T,id,pa,slot,hty,h1,h2,?_⟩
 have hA:=ha cpos pins s1 σ H1 _ I1 q1
 rw[hs] at hA ⊢
 refine Calls.callWith_builtin (by show (false||(backTo cpos (starEach es X.env)).any (·.1))=false;rw[hplain]<;>rfl) (Calls.evalArgs_plain ?_)
 exact d8 hA λus s2 ⟨vs,H2,I2,r2,q2⟩=>hm pins s2 σ H2 x vs v us Q I2 r1 r2 q2
end
def a7T (X:Cx) (id:String) (r:V->List V->Hp->VK->Prop):Prop:=
 ∀ (pins:List (Addr×Obj)) (s:Shared) (σ:St) (H:Hp) (x:V) (xs:List V) (v:Value) (us:List Value) (Q:VK),Inv X pins σ H s->bQ x v->bD xs us->r x xs H Q->
  wpAny (model X.prog X.w) X.A (call (.builtin id) (v::us)) (EP X pins σ Q) X.xe s
theorem bD.one:∀ {x:V} {us:List Value},bD [x] us->∃u,us=[u]/\bQ x u
 |_,_,.cons r .nil=>⟨_,rfl,r⟩
theorem bD.rep {xs:List V} {us:List Value} (h:bD xs us):∀k:Nat,bD (List.replicate k xs).flatten (List.replicate k us).flatten
 |0=>.nil
 | k+1=>by
  rw[a3m,a3m,a4l,a4l]
  exact bD.append h (bD.rep h k)
theorem zV (its:List Value):∀(k:Nat) (acc:List Value),
  List.foldl (λx1 x2=>x1++x2) acc.toArray (List.replicate k its.toArray)=(acc++(List.replicate k its).flatten).toArray
 |0,acc=>by simp
 | k+1,acc=>by
  have e:acc.toArray++its.toArray=(acc++its).toArray:=by simp
  have e2:(acc++its)++(List.replicate k its).flatten=acc++(List.replicate (k+1) its).flatten:=by
   rw[a3m,a4l,a7l]
  rw[<- e2,<- zV its k (acc++its),<- e,a3m,List.foldl_cons]
section
variable{X:Cx}{pins:List (Ac×Obj)}{σ:St}{H:Hp}{s:Ab}{l b:Ac}{xs ys zs:List V}
theorem Inv.lset {its its':List Value} {n:Nat} {f:Array Value->Array Value} {t':Nat} (I:Inv X pins σ H s) (hH:H l=some (.lst xs))
  (e:s.heap.get? l=some {cls:=.type "list",data:=.seq its.toArray n}) (hf:f its.toArray=its'.toArray) (hv:bD ys its') (hz:ys.length<=sizeLine) :
  Inv X pins σ (bX H l (.lst ys)) {s with heap:=s.heap.update l (Obj.mapSeq f),toks:=t'}:=by
 have q:=PySem.IsL.update e f
 rw[hf] at q
 refine I.write (x:=l) (e:=l) (by rw[hH];exact trivial) (.inl rfl) (λb' u hb hu=>(a2j s.heap (Obj.mapSeq f) (a3b hb)).trans hu) ⟨_,q⟩ ?_
 exact⟨hz,its',_,hv,q⟩
theorem Inv.lnew {its:List Value} {t':Nat} (I:Inv X pins σ H s) (hv:bD ys its) (hz:ys.length<=sizeLine) :
  Inv X pins σ (bX H s.heap.objs.size (.lst ys)) {s with heap:=s.heap.push {cls:=.type "list",data:=.seq its.toArray},toks:=t'}:=
 I.laid (λ_ _ q=>a0f _ q) (a0o _) ⟨hz,its,0,hv,a1e _ rfl⟩
theorem Inv.fresh(I:Inv X pins σ H s):H s.heap.objs.size=none:=I.hok.fresh (a0o _)
theorem Inv.lstM(I:Inv X pins σ H s)(hH:H l=some (.lst xs)):xs.length<=sizeLine/\∃(its:List Value) (n:Nat),bD xs its/\xs.length=its.length/\s.heap.get? l=some {cls:=.type "list",data:=.seq its.toArray n}:=by
 obtain⟨z,its,n,r,e⟩:=I.hok l _ hH
 exact⟨z,its,n,r,r.length,e⟩
theorem Q7{n:Nat}(h:n<=sizeLine):Builtin.List.listTooLong n=false:=by
 unfold Builtin.List.listTooLong
 exact a1y ∅
end
section
variable{X:Cx}
def CH:V->List V->Hp->VK->Prop:=λx vs H Q=>∃l xs y,x= .ref l/\vs=[y]/\H l=some (.lst xs)/\xs.length<sizeLine/\Q .non (bX H l (.lst (xs++[y])))
theorem sT:a7T X "list.append" CH:=by
 intro pins s σ H x vs v us Q I rx rv h
 obtain⟨l,xs,y,rfl,rfl,hH,hz,q⟩:=h
 cases rx
 obtain⟨u,rfl,ru⟩:=rv.one
 obtain⟨z,its,n,r,hl,e⟩:=I.lstM hH
 refine call_meets F.slot_list_append ⟨_,e,rfl⟩ F.entry_list_append (F.args_list_append_2 _ _) (PySem.list_append l its.toArray n u (by rw[a0r];omega)) ⟨e,?_⟩
 refine⟨.non,_,I.lset (its':=its++[u]) hH e (by simp) (r.append (.cons ru .nil)) ?_,rfl,q⟩
 rw[a1l,List.length_singleton]
 omega
def a6X:R2:=λx y H Q=>∃l b xs zs,x= .ref l/\y= .ref b/\H l=some (.lst xs)/\H b=some (.lst zs)/\xs.length+zs.length<=sizeLine/\∀p,H p=none->Q (.ref p) (bX H p (.lst (xs++zs)))
theorem a0Q:nY X (binaryOp .Add) a6X:=by
 intro pins s σ H x y v u Q I rx ry h
 obtain⟨l,b,xs,zs,rfl,rfl,hH,hB,hz,q⟩:=h
 cases rx
 cases ry
 obtain⟨z,its,n,r,hl,e⟩:=I.lstM hH
 obtain⟨z2,its2,n2,r2,hl2,e2⟩:=I.lstM hB
 refine PySem.P.add_list e e2 ?_ (by rw[a0r,a0r];omega)
 have ea:its.toArray++its2.toArray=(its++its2).toArray:=by simp
 rw[ea]
 exact⟨.ref _,_,I.lnew (t':=s.toks) (r.append r2) (by rw[a1l];omega),rfl,q _ I.fresh⟩
def a72:R2:=λx y H Q=>∃l k xs,x= .ref l/\y= .int k/\H l=some (.lst xs)/\-(2^63)<=k/\k<2^63/\xs.length*k.toNat<=sizeLine/\
 ∀p,H p=none->Q (.ref p) (bX H p (.lst (List.replicate k.toNat xs).flatten))
theorem V3{α:Type}(xs:List α)(k:Nat):(List.replicate k xs).flatten.length=k*xs.length:=by
 induction k with
 |zero=>simp
 |succ k ih=>rw[a3m,a4l,a1l,ih,Nat.succ_mul,Nat.add_comm]
theorem a0Y:nY X (binaryOp .Mult) a72:=by
 intro pins s σ H x y v u Q I rx ry h
 obtain⟨l,k,xs,rfl,rfl,hH,h1,h2,hz,q⟩:=h
 cases rx
 obtain⟨t,rfl⟩:=ry
 obtain⟨z,its,n,r,hl,e⟩:=I.lstM hH
 have hlen:its.toArray.size*k.toNat<=sizeLine:=by rw[a0r,<- hl];exact hz
 have hcap:¬its.toArray.size*k.toNat>(2^63-1) / 8:=by
  have:(sizeLine:Nat)<=(2^63-1) / 8:=by decide
  omega
 have hfit:¬(!Builtin.List.listFitsIndex k)=true:=by
  rw[fitsIndex_both h1 h2]
  exact a0m
 have hlong:¬Builtin.List.listTooLong (its.toArray.size*k.toNat)=true:=by
  rw[Q7 hlen]
  exact a0m
 have hnew:List.foldl (λx1 x2=>x1++x2) #[] (List.replicate (if its.toArray.isEmpty=true then 0 else k.toNat) its.toArray)=(List.replicate k.toNat its).flatten.toArray:=by
  have f0:∀m:Nat,List.foldl (λx1 x2=>x1++x2) #[] (List.replicate m its.toArray)=(List.replicate m its).flatten.toArray:=λm=>by
   have:=zV its m []
   rw[a4x] at this
   exact this
  rw[f0]
  cases its with
  |nil=>simp
  |cons a r'=>rw[if_neg (by simp)]
 refine wpAny_binaryOp_repeat_ref (T:="list") (U:="int") (by decide) ⟨_,e,rfl⟩ (λs'=>typeIs_int s' k t) noFill_list_mul F.fills_int_mul F.slot_int_rmul repeat_list F.slot_int_index.lookup
  (call_meets F.slot_int_rmul (typeIs_int s k t) F.entry_int_rmul (F.args_int_rmul_2 _ _) (int___rmul___int_list k t l its.toArray n)
   ⟨e,rfl,⟨_,e,rfl⟩,call_meets F.slot_list_mul ⟨_,e,rfl⟩ F.entry_list_mul (F.args_list_mul_2 _ _) (AutoListH.list___mul___list_int_3 l its.toArray n k t hfit hcap hlong) ⟨e,?_⟩⟩)
 rw[hnew]
 exact⟨.ref _,_,I.lnew (t':=s.toks) (r.rep k.toNat) (by rw[V3,Nat.mul_comm];exact hz),rfl,q _ I.fresh⟩
end
end L2
namespace Att
open PySem PySem.W PySem.Calls PyProof.Rows
theorem ints_of_wellAll {P:Params} {h:Heap}:∀(ns:List Int) (vs:List Value),WellAll P h vs (ns.map WData.int)->IntsAre vs ns:=by
 intro ns
 induction ns with
 | nil=>
  intro vs w
  rw[a5u] at w
  cases w
  exact .nil
 | cons n ns ih=>
  intro vs w
  rw[a0i] at w
  cases w with
  | cons a b=>
   cases a
   exact .cons _ _ (ih _ b)
theorem script_of {l:OpenLaw} {n:Nat} (hn:l.most=some n) {P:Params} {h:Heap} {args:List WData} {vals:List Value}
  (hpre:l.row.toRowW.claim.pre args=true) (hwl:WellAll P h vals args) :
  ∃a vs ns,vals=[Value.ref a]/\args=[WData.list (ns.map WData.int)]/\h.get? a=some {cls:=.type "list",data:=.seq vs.toArray}/\IntsAre vs ns/\ns.length<=n:=by
 have hsh:WShape.hasAll [] args [.list .int]=true:=(pre_splitW hpre).1
 have hc:l.pre.holds [] {args:=args}=true:=(pre_splitW hpre).2
 obtain⟨d,r,rfl,h1,h2⟩:=hasAllW_cons hsh
 obtain rfl:=hasAllW_nil h2
 obtain⟨xs,rfl,h3⟩:=hasW_list h1
 obtain⟨ns,rfl⟩:=items_int h3
 have hlen:ns.length<=n:=by
  unfold OpenLaw.pre at hc
  have h4:(WTm.not (.lt (.lit (.int (n:Int))) (.len (.arg 0)))).holds [] {args:=[.list (ns.map .int)]}=true:=by
   have h4:=(holds_andW hc).1
   rw[hn] at h4
   exact h4
  have h5:=condW_of h4 (w_not (w_lt w_lit (w_len_list (w_arg rfl))))
  rw[a0g] at h5
  refine a4b λq=>?_
  have q':(n:Int)<((ns.length:Nat):Int):=by omega
  first
   |(rw[a2n q'] at h5;exact absurd h5 (by decide))
   |(simp at h5;omega)
 cases hwl with
 | cons w1 w2=>
  cases w2
  cases w1 with
  |list ho hall=>exact⟨_,_,ns,rfl,rfl,ho,ints_of_wellAll ns _ hall,hlen⟩
theorem post_true (l:OpenLaw) (args:List WData):l.row.toRowW.claim.post args (.bool true) args=true:=
 postW_of (r:=l.row.toRowW) (X:=(true==true))
  (show WShape.has [] (.bool true) .bool=true by first|rfl|decide|simp[WShape.has,WShape.arms,WShape.armsAll])
  (show (WTm.eq .res (.lit (.bool true))).value [] {args:=args,res:=some (.bool true),after:=args}=some (.bool (true==true)) from w_eq_bool (w_res rfl) w_lit) rfl
theorem attach_call {l:OpenLaw} {n:Nat} {q:Program} {loose:List Str} {XP:(Str->Option Value)->Heap->Prop} {YP:World->Heap->Prop} {d:DefRec}
  (hn:l.most=some n) (hdf:d.params.defaults=[])
  (call:∀(w:World) (s₀ s₁:Shared) (mg mb:Str->Option Value) (fa:Addr) (o:Obj) (pm cd doc:Value) (a:Addr) (vs:List Value) (ns:List Int),
   Ground q loose [] XP w s₀ mg mb s₁.heap->YP w s₁.heap->
   s₁.heap.get? fa=some o->o.data= .func (docDef d.name d.params d.body d.scope pm cd doc)->s₁.heap.CodeRec cd d.name->mg d.name=some (.ref fa)->
   s₁.heap.get? a=some {cls:=.type "list",data:=.seq vs.toArray}->IntsAre vs ns->ns.length<=n->s₁.gens= #[]->
   codeAny (model l.prog w) callerA (.call (.ref fa) ⟨[.ref a],[]⟩) (λr s'=>r= .ok (.ret (.bool true))/\OldK s₁.heap s'.heap/\s'.os=s₁.os/\AllBare s'.gens) s₁) :
  WalkO q loose XP YP l.row.toRowW d [] (λf vs=>PySem.call f vs):=by
 intro w s₀ s₁ mg mb G Y fa o pm cd doc dV kV ho hd hcd hD hmg hg args vals as hpre hlay hrd hwl hlo
 obtain rfl:dV= .none:=Dflts.none hD hdf
 obtain rfl:kV= .none:=Dflts.noKw hD
 obtain⟨a,vs,ns,rfl,rfl,hobj,hints,hlen⟩:=script_of hn hpre hwl
 refine enter_call (a6y (call w s₀ s₁ mg mb fa o pm cd doc a vs ns G Y ho (fd_plain hd) hcd hmg hobj hints hlen hg) λr s' hq=>?_)
 obtain⟨rfl,h2,h3,h4⟩:=hq
 exact⟨.inl ⟨.bool true,.bool true,[],rfl,λ_=>rfl,.bool true,post_true l _,λ_=>⟨List.Pairwise.nil,λ_ hm=>(nomatch hm)⟩⟩,h2,h3,h4⟩
end Att
namespace L2
open PySem PySem.Spec PyProof.Rows
theorem tO:∀ {vs:List Value} {ns:List Int},IntsAre vs ns->bD (ns.map V.int) vs
 |_,_,.nil=>.nil
 |_,_,.cons n t h=>.cons ⟨t,rfl⟩ (tO h)
def T3(H:Hp):Prop:=∀b,H b=none\/(∃o xs,H b=some (.frz o (.lst xs)))\/H b=some .tbl
theorem PM {P:Program} {w:World} {K:PySem.W.Frag} {mg mb:Str->Option Value} {CX:NE} {k:Nat} {fa a:Addr} {fd:FuncData} {x:Str} {sp:Sp} {s₁:Shared} {vs:List Value} {ns:List Int}
  (KX:K.In s₁.heap) (hns:s₁.heap.Ns mainGlobals mg) (hb:s₁.heap.Ns builtinsNs mb) (hbb:∀x:Str,x≠ "__name__"->mb x=bootBuiltins x) (hlim:s₁.heap.NoLimit) (hmods:∃mm,s₁.heap.Ns sysModules mm) (hbm:∃bm ob,BMod s₁.heap mainGlobals mg bm ob) (T:List (Ac×Ac)) (hT:PySem.W.TabsAt T s₁.heap) (hTK:PySem.W.noTabs K=true\/T=[]) (hg:s₁.gens= #[])
  (ha:s₁.heap.get? a=some {cls:=.type "list",data:=.seq vs.toArray}) (hi:IntsAre vs ns) (hl:ns.length<=sizeLine) (hr:Room k callerA)
  (F:∀base:Heap,K.In base->base.Ns mainGlobals mg->(∀q∈T,PySem.W.CodeHd base q.1 q.2/\q.2∈base.life.registered)->FnOk P w K mg base CX k fa fd [x] sp) (hbind:∀(s:Ab) (u:Value),BindsTo s fd ⟨[u],[]⟩ [(x,u)])
  (hsp:∀H:Hp,T3 H->dO K H a (ns.map V.int)->sp [.ref a] H (λv _=>v= .bl true) λ_ _ _=>False)
  (hCX:∀H e s',CX [] H s₁ (λ_ _ _=>False) e s'->False) :
  codeAny (model P w) callerA (.call (.ref fa) ⟨[.ref a],[]⟩) (λr s'=>r= .ok (.ret (.bool true))/\OldK s₁.heap s'.heap/\s'.os=s₁.os/\AllBare s'.gens) s₁:=by
 have rv:=tO hi
 have lenV:=hi.length
 have tabAt:∀b∈T.map (·.2),s₁.heap.get? b=some (PySem.W.tabObj #[])/\isCodeTable s₁.heap b:=λb hb=>by
  obtain⟨q,hq,rfl⟩:=a0s.mp hb
  exact⟨(hT q hq).2,((hT q hq).1.tab (hT q hq).2).isCodeTable⟩
 have aT:a∉T.map (·.2):=λhb=>by
  have:=(tabAt a hb).1
  rw[ha] at this;cases this
 have core:∀HS:Hp,(∀b,HS b=none\/∃o xs,HS b=some (.frz o (.lst xs)))->dO K HS a (ns.map V.int)->oE P w HS s₁.heap->(∀b,HS b≠none->b=a)->(HS a≠none->K.lookup a=none)->
   codeAny (model P w) callerA (.call (.ref fa) ⟨[.ref a],[]⟩) (λr s'=>r= .ok (.ret (.bool true))/\OldK s₁.heap s'.heap/\s'.os=s₁.os/\AllBare s'.gens) s₁:=by
  intro HS hO hS hok0 hA hK
  obtain⟨H,hH⟩ : ∃H:Hp,H=λb=>if b∈T.map (·.2) then some .tbl else HS b:=⟨_,rfl⟩
  have H1:∀b,b∈T.map (·.2)->H b=some .tbl:=λb hb=>by rw[hH];exact if_pos hb
  have H2:∀b,b∉T.map (·.2)->H b=HS b:=λb hb=>by rw[hH];exact if_neg hb
  have hS':dO K H a (ns.map V.int):=by
   unfold dO Rd at hS ⊢
   rw[H2 a aT];exact hS
  have hO':T3 H:=λb=>by
   by_cases hb:b∈T.map (·.2)
   ·exact .inr (.inr (H1 b hb))
   ·rw[H2 b hb]
    rcases hO b with z|z
    ·exact .inl z
    ·exact .inr (.inl z)
  have hok:oE P w H s₁.heap:=λb u e=>by
   by_cases hb:b∈T.map (·.2)
   ·rw[H1 b hb] at e;cases e
    exact⟨#[],(tabAt b hb).1,trivial⟩
   ·rw[H2 b hb] at e
    refine (hok0 b u e).stay (λ_ _ _ q=>q) (λc q=>?_) λc xs q=>?_
    ·rcases hO c with z|⟨_,_,z⟩<;>(rw[q] at z;cases z)
    ·rcases hO c with z|⟨_,_,z⟩<;>(rw[q] at z;cases z)
  have hid:∀ {b:Addr} {o:Obj},s₁.heap.get? b=some o->o.cls≠ .none->o.cls≠ .type "list"->H b=none:=fun {b o} e c1 c2=>by
   by_cases hb:b∈T.map (·.2)
   ·have:=(tabAt b hb).1
    rw[e] at this;cases this
    exact absurd rfl c1
   ·rw [H2 b hb]
    cases q:HS b with
    |none=>rfl
    | some u=>
     have e':b=a:=hA b (by rw[q];simp)
     subst e'
     rw[ha] at e;cases e
     exact absurd rfl c2
  have noA:∀ {b:Addr} {o:Obj} {es:Array DictEntry} {ep:Nat},s₁.heap.get? b=some o->o.data= .dict es ep->H b=none:=fun {b o es ep} e d=>by
   by_cases hb:b∈T.map (·.2)
   ·have:=(tabAt b hb).1
    rw[e] at this;cases this
    cases d
   ·rw [H2 b hb]
    cases q:HS b with
    |none=>rfl
    | some u=>
     have e':b=a:=hA b (by rw[q];simp)
     subst e'
     rw[ha] at e;cases e
     have d':Data.seq vs.toArray _=Data.dict es ep:=d
     cases d'
  obtain⟨base,hbs⟩ : ∃base:Heap,base={LX s₁.heap H with life:={registered:=T.map (·.2)} }:=⟨_,rfl⟩
  have gets:∀b,base.get? b=(LX s₁.heap H).get? b:=λb=>by rw[hbs];rfl
  have base_of:∀ {b:Ac} {o:Obj},s₁.heap.get? b=some o->H b=none->base.get? b=some o:=fun {b o} e n=>by rw[gets];exact P7 e n
  have nsK:∀ {b:Ac} {m:Str->Option Value},s₁.heap.Ns b m->base.Ns b m:=fun {b m} ⟨o,es,ep,e,d,r⟩=>⟨o,es,ep,base_of e (noA e d),d,r⟩
  have hKb:K.In base:=λb o e=>base_of (KX b o e) (by
   by_cases hb:b∈T.map (·.2)
   ·rcases hTK with z|z
    ·have h2:=a1a.mp z (b,o) (PySem.W.mem_of_lookupK e)
     have h3:=(tabAt b hb).1
     rw[KX b o e] at h3;cases h3
     exact absurd (show false=true from h2) a0m
    ·rw[z] at hb;cases hb
   ·rw [H2 b hb]
    cases q:HS b with
    |none=>rfl
    | some u=>
     have e':b=a:=hA b (by rw[q];simp)
     subst e'
     rw[hK (by rw[q];simp)] at e;cases e)
  have hBM:∃bm ob,BMod base mainGlobals mg bm ob:=by
   obtain⟨bm,ob,x⟩:=hbm
   exact⟨bm,ob,nsK x.ns,x.name,x.ne,base_of x.obj (hid x.obj (by rw[x.cls];intro z;cases z) (by rw[x.cls];intro z;injection z with z;exact absurd z (by decide))),x.cls,x.dict,x.data⟩
  have hM:Mod K mg base:=⟨hKb,nsK hns,⟨mb,nsK hb,hbb⟩,let ⟨mc,h1,h2⟩:=hlim;⟨mc,nsK h1,h2⟩,let ⟨_,h1⟩:=hmods;let ⟨o,_,_,e,_⟩:=nsK h1;⟨o,e⟩,hBM⟩
  have hTB:∀q∈T,PySem.W.CodeHd base q.1 q.2/\q.2∈base.life.registered:=λq hq=>by
   refine⟨?_,by rw[hbs];exact List.mem_map_of_mem hq⟩
   obtain⟨o,vs',file,tf,flags,tg,inF,text,tt,e,r⟩:=(hT q hq).1
   exact⟨o,vs',file,tf,flags,tg,inF,text,tt,base_of e (hid e (by rw[r.1];intro z;cases z) (by rw[r.1];intro z;injection z with z;exact absurd z (by decide))),r⟩
  have e0:Env0 P w K mg base callerA [] s₁ H:=⟨rfl,hM,λb o e=>VC (by rw[<- gets];exact e),by rw[hbs];exact Nat.le_of_eq (LY _ _),trivial,λb hb=>absurd (show b∈([]:List Ac) from hb) (by simp),hok,.of_eq hg,λb hb=>H1 b (by rw[hbs] at hb;exact hb)⟩
  refine a6y ((F _ hKb (nsK hns) hTB).run callerA [] s₁ H ⟨[.ref a],[]⟩ [.ref a] [.ref a] _ _ hr e0 (hbind s₁ (.ref a)) (.cons rfl .nil) (hsp H hO' hS')) λr s' h=>?_
  cases r with
  |error e=>exact (hCX H e s' h).elim
  | ok fl=>
   cases fl with
   |next=>exact False.elim h
   |brk=>exact False.elim h
   |cont=>exact False.elim h
   | ret u=>
    obtain⟨v,H',os,bare,un,hok',r',q⟩:=h
    have q':v= .bl true:=q
    subst q'
    obtain rfl:u=Value.bool true:=r'
    have key:∀b o,s₁.heap.get? b=some o->s'.heap.get? b=some o\/(isCodeTable s₁.heap b/\o=PySem.W.tabObj #[]/\∃ps,s'.heap.get? b=some (PySem.W.tabObj ps)):=λb o e=>by
     by_cases hb:b∈T.map (·.2)
     ·obtain⟨ps,hP,_⟩:=hok' b _ (un.tbls b (H1 b hb))
      have e2:=(tabAt b hb).1
      rw[e] at e2
      exact .inr ⟨(tabAt b hb).2,a1i e2,ps,hP⟩
     ·refine .inl ?_
      cases q:H b with
      |none=>exact un.keep b o e q (by intro z;exact absurd (show b∈([]:List Ac) from z) (by simp)) (by simp)
      | some u=>
       rcases hO b with z|⟨ob,xs,z⟩
       ·rw[H2 b hb,z] at q;cases q
       ·have z':H b=some (.frz ob (.lst xs)):=(H2 b hb).trans z
        have z2:=un.frzs b ob _ z'
        obtain⟨e1,_⟩:=hok b _ z'
        obtain⟨e2,_⟩:=hok' b _ z2
        rw[e] at e1;cases e1
        exact e2
    refine⟨rfl,⟨λb o e=>?_,λb o e=>?_⟩,os,bare.1⟩
    ·rcases key b o e with z|⟨z1,rfl,ps,z2⟩
     ·exact .inl z
     ·exact .inr (.inl ⟨z1,rfl,#[],ps,rfl,by rw[Array.empty_append];exact z2⟩)
    ·rcases key b o e with z|⟨_,_,ps,z2⟩
     ·exact⟨o,z⟩
     ·exact⟨_,z2⟩
 cases hk:K.lookup a with
 | some o=>
  have e:=KX a o hk
  rw[ha] at e
  cases e
  refine core (λ_=>none) (λ_=>.inl rfl) (.inr ⟨_,vs.toArray,_,hk,rfl,rfl,rfl,by rw[a0r,lenV];exact hl,by simpa using rv⟩) (λb u z=>by have z':(none:Option HO)=some u:=z;cases z') (λb z=>absurd rfl z) λz=>absurd rfl z
 | none=>
  refine core (λb=>if b=a then some (.frz {cls:=.type "list",data:=.seq vs.toArray} (.lst (ns.map V.int))) else none) (λb=>?_) (.inl (.inr ⟨{cls:=.type "list",data:=.seq vs.toArray},if_pos rfl⟩)) (λb u z=>?_) (λb z=>?_) λ_=>hk
  ·by_cases hb:b=a
   ·exact .inr ⟨_,_,if_pos hb⟩
   ·exact .inl (if_neg hb)
  ·by_cases hb:b=a
   ·have z':=(if_pos hb).symm.trans z
    cases z'
    subst hb
    exact⟨ha,by rw[a0g];exact hl,vs,_,rv,ha⟩
   ·have z':=(if_neg hb).symm.trans z
    cases z'
  ·by_cases hb:b=a
   ·exact hb
   ·exact absurd (if_neg hb) z
theorem TB{q:Program}{loose:List Str}{mean:ExcName->Option Value}{mg mb:Str->Option Value}{h:Heap}(T:Top q loose mean mg mb h):∃bm ob,BMod h mainGlobals mg bm ob:=
 let ⟨bm,ob,a1,a2,a3,a4,a5,a6⟩:=T.bmain;⟨bm,ob,T.g,a1,a2,a3,a4,a5,a6⟩
theorem SR {l:PySem.W.OpenLaw} {n k:Nat} {q:Program} {loose:List Str} {XP:(Str->Option Value)->Heap->Prop} {YP:World->Heap->Prop} {d:DefRec} {K:Params->PySem.W.Frag} {CX:World->NE} {sp:World->Sp} {x:Str}
  (hn:l.most=some n) (hn2:n<=sizeLine) (hdf:d.params.defaults=[]) (himp:importsNone q=true) (hr:Room k callerA)
  (hY:∀(w:World) (h:Heap),YP w h->(K w.params).In h)
  (F:∀(w:World) (mg:Str->Option Value) (fa:Addr) (h:Heap),(K w.params).In h->h.Ns mainGlobals mg->mg d.name=some (.ref fa)->
   ∃ (T:List (Addr×Addr)) (fd:FuncData),PySem.W.noTabs (K w.params)=true/\(∀t∈T,∃x d',(recsOf q).find? (λe=>e.name==x)=some d'/\PySem.W.tabIn (K w.params) x=some t)/\(∀(s:Shared) (u:Value),BindsTo s fd ⟨[u],[]⟩ [(x,u)])/\
    ∀base:Heap,(K w.params).In base->base.Ns mainGlobals mg->(∀t∈T,PySem.W.CodeHd base t.1 t.2/\t.2∈base.life.registered)->FnOk l.prog w (K w.params) mg base (CX w) k fa fd [x] (sp w))
  (hsp:∀(w:World) (H:Hp) (a:Ac) (ns:List Int),ns.length<=n->T3 H->dO (K w.params) H a (ns.map V.int)->sp w [.ref a] H (λv _=>v= .bl true) λ_ _ _=>False)
  (hCX:∀(w:World) (H:Hp) (s:Ab) (e:Value) (s':Ab),CX w [] H s (λ_ _ _=>False) e s'->False) :
  PySem.W.WalkO q loose XP YP l.row.toRowW d [] (λf vs=>PySem.call f vs):=by
 refine Att.attach_call hn hdf λw s₀ s₁ mg mb fa o pm cd doc a vs ns G Y ho hd hcd hmg hobj hints hlen hg=>?_
 have KX:=hY w _ Y
 obtain⟨T,fd,hnt,ht,hb,hF⟩:=F w mg fa _ KX G.T.g hmg
 refine PM KX G.T.g G.T.b G.T.builtins G.T.nolimit (let ⟨mm,h1,_⟩:=(G.T.seer himp).mods;⟨mm,h1⟩) (TB G.T) T (λt hm=>?_) (.inl hnt) hg hobj hints (a1b hlen hn2) hr hF hb (λH hO hS=>hsp w H a ns hlen hO hS) λH e s'=>hCX w H s₁ e s'
 obtain⟨x,d',h1,h2⟩:=ht t hm
 exact PySem.W.tab_of G.T KX h1 h2
def c5(s:Stmt):Arguments:=match s with
 |.FunctionDef _ a _ _ _ _ _ _ _ _=>a
 |_=>{posonlyargs:=[],args:=[],vararg:=none,kwonlyargs:=[],kw_defaults:=[],kwarg:=none,defaults:=[]}
def aW(s:Stmt):List Stmt:=match s with
 |.FunctionDef _ _ b _ _ _ _ _ _ _=>b
 |_=>[]
def aB(s:Stmt):Scope:=match s with
 |.FunctionDef _ _ _ _ _ _ sc _ _ _=>sc
 |_=>{kind:=.function,names:=[],isGenerator:=false,isCoroutine:=false}
abbrev jV:NE:=λ_ _ _ _ _ _=>False
abbrev E0:XK:=λ_ _ _=>False
theorem a4D{X:Cx}:GH jV X E0:=λ_ _ _ _ _ _ _ h=>h.elim
structure Fun (K:PySem.W.Frag) (x qual:Str) (st:Stmt) (f:Addr) (fd:FuncData):Prop where
 ex:∃(oc:Value) (od:Option Addr) (kV doc pm:Value) (an:Option Addr) (cdv ct:Value) (osl:Array (Option Value)),
  fd=PySem.W.fnOf x qual (c5 st) (aW st) (aB st) .none kV doc pm an cdv ct/\K.lookup f=some ⟨oc,od,.func fd,osl⟩/\PySem.W.codeIn K cdv qual=true
 kp:PySem.W.keepIn K (.ref f)=true
section
variable{P:Program}{w:World}{K:Aa}{mg:Str->Option Value}{base:Heap}
theorem Fun.ok {x qual:Str} {st:Stmt} {f:Addr} {fd:FuncData} {N ps:List Str} {k:Nat} {sp:Sp} (F:Fun K x qual st f fd) (S:FnScope N ps (aB st)) (len:∀vs H Q E,sp vs H Q E->vs.length=ps.length)
  (hbody:∀(cdv:Value) (A:Around) (outer:List Env) (s:Shared) (H:Hp) (vs:List V) (Q:VK) (E:XK),Room k (A.deeper (envOfC qual (aB st) s.heap.objs.size f cdv))->sp vs H Q E->
   ∃t,zH (cX jV P w K mg base N qual (aB st) f cdv A outer s H E).nox (aW st) t/\t {nx:=λ_ H'=>Q .non H',rt:=Q} (start N vs) H):FnOk P w K mg base jV (k+1) f fd ps sp:=by
 obtain⟨oc,od,kV,doc,pm,an,cdv,ct,osl,rfl,lk,hcd⟩:=F.ex
 refine XT lk hcd S len λA outer s H vs Q E hr hsp=>?_
 obtain⟨t,h,q⟩:=hbody cdv A outer s H vs Q E hr hsp
 exact⟨t,h.nox,q⟩
theorem Fun.binds {x qual:Str} {st:Stmt} {f:Addr} {fd:FuncData} {ps:List Str} (F:Fun K x qual st f fd)
  (h:∀(kV doc pm:Value) (an:Option Ac) (cdv ct:Value) (us:List Value),us.length=ps.length->bindArgs (PySem.W.fnOf x qual (c5 st) (aW st) (aB st) .none kV doc pm an cdv ct) ⟨us,[]⟩=pure (ps.zip us)):zG K fd ps []:=by
 obtain⟨oc,od,kV,doc,pm,an,cdv,ct,osl,rfl,lk,hcd⟩:=F.ex
 exact .all (h kV doc pm an cdv ct)
theorem OZ {x qual:Str} {st:Stmt} {f:Addr} {oc:Value} {od an:Option Addr} {osl:Array (Option Value)} {kV doc pm cdv ct:Value} (l:K.lookup f=some ⟨oc,od,.func (PySem.W.fnOf x qual (c5 st) (aW st) (aB st) .none kV doc pm an cdv ct),osl⟩)
  (c:PySem.W.codeIn K cdv qual=true) (k:PySem.W.keepIn K (.ref f)=true):Fun K x qual st f (PySem.W.fnOf x qual (c5 st) (aW st) (aB st) .none kV doc pm an cdv ct):=⟨⟨oc,od,kV,doc,pm,an,cdv,ct,osl,rfl,l,c⟩,k⟩
end
theorem UU {c A B:Prop} [Decidable c] (h1:c->A) (h2:¬c->B):if c then A else B:=by
 by_cases h:c
 ·rw[if_pos h]
  exact h1 h
 ·rw[if_neg h]
  exact h2 h
section
variable{X:Cx}
def NC(i j:Int):Prop:=0<j/\j<2^256
theorem Q9:nY X (binaryOp .FloorDiv) (rI NC λi j=>.int (i / j)):=a5Z λi j _ _ _ _ _ hc q=>by
 have h1:(0:Int)<j:=hc.1
 have h2:j<2^256:=hc.2
 have h3:j.natAbs.log2<9000:=by
  have h4:j.natAbs≠0:=by omega
  have h5:j.natAbs<2^256:=by omega
  exact a2r ((Nat.log2_lt h4).mpr h5) (by decide)
 exact floordiv_int ∅ (by rw[Int.fdiv_eq_ediv_of_nonneg i ∅];exact q) (.inl (PyProof.noPylong_of_log2 h3))
theorem DQ:eY X (.builtin "isinstance") (λxs H Q=>∃x n t b,xs=[x,.ty n]/\TyOf X.K H x t/\PySem.W.kitOne X.K t (.type n)=some b/\Q (.bl b) H):=by
 intro pins s σ H xs us Q I r h
 obtain⟨x,n,t,b,rfl,ty,e,q⟩:=h
 obtain⟨u,w',rfl,rx,rw'⟩:=SG r
 cases (show w'=Value.type n from rw')
 exact M3 I rx ty e λtk=>⟨.bl b,H,I.tok _,rfl,q⟩
end
def PJ(t n:String):Option Bool:=if (Value.type t==Value.type n)=true then some true else if PySem.W.kitMeta n=true then (fastBuiltinMro t).map (λx=>x.contains (Value.type n)) else none
theorem a07(K:Aa)(t n:String):PySem.W.kitOne K (.type t) (.type n)=PJ t n:=rfl
structure Df(K:PySem.W.Frag)(mg:Str->Option Value)(x:Str)(st:Stmt):Prop where
 ex:∃f fd,Fun K x x st f fd/\mg x=some (.ref f)
theorem a3G {K:PySem.W.Frag} {h:Heap} {mg:Str->Option Value} {x:Str} {st:Stmt} {f:Addr} {oc:Value} {od an:Option Addr} {osl:Array (Option Value)} {kV doc pm cdv ct:Value} (X:K.In h) (G:h.Ns mainGlobals mg)
  (a:PySem.W.nsIn K mainGlobals x=some (some (.ref f)))
  (l:K.lookup f=some ⟨oc,od,.func (PySem.W.fnOf x x (c5 st) (aW st) (aB st) .none kV doc pm an cdv ct),osl⟩)
  (c:PySem.W.codeIn K cdv x=true) (k:PySem.W.keepIn K (.ref f)=true):Df K mg x st:=⟨⟨f,_,OZ l c k,a4u X G a⟩⟩
structure Cal(P:Program)(w:World)(K:PySem.W.Frag)(mg:Str->Option Value)(base:Heap)(k:Nat)(x:Str)(ps:List Str)(sp:Sp):Prop where
 ex:∃f fd,mg x=some (.ref f)/\PySem.W.keepIn K (.ref f)=true/\zG K fd ps []/\(∃oc od sl,K.lookup f=some ⟨oc,od,.func fd,sl⟩)/\FnOk P w K mg base jV k f fd ps sp
theorem Df.ok {P:Program} {w:World} {K:PySem.W.Frag} {mg:Str->Option Value} {base:Heap} {x:Str} {st:Stmt} {N ps:List Str} {k:Nat} {sp:Sp} (D:Df K mg x st) (S:FnScope N ps (aB st))
  (hb:∀(kV doc pm:Value) (an:Option Ac) (cdv ct:Value) (us:List Value),us.length=ps.length->bindArgs (PySem.W.fnOf x x (c5 st) (aW st) (aB st) .none kV doc pm an cdv ct) ⟨us,[]⟩=pure (ps.zip us))
  (len:∀vs H Q E,sp vs H Q E->vs.length=ps.length)
  (hbody:∀(f:Addr) (cdv:Value) (A:Around) (outer:List Env) (s:Shared) (H:Hp) (vs:List V) (Q:VK) (E:XK),Room k (A.deeper (envOfC x (aB st) s.heap.objs.size f cdv))->sp vs H Q E->
   ∃t,zH (cX jV P w K mg base N x (aB st) f cdv A outer s H E).nox (aW st) t/\t {nx:=λ_ H'=>Q .non H',rt:=Q} (start N vs) H):Cal P w K mg base (k+1) x ps sp:=by
 obtain⟨f,fd,F,m⟩:=D.ex
 exact⟨f,fd,m,F.kp,F.binds hb,(by obtain⟨oc,od,kV,doc,pm,an,cdv,ct,osl,rfl,lk,hcd⟩:=F.ex;exact⟨oc,od,osl,lk⟩),F.ok S len λcdv A outer s H vs Q E hr h=>hbody f cdv A outer s H vs Q E hr h⟩
section
variable{X:Cx}{k:Nat}{ps:List Str}{sp:Sp}{x:Str}{p pos:Pos}{e:Expr}{es:List Expr}{t:TA}
theorem QO (C:Cal X.prog X.w X.K X.mg X.base k x ps sp) (hr:Room k X.A) (ha:PA X (e::es) t) (hg:Gl X x:=by rfl)
  (hdb:(x==("__debug__" : Str))=false:=by decide) (he:starEach (e::es) X.env=(false,eval e X.env)::starEach es X.env:=by rfl) (hpl:(backTo pos (starEach es X.env)).any (·.1)=false:=by rfl) :
  PE X (.Call (.Name x p) (e::es) [] pos) (YA sp [] E0 t):=by
 obtain⟨f,fd,a,b,c,l,d⟩:=C.ex
 exact VP d hr hg a b c .nil a4D ha hdb he hpl
end
theorem dR:bootBuiltins "len"=some (.builtin "len"):=⋯
theorem GQ:bootBuiltins "max"=some (.builtin "max"):=⋯
theorem YM:bootBuiltins "min"=some (.builtin "min"):=⋯
theorem BB:bootBuiltins "sum"=some (.builtin "sum"):=⋯
theorem cU:bootBuiltins "isinstance"=some (.builtin "isinstance"):=⋯
theorem NT:bootBuiltins "int"=some (.type "int"):=⋯
theorem JA:bootBuiltins "bool"=some (.type "bool"):=⋯
theorem qE:bootBuiltins "list"=some (.type "list"):=⋯
theorem NU:bootBuiltins "range"=some (.type "range"):=⋯
theorem vS:bootBuiltins "tuple"=some (.type "tuple"):=⋯
theorem zN:bootBuiltins "sorted"=some (.builtin "sorted"):=⋯
theorem sP:bootBuiltins "all"=some (.builtin "all"):=⋯
structure StOk(a b c:Int):Prop where
 a0:0<=a
 b0:0<=b
 b1:b<2147483647
abbrev D9(a b c:Int):HO:=.lst [.int a,.int b,.int c]
def a6B(H:Hp)(p:Ac):Prop:=∃a b c,H p=some (D9 a b c)/\StOk a b c
def S1:Sp:=λvs H Q _=>∃(p:Addr) (m a b c:Int),vs=[.ref p,.int m]/\H p=some (D9 a b c)/\StOk a b c/\0<m/\m<2^250/\
 ∀r a' b' c':Int,0<=r->r<m->StOk a' b' c'->Q (.int r) (bX H p (D9 a' b' c'))
theorem bY{α:Type}{xs:List α}{i:Int}{v:α}(h0:0<=i)(h:xs[i.toNat]? =some v):kZ xs i=some v:=by
 have e:i=(i.toNat:Int):=by omega
 rw[e];exact T9 h
def pZ(J:It)(g:TG)(tb:TS):TS:=λD σ H=>∃W:Nat->Nat->St->Hp->Prop,(∃m,W 0 m σ H)/\∀i m σ H,W i m σ H->
 (J.stop i H/\D.nx σ H)\/(J.go i H/\∃N:St->Hp->Prop,(∀σ' H',N σ' H'->∃m',m'<m/\W (i+1) m' σ' H')/\∀x H',J.yld i H x H'->g x σ H' λσ2 H2=>tb {D with nx:=N,ct:=N,bk:=D.nx} σ2 H2)
section
variable{X:Cx}
def RI:R2:=λx y H Q=>∃p xs i v,x= .ref p/\y= .int i/\H p=some (.lst xs)/\kZ xs i=some v/\Q v H
theorem ZY:NF X RI:=by
 intro value slice pins s σ H x y v u Q I rx ry h hs
 obtain⟨p,xs,i,w,e1,e2,e3,e4,q⟩:=h
 exact BP value slice pins s σ H x y v u Q I rx ry ⟨p,xs,i,w,e1,e2,dO.of e3,e4,q⟩ hs
end
theorem n4{α:Type}{a:α}{l:List α}:kZ (a::l) 0=some a:=bY (by decide) rfl
theorem B6{α:Type}{a b:α}{l:List α}:kZ (a::b::l) 1=some b:=bY (by decide) rfl
theorem NM{α:Type}{a b c:α}{l:List α}:kZ (a::b::c::l) 2=some c:=bY (by decide) rfl
theorem GK{α:Type}{a b c d:α}{l:List α}:kZ (a::b::c::d::l) 3=some d:=bY (by decide) rfl
theorem a3F{i j:Int}(h0:0<=j)(h1:j<=1000000)(h2:i.natAbs<2^64):yG i j:=⟨h0,h1,h2⟩
theorem SE{H:Hp}{p:Addr}{o:HO}(h:H p=some o):bX H p o=H:=by
 funext b;unfold bX;split
 ·rename_i e;rw[e,h]
 ·rfl
def KG(K:PySem.W.Frag):Sp:=λvs H Q _=>∃(p:Addr) (k:Int) (ns:List Int),vs=[.ref p,.int k]/\dO K H p (ns.map V.int)/\0<=k/\k<1000000/\
 ∀(q:Ac) (a b c:Int),H q=none->StOk a b c->Q (.ref q) (bX H q (D9 a b c))
structure NmOk(nm:Str)(k:Nat):Prop where
 ex:∃pre:List Nat,nm.cps.toList=pre++[97+k]/\pre.length<=7/\∀c∈pre,97<=c/\c<=122
def a5W:Str:=Str.ofString "abcdefghijklmnopqrstuvwxyz"
theorem T6:a5W.cps.toList=(List.range 26).map (97+·):=⋯
theorem J3:a5W.length=26:=⋯
theorem J4{r:Int}(h0:0<=r)(h1:r<26):kZ a5W.cps.toList r=some (97+r.toNat):=by
 refine bY h0 ?_
 have h:r.toNat<26:=by omega
 rw[T6,a0h,a6v h];rfl
structure Sr where
 nm:Str
 b:Int
 e:Int
 w:Int
structure SrOk(s:Sr)(k:Nat):Prop where
 nm:NmOk s.nm k
 lt:s.b<s.e
 b0:-1000000000000<=s.b
 e1:s.e<=1000000000000
 w0:0<=s.w
 w1:s.w<=1000000000000
theorem YO {P:Program} {w:World} {K:PySem.W.Frag} {mg:Str->Option Value} {base:Heap} {k:Nat} {x:Str} {ps:List Str} {sp:Sp} (C:Cal P w K mg base k x ps sp) {f:Addr} (hf:mg x=some (.ref f))
  {oc:Value} {od:Option Ac} {fd:FuncData} {sl:Array (Option Value)} (l:K.lookup f=some ⟨oc,od,.func fd,sl⟩):FnOk P w K mg base jV k f fd ps sp:=by
 obtain⟨g,fd',a,_,_,⟨oc',od',sl',l'⟩,d⟩:=C.ex
 rw[hf] at a;cases a
 rw[l] at l';cases l'
 exact d
def FC:List V->Hp->VK->Prop:=λxs H Q=>∃i j,xs=[.int i,.int j]/\Q (.int (if j>i then j else i)) H
def RK:List V->Hp->VK->Prop:=λxs H Q=>∃i j,xs=[.int i,.int j]/\Q (.int (if j<i then j else i)) H
def KB:List V->Hp->VK->Prop:=λxs H Q=>(∃i,xs=[.int i]/\Q (.int i) H)\/∃k,xs=[.bl k]/\Q (.int (if k then 1 else 0)) H
def RJ(K:Aa):List V->Hp->VK->Prop:=λxs H Q=>∃p ys,xs=[.ref p]/\(dO K H p ys\/eQ K H p ys)/\Q (.int ys.length) H
def a1Y(K:Aa):List V->Hp->VK->Prop:=λxs H Q=>∃x n t b,xs=[x,.ty n]/\TyOf K H x t/\PySem.W.kitOne K t (.type n)=some b/\Q (.bl b) H
def a1X:R2:=λx y H Q=>y= .non/\Q (.bl (decide (x= .non))) H
def RM:R2:=λx y H Q=>y= .non/\Q (.bl (!decide (x= .non))) H
def RG:R2:=λx y H Q=>∃i j,x= .str i/\y= .str j/\i.length+j.length<=sizeLine/\Q (.str (i++j)) H
def CI(K:Aa):List V->Hp->VK->Prop:=λxs H Q=>∃p ys,xs=[.ref p]/\(dO K H p ys\/eQ K H p ys)/\∀l,H l=none->Q (.ref l) (bX H l (.lst ys))
section
variable{X:Cx}
theorem a3B(hc:X.calm=true):eY X (.builtin "max") FC:=LC hc
theorem a3C(hc:X.calm=true):eY X (.builtin "min") RK:=LD hc
theorem a39:eY X (.type "int") KB:=LB
theorem YN:eY X (.builtin "len") (RJ X.K):=BG
theorem a3A:eY X (.builtin "isinstance") (a1Y X.K):=DQ
theorem NY:eY X (.type "list") (CI X.K):=BH
theorem a44:nY X (compareOp .Is) a1X:=a0T
theorem a0M:nY X (compareOp .IsNot) RM:=VH
theorem a0K:nY X (binaryOp .Add) RG:=HV
end
section
variable{σ:St}{H:Hp}{Q:VK}{D:Ends}{K:Aa}
theorem a2I{t u:TS}(h:t {D with nx:=u D} σ H):X7 t u D σ H:=h
theorem X4(h:D.nx σ H):KN D σ H:=h
theorem a2F{c:TT}{t u:TS}(h:c σ H λb H1=>if b=true then t D σ H1 else u D σ H1):X1 c t u D σ H:=h
theorem a2H{te:TE}(h:te σ H D.rt):X6 te D σ H:=h
theorem a2D{te:TE}{g:TG}(h:te σ H λx H1=>g x σ H1 D.nx):FR te g D σ H:=h
theorem ZU{to ti:TE}{t:GJ}{v:V}{R:St->Hp->Prop}(h:to σ H λo H1=>ti σ H1 λi H2=>t o i v H2 λH3=>R σ H3):P0 to ti t v σ H R:=h
theorem a76{v:V}(h:Q v H):tC v σ H Q:=h
theorem a5D{r:R2}{ta tb:TE}(h:ta σ H λx H1=>tb σ H1 λy H2=>r x y H2 Q):SA r ta tb σ H Q:=h
theorem a5G{r:V->Hp->VK->Prop}{ta:TE}(h:ta σ H λx H1=>r x H1 Q):a62 r ta σ H Q:=h
theorem a4T{g:Int->Int->V}{i j:Int}(h:Q (g i j) H):yY g (.int i) (.int j) H Q:=⟨i,j,rfl,rfl,h⟩
theorem a70{C:Int->Int->Prop}{g:Int->Int->V}{i j:Int}(hc:C i j)(h:Q (g i j) H):rI C g (.int i) (.int j) H Q:=⟨i,j,rfl,rfl,hc,h⟩
theorem a74{g:Int->V}{i:Int}(h:Q (g i) H):rU g (.int i) H Q:=⟨i,rfl,h⟩
theorem X8{t:TE}{R:Bool->Hp->Prop}(h:t σ H λx H'=>∃k,x= .bl k/\R k H'):KO t σ H R:=h
theorem ZN{b:Bool}{R:Bool->Prop}(h:R b):∃k,V.bl b= .bl k/\R k:=⟨b,rfl,h⟩
theorem X0{ta:TE}{tr:TA}{R:List V->Hp->Prop}(h:ta σ H λx H1=>tr σ H1 λxs H2=>R (x::xs) H2):FS ta tr σ H R:=h
theorem a2G{R:List V->Hp->Prop}(h:R [] H):S9 σ H R:=h
theorem X3{t:TA}(h:t σ H λxs H1=>xs.length<=sizeLine/\∀p,H1 p=none->Q (.ref p) (bX H1 p (.lst xs))):X2 t σ H Q:=h
theorem a59{r:List V->Hp->VK->Prop}{t:TA}(h:t σ H λvs H1=>r vs H1 Q):Y9 r t σ H Q:=h
theorem WM{p:Ac}{xs:List V}{i:Int}{v:V}(e:H p=some (.lst xs))(a:kZ xs i=some v)(h:Q v H):RI (.ref p) (.int i) H Q:=⟨p,xs,i,v,rfl,rfl,e,a,h⟩
theorem a1Z{p:Ac}{xs:List V}{i:Int}{v:V}(e:dO K H p xs)(a:kZ xs i=some v)(h:Q v H):WL K (.ref p) (.int i) H Q:=⟨p,xs,i,v,rfl,rfl,e,a,h⟩
theorem a25{p:Ac}{a b c:V}{v:V}{R:Hp->Prop}(e:H p=some (.lst [a,b,c]))(h:R (bX H p (.lst [v,b,c]))):AM (.ref p) (.int 0) v H R:=⟨p,_,0,0,rfl,rfl,e,rfl,h⟩
theorem a26{p:Ac}{a b c:V}{v:V}{R:Hp->Prop}(e:H p=some (.lst [a,b,c]))(h:R (bX H p (.lst [a,v,c]))):AM (.ref p) (.int 1) v H R:=⟨p,_,1,1,rfl,rfl,e,rfl,h⟩
theorem a27{p:Ac}{a b c:V}{v:V}{R:Hp->Prop}(e:H p=some (.lst [a,b,c]))(h:R (bX H p (.lst [a,b,v]))):AM (.ref p) (.int 2) v H R:=⟨p,_,2,2,rfl,rfl,e,rfl,h⟩
theorem WN{i j:Int}(h:Q (.int (if j>i then j else i)) H):FC [.int i,.int j] H Q:=⟨i,j,rfl,h⟩
theorem RH{k:Bool}(h:Q (.int (if k then 1 else 0)) H):KB [.bl k] H Q:=.inr ⟨k,rfl,h⟩
theorem KC{p:Ac}{ys:List V}(e:dO K H p ys)(h:Q (.int ys.length) H):RJ K [.ref p] H Q:=⟨p,ys,rfl,.inl e,h⟩
theorem a6W{ta:TA}{g:TG}{tb:TS}(h:ta σ H λvs H1=>∃j:Int,vs=[.int j]/\-(2^62)<=j/\j<2^62/\pZ (T1 0 j.toNat) g tb D σ H1):S8 (JL ta) g tb D σ H:=h
theorem ZO{n:Int}{R:Int->Prop}(h:-(2^62)<=n/\n<2^62/\R n):∃j:Int,[V.int n]=[.int j]/\-(2^62)<=j/\j<2^62/\R j:=⟨n,rfl,h⟩
theorem v0{v:V}{r:St}(h:Q v H):g8 0 (some v::r) H Q:=⟨v,rfl,h⟩
theorem v1{x0:Option V}{v:V}{r:St}(h:Q v H):g8 1 (x0::some v::r) H Q:=⟨v,rfl,h⟩
theorem v2{x0 x1:Option V}{v:V}{r:St}(h:Q v H):g8 2 (x0::x1::some v::r) H Q:=⟨v,rfl,h⟩
theorem v3{x0 x1 x2:Option V}{v:V}{r:St}(h:Q v H):g8 3 (x0::x1::x2::some v::r) H Q:=⟨v,rfl,h⟩
theorem v4{x0 x1 x2 x3:Option V}{v:V}{r:St}(h:Q v H):g8 4 (x0::x1::x2::x3::some v::r) H Q:=⟨v,rfl,h⟩
theorem g2{v:V}{x0 x1 x2:Option V}{r:St}{R:St->Hp->Prop}(h:R (x0::x1::some v::r) H):l6 2 v (x0::x1::x2::r) H R:=h
theorem g3{v:V}{x0 x1 x2 x3:Option V}{r:St}{R:St->Hp->Prop}(h:R (x0::x1::x2::some v::r) H):l6 3 v (x0::x1::x2::x3::r) H R:=h
theorem g4{v:V}{x0 x1 x2 x3 x4:Option V}{r:St}{R:St->Hp->Prop}(h:R (x0::x1::x2::x3::some v::r) H):l6 4 v (x0::x1::x2::x3::x4::r) H R:=h
end
theorem YQ{i j:Int}(h0:-(2^64)<i)(h1:i<2^64):yF i j:=.inl ⟨h0,h1⟩
theorem YR{i j:Int}(h0:-(2^64)<j)(h1:j<2^64):yF i j:=.inr ⟨h0,h1⟩
theorem KH{N:List Str}{vs:List V}{t:TS}{D:Ends}{H:Hp}{σ:St}(e:start N vs=σ)(h:t D σ H):t D (start N vs) H:=e▸h
theorem a3Z{xs:List V}{R:Prop}(h0:xs.length<=1000)(h:R):xs.length<=sizeLine/\R:=⟨a1b h0 (by decide),h⟩
section
variable{H:Hp}{Q:VK}
theorem a6V(h:Q (.int 1000000) H):rI yG (λi j=>V.int (i^j.toNat)) (.int 10) (.int 6) H Q:=⟨10,6,rfl,rfl,a3F (by decide) (by decide) (by decide),h⟩
theorem a4K(h:Q (.int 1000000000000000000) H):rI yG (λi j=>V.int (i^j.toNat)) (.int 10) (.int 18) H Q:=⟨10,18,rfl,rfl,a3F (by decide) (by decide) (by decide),h⟩
end
theorem TK{i j:Int}(h0:0<j)(h1:j<2^250):NC i j:=⟨h0,Int.lt_trans h1 (by decide)⟩
theorem a43{j:Int}(h:j<=1000000000000000000000000000000000000000000000000000000000000):j<2^250:=Int.lt_of_le_of_lt h (by decide)
theorem eD:("len" : Str)≠ "__name__":=⋯
theorem eC:(("len" : Str)==("__debug__" : Str))=false:=⋯
theorem GP:("max" : Str)≠ "__name__":=⋯
theorem GO:(("max" : Str)==("__debug__" : Str))=false:=⋯
theorem YL:("min" : Str)≠ "__name__":=⋯
theorem YH:(("min" : Str)==("__debug__" : Str))=false:=⋯
theorem BA:("sum" : Str)≠ "__name__":=⋯
theorem B9:(("sum" : Str)==("__debug__" : Str))=false:=⋯
theorem cT:("isinstance" : Str)≠ "__name__":=⋯
theorem cS:(("isinstance" : Str)==("__debug__" : Str))=false:=⋯
theorem NR:("int" : Str)≠ "__name__":=⋯
theorem NP:(("int" : Str)==("__debug__" : Str))=false:=⋯
theorem J9:("bool" : Str)≠ "__name__":=⋯
theorem J6:(("bool" : Str)==("__debug__" : Str))=false:=⋯
theorem v9:("list" : Str)≠ "__name__":=⋯
theorem v8:(("list" : Str)==("__debug__" : Str))=false:=⋯
theorem vR:("tuple" : Str)≠ "__name__":=⋯
theorem vM:(("tuple" : Str)==("__debug__" : Str))=false:=⋯
theorem sO:("all" : Str)≠ "__name__":=⋯
theorem sN:(("all" : Str)==("__debug__" : Str))=false:=⋯
class Step (P:Prop) (P':outParam Prop):Prop where
 go:P'->P
theorem step{P P':Prop}[s:Step P P'](h:P'):P:=s.go h
section
variable{σ:St}{H:Hp}{Q:VK}{D:Ends}{K:Aa}
instance i_tSeq_s {t u:TS}:Step (X7 t u D σ H) (t {D with nx:=u D} σ H):=⟨λh=>a2I h⟩
instance i_tNext_s  : Step (KN D σ H) (D.nx σ H):=⟨λh=>X4 h⟩
instance i_tIfS_s {c:TT} {t u:TS}:Step (X1 c t u D σ H) (c σ H λb H1=>if b=true then t D σ H1 else u D σ H1):=⟨λh=>a2F h⟩
instance i_tRet_s {te:TE}:Step (X6 te D σ H) (te σ H D.rt):=⟨λh=>a2H h⟩
instance i_tAsg_s {te:TE} {g:TG}:Step (FR te g D σ H) (te σ H λx H1=>g x σ H1 D.nx):=⟨λh=>a2D h⟩
instance i_gSub_s {to ti:TE} {t:GJ} {v:V} {R:St->Hp->Prop}:Step (P0 to ti t v σ H R) (to σ H λo H1=>ti σ H1 λi H2=>t o i v H2 λH3=>R σ H3):=⟨λh=>ZU h⟩
instance i_tC_s {v:V}:Step (tC v σ H Q) (Q v H):=⟨λh=>a76 h⟩
instance i_tOp_s {r:R2} {ta tb:TE}:Step (SA r ta tb σ H Q) (ta σ H λx H1=>tb σ H1 λy H2=>r x y H2 Q):=⟨λh=>a5D h⟩
instance i_tUn_s {r:V->Hp->VK->Prop} {ta:TE}:Step (a62 r ta σ H Q) (ta σ H λx H1=>r x H1 Q):=⟨λh=>a5G h⟩
instance i_rI0_s {g:Int->Int->V} {i j:Int}:Step (yY g (.int i) (.int j) H Q) (Q (g i j) H):=⟨λh=>a4T h⟩
instance i_rU_s {g:Int->V} {i:Int}:Step (rU g (.int i) H Q) (Q (g i) H):=⟨λh=>a74 h⟩
instance i_tTest_s {t:TE} {R:Bool->Hp->Prop}:Step (KO t σ H R) (t σ H λx H'=>∃k,x= .bl k/\R k H'):=⟨λh=>X8 h⟩
instance i_exbl_s {b:Bool} {R:Bool->Prop}:Step (∃k,V.bl b= .bl k/\R k) (R b):=⟨λh=>ZN h⟩
instance i_tCons_s {ta:TE} {tr:TA} {R:List V->Hp->Prop}:Step (FS ta tr σ H R) (ta σ H λx H1=>tr σ H1 λxs H2=>R (x::xs) H2):=⟨λh=>X0 h⟩
instance i_tNil_s {R:List V->Hp->Prop}:Step (S9 σ H R) (R [] H):=⟨λh=>a2G h⟩
instance i_tLstR_s {t:TA}:Step (X2 t σ H Q) (t σ H λxs H1=>xs.length<=sizeLine/\∀p,H1 p=none->Q (.ref p) (bX H1 p (.lst xs))):=⟨λh=>X3 h⟩
instance i_tCB_s {r:List V->Hp->VK->Prop} {t:TA}:Step (Y9 r t σ H Q) (t σ H λvs H1=>r vs H1 Q):=⟨λh=>a59 h⟩
instance i_rMax2_s {i j:Int}:Step (FC [.int i,.int j] H Q) (Q (.int (if j>i then j else i)) H):=⟨λh=>WN h⟩
instance i_rInt1B_s {k:Bool}:Step (KB [.bl k] H Q) (Q (.int (if k then 1 else 0)) H):=⟨λh=>RH h⟩
instance i_r1_s {ta:TA} {g:TG} {tb:TS}:Step (S8 (JL ta) g tb D σ H) (ta σ H λvs H1=>∃j:Int,vs=[.int j]/\-(2^62)<=j/\j<2^62/\pZ (T1 0 j.toNat) g tb D σ H1):=⟨λh=>a6W h⟩
instance i_exr1_s {n:Int} {R:Int->Prop}:Step (∃j:Int,[V.int n]=[.int j]/\-(2^62)<=j/\j<2^62/\R j) (-(2^62)<=n/\n<2^62/\R n):=⟨λh=>ZO h⟩
instance i_v0 {v:V} {r:St}:Step (g8 0 (some v::r) H Q) (Q v H):=⟨λh=>v0 h⟩
instance i_v1 {x0:Option V} {v:V} {r:St}:Step (g8 1 (x0::some v::r) H Q) (Q v H):=⟨λh=>v1 h⟩
instance i_v2 {x0 x1:Option V} {v:V} {r:St}:Step (g8 2 (x0::x1::some v::r) H Q) (Q v H):=⟨λh=>v2 h⟩
instance i_v3 {x0 x1 x2:Option V} {v:V} {r:St}:Step (g8 3 (x0::x1::x2::some v::r) H Q) (Q v H):=⟨λh=>v3 h⟩
instance i_v4 {x0 x1 x2 x3:Option V} {v:V} {r:St}:Step (g8 4 (x0::x1::x2::x3::some v::r) H Q) (Q v H):=⟨λh=>v4 h⟩
instance i_g2 {v:V} {x0 x1 x2:Option V} {r:St} {R:St->Hp->Prop}:Step (l6 2 v (x0::x1::x2::r) H R) (R (x0::x1::some v::r) H):=⟨λh=>g2 h⟩
instance i_g3 {v:V} {x0 x1 x2 x3:Option V} {r:St} {R:St->Hp->Prop}:Step (l6 3 v (x0::x1::x2::x3::r) H R) (R (x0::x1::x2::some v::r) H):=⟨λh=>g3 h⟩
instance i_g4 {v:V} {x0 x1 x2 x3 x4:Option V} {r:St} {R:St->Hp->Prop}:Step (l6 4 v (x0::x1::x2::x3::x4::r) H R) (R (x0::x1::x2::x3::some v::r) H):=⟨λh=>g4 h⟩
instance i_pow6  : Step (rI yG (λi j=>V.int (i^j.toNat)) (.int 10) (.int 6) H Q) (Q (.int 1000000) H):=⟨λh=>a6V h⟩
instance i_pow18  : Step (rI yG (λi j=>V.int (i^j.toNat)) (.int 10) (.int 18) H Q) (Q (.int 1000000000000000000) H):=⟨λh=>a4K h⟩
end
structure QE(X:Cx)(e:Expr)(t:TE):Prop where
 h:PE X e t
structure QT(X:Cx)(e:Expr)(t:TT):Prop where
 h:PT X e t
structure QA(X:Cx)(es:List Expr)(t:TA):Prop where
 h:PA X es t
structure QS(X:Cx)(st:Stmt)(t:TS):Prop where
 h:PS X st t
structure QSs(X:Cx)(st:List Stmt)(t:TS):Prop where
 h:zH X st t
structure QG(X:Cx)(e:Expr)(t:TG):Prop where
 h:PG X e t
structure QI(X:Cx)(tg iter:Expr)(wi:TI):Prop where
 h:PI X tg iter wi
structure QOp(X:Cx)(f:Value->Value->Sem Value)(r:R2):Prop where
 h:nY X f r
structure QUn(X:Cx)(f:Value->Sem Value)(r:V->Hp->VK->Prop):Prop where
 h:a5V X f r
structure QC(X:Cx)(f:Value)(r:List V->Hp->VK->Prop):Prop where
 h:eY X f r
structure QX(X:Cx)(r:R2):Prop where
 h:NF X r
structure QM(X:Cx)(id:String)(r:V->List V->Hp->VK->Prop):Prop where
 h:a7H X id r
structure QL(X:Cx)(r:V->Option Int->Option Int->Hp->VK->Prop):Prop where
 h:a5U X r
structure QSet(X:Cx)(t:GJ):Prop where
 h:YE X t
section
variable{X:Cx}{a b c e:Expr}{es:List Expr}{ta tb tc te:TE}{t:TA}{pos p:Pos}{tA tB':TT}
theorem bE:QOp X (binaryOp .Add) (yY λi j=>.int (i+j)):=⟨a0P⟩
theorem iD:QOp X (binaryOp .Sub) (yY λi j=>.int (i-j)):=⟨a0Z⟩
theorem iC:QOp X (binaryOp .Mult) (rI yF λi j=>.int (i*j)):=⟨a0V⟩
theorem m3:QOp X (binaryOp .Mod) (rI (λ_ j=>0<j) λi j=>.int (i % j)):=⟨a0U⟩
theorem AL:QOp X (binaryOp .FloorDiv) (rI NC λi j=>.int (i / j)):=⟨Q9⟩
theorem m4:QOp X (binaryOp .Pow) (rI yG λi j=>.int (i^j.toNat)):=⟨a0X⟩
theorem FB:QOp X (binaryOp .Add) RG:=⟨a0K⟩
theorem xR:QOp X (compareOp .Eq) a6Y:=⟨a47⟩
theorem a1U:QOp X (compareOp .NotEq) a71:=⟨a4B⟩
theorem CD:QOp X (compareOp .Lt) (yY λi j=>.bl (decide (i<j))):=⟨a4A⟩
theorem CC:QOp X (compareOp .LtE) (yY λi j=>.bl (decide (i<=j))):=⟨a49⟩
theorem nM:QOp X (compareOp .Gt) (yY λi j=>.bl (decide (j<i))):=⟨a48⟩
theorem WH:QOp X (compareOp .Is) a1X:=⟨a44⟩
theorem xS:QOp X (compareOp .IsNot) RM:=⟨a0M⟩
theorem KA:QUn X (unaryOp .USub) (rU λi=>.int (-i)):=⟨a2N⟩
theorem IA(hc:X.calm=true):QC X (.builtin "max") FC:=⟨a3B hc⟩
theorem a1P(hc:X.calm=true):QC X (.builtin "min") RK:=⟨a3C hc⟩
theorem a1O:QC X (.type "int") KB:=⟨a39⟩
theorem WC:QC X (.builtin "len") (RJ X.K):=⟨YN⟩
theorem pL:QC X (.builtin "isinstance") (a1Y X.K):=⟨a3A⟩
theorem ML:QC X (.type "list") (CI X.K):=⟨NY⟩
theorem WK:QX X (WL X.K):=⟨BP⟩
theorem nO:QX X RI:=⟨ZY⟩
theorem a1T:QL X (a4Y X.K):=⟨a2A⟩
theorem WE:QL X (a4X X.K):=⟨WT⟩
theorem cP:QM X "list.append" CH:=⟨sT⟩
theorem tE:QSet X AM:=⟨rV⟩
theorem bI{i j pos}:QE X (.Constant (.int i) j pos) (tC (.int i)):=⟨a16⟩
theorem a4P{b j pos}:QE X (.Constant (.bool b) j pos) (tC (.bl b)):=⟨a4F⟩
theorem a1R{j pos}:QE X (.Constant .none j pos) (tC .non):=⟨a17⟩
theorem a1S{x j pos}:QE X (.Constant (.str x) j pos) (tC (.str x)):=⟨a1C⟩
theorem vE{x:Str}{v:V}{u:Value}{pos:Pos}(hg:X.env.scope.names.lookup x=some .globalImplicit)(hm:X.mg x=some u)(r:bQ v u)(hd:(x==("__debug__" : Str))=false):QE X (.Name x pos) (tC v):=⟨VR hg hm r hd⟩
theorem lY{x:Str}{v:V}{u:Value}{pos:Pos}(hg:X.env.scope.names.lookup x=some .globalImplicit)(hm:X.mg x=none)(hv:bootBuiltins x=some u)(r:bQ v u)(hn:x≠ "__name__")(hd:(x==("__debug__" : Str))=false):QE X (.Name x pos) (tC v):=⟨VN hg hm hv r hn hd⟩
theorem eZ{op:Operator}{r:R2}(ho:QOp X (binaryOp op) r)(ha:QE X a ta)(hb:QE X b tb):QE X (.BinOp a op b pos) (SA r ta tb):=⟨AC ho.h ha.h hb.h⟩
theorem a4Q{op:UnaryOp}{r:V->Hp->VK->Prop}(ho:QUn X (unaryOp op) r)(ha:QE X a ta):QE X (.UnaryOp op a pos) (a62 r ta):=⟨Y4 ho.h ha.h⟩
theorem WD{op:CmpOp}{r:R2}(ho:QOp X (compareOp op) r)(ha:QE X a ta)(hb:QE X b tb)(hm:behindInMarks op b=false):QE X (.Compare a [op] [b] pos) (SA r ta tb):=⟨K1 ho.h ha.h hb.h hm⟩
theorem CG{op:CmpOp}{r:R2}(ho:QOp X (compareOp op) r)(ha:QE X a ta)(hb:QE X b tb)(hm:behindInMarks op b=false):QT X (.Compare a [op] [b] pos) (KO (SA r ta tb)):=⟨K8 ho.h ha.h hb.h hm⟩
theorem a1Q(h:QA X es t):QE X (.List es pos) (X2 t):=⟨QR h.h⟩
theorem rP{r:R2}(hr:QX X r)(ha:QE X a ta)(hb:QE X b tb)(hs:∀o i,subscripted b false o i=operate [o,i] (getItem o i)):QE X (.Subscript a b pos) (SA r ta tb):=⟨Y3 hr.h ha.h hb.h hs⟩
theorem xQ:QA X [] S9:=⟨lX⟩
theorem k9(ha:QE X e te)(hr:QA X es t)(hs:starEach (e::es) X.env=(false,eval e X.env)::starEach es X.env:=by rfl):QA X (e::es) (FS te t):=⟨iB ha.h hr.h hs⟩
theorem FA {id:String} {x:Str} {r:List V->Hp->VK->Prop} (hc:QC X (.builtin id) r) (hg:X.env.scope.names.lookup x=some .globalImplicit) (hm:X.mg x=none) (hv:bootBuiltins x=some (.builtin id)) (ha:QA X (e::es) t) (hn:x≠ "__name__") (hdb:(x==("__debug__" : Str))=false)
  (he:starEach (e::es) X.env=(false,eval e X.env)::starEach es X.env:=by rfl) (hpl:(backTo pos (starEach es X.env)).any (·.1)=false:=by rfl):QE X (.Call (.Name x p) (e::es) [] pos) (Y9 r t):=⟨nI hc.h hg hm hv ha.h hn hdb he hpl⟩
theorem MM {T:String} {x:Str} {r:List V->Hp->VK->Prop} (hc:QC X (.type T) r) (hg:X.env.scope.names.lookup x=some .globalImplicit) (hm:X.mg x=none) (hv:bootBuiltins x=some (.type T)) (ha:QA X (e::es) t) (hn:x≠ "__name__") (hdb:(x==("__debug__" : Str))=false)
  (he:starEach (e::es) X.env=(false,eval e X.env)::starEach es X.env:=by rfl) (hpl:(backTo pos (starEach es X.env)).any (·.1)=false:=by rfl):QE X (.Call (.Name x p) (e::es) [] pos) (Y9 r t):=⟨jB hc.h hg hm hv ha.h hn hdb he hpl⟩
theorem CB{i:Nat}{x:Str}(hN:X.N.Nodup)(hi:X.N[i]? =some x)(hx:KY X.env.scope x)(hf:X.fn x=true\/X.env.scope.names.lookup x=some .local):QG X (.Name x pos) (l6 i):=⟨vD hN hi hx hf⟩
theorem IB {o i:Expr} {to ti:TE} {ts:GJ} (ho:QE X o to) (hi:QE X i ti) (hs:QSet X ts)
  (ha:∀v,assign (.Subscript o i pos) X.env v=(do
   let ov <- holding [v] (eval o X.env)
   let iv <- holding [v,ov] (eval i X.env)
   standAt pos
   holding [v,ov,iv] (setItem ov iv v)
   release [v,ov,iv] []):=by intro _;rfl):QG X (.Subscript o i pos) (P0 to ti ts):=⟨C7 ho.h hi.h hs.h ha⟩
theorem MN{tg:Expr}(hg:X.env.scope.names.lookup (Str.ofString "range")=some NameKind.globalImplicit)(hm:X.mg "range"=none)(ha:QA X [a] t)(hs:starEach [a] X.env=[(false,eval a X.env)]:=by rfl):QI X tg (.Call (.Name "range" p) [a] [] pos) (JL t):=⟨AD hg hm ha.h hs⟩
theorem CF:QSs X [] KN:=⟨K6⟩
theorem dN{st:Stmt}{rest:List Stmt}{ts u:TS}(h1:QS X st ts)(h2:QSs X rest u):QSs X (st::rest) (X7 ts u):=⟨F2 h1.h h2.h⟩
theorem o8{st:Stmt}{ts:TS}(h1:QS X st ts):QSs X [st] ts:=⟨K7 h1.h⟩
theorem nN {i:Nat} {x:Str} {pos':Pos} (hN:X.N.Nodup) (hi:X.N[i]? =some x) (hx:KY X.env.scope x) (he:QE X e te) (hs:swapsWith e (some (.Name x pos')) pos.line X.env=pure false) (hf:X.fn x=true\/X.env.scope.names.lookup x=some .local) :
  QS X (.Assign [.Name x pos'] e pos) (FR te (l6 i)):=⟨R7 hN hi hx he.h hs hf⟩
theorem IC {tg:Expr} {g:TG} (he:QE X e te) (hg:QG X tg g) (hs:swapsWithSole [tg] e pos.line X.env=pure false:=by rfl) (hw:swappedStores [tg] e X.env=pure none:=by rfl)
  (h1:(assignEach [tg] X.env).map (·.2)=[assign tg X.env]:=by rfl):QS X (.Assign [tg] e pos) (FR te g):=⟨C9 he.h hg.h hs hw h1⟩
theorem RF{th el:List Stmt}{ts u:TS}(hc:QT X c tA)(ha:QSs X th ts)(hb:QSs X el u):QS X (.If c th el pos) (X1 tA ts u):=⟨Y5 hc.h ha.h hb.h⟩
theorem ID(he:QE X e te):QS X (.Return (some e) pos) (X6 te):=⟨HZ he.h⟩
theorem a1V {tg iter:Expr} {body:List Stmt} {wi:TI} {g:TG} {ts:TS} (hp:PassesOwn (model X.prog X.w) X.A X.env X.xe) (hc:X.calm=true) (hi:QI X tg iter wi) (hg:QG X tg g) (hb:QSs X body ts)
  (hs:∀x,foldedSetIterable iter X.env x=pure x:=by intro _;rfl):QS X (.For tg iter body [] pos) (S8 wi g ts):=⟨R0 hp hc hi.h hg.h hb.h hs⟩
theorem F8{i:Nat}{x:Str}(hN:X.N[i]? =some x)(hv:a6D X.env.scope x)(hd:(x==("__debug__" : Str))=false)(hcd:(x==("__classdict__" : Str))=false):QE X (.Name x pos) (g8 i):=⟨a1E hN hv hd hcd⟩
end
theorem RA{X:Cx}{b:List Stmt}{t:TS}{D:Ends}{σ:St}{H:Hp}(h:QSs X b t)(q:t D σ H):∃t,zH X b t/\t D σ H:=⟨t,h.h,q⟩
structure LcOk(N:List Str)(osc scope:Scope)(N':List Str)(n:Nat)(cap:List Nat):Prop where
 kind:scope.kind= .function
 nocell:∀y∈scope.names,y.2≠ .cell
 names:∀y∈scope.names,y.2= .local->scope.names.lookup y.1=some .local
 frees:∀y∈scope.names,y.2= .free->osc.names.lookup y.1=some .cell
 caps:N'.drop n=cap.map λi=>N.getD i Str.empty
 capl:∀i∈cap,i<N.length
 capf:∀x∈N'.drop n,scope.names.lookup x=some NameKind.free
 len:N'.length=n+cap.length
def lN(scope:Scope)(env:Env):List (Str×Ac):=(scope.names.filter λy=>y.2== .free).reverse.map λy=>(y.1,(env.cells.lookup y.1).getD 0)
theorem qG {env:Env}:∀(ys:List (Str×NameKind)) (acc:List (Str×Addr)),(∀y∈ys,y.2= .free->∃c,env.cells.lookup y.1=some c)->
  (forIn ys acc λ(y:Str×NameKind) (r:List (Str×Addr))=>(if (y.2==NameKind.free)=true then do let a <- cellOf env y.1;pure (ForInStep.yield ((y.1,a)::r)) else pure (ForInStep.yield r):Sem (ForInStep (List (Str×Addr)))))=
   (pure ((ys.filter λy=>y.2== .free).reverse.map (λy=>(y.1,(env.cells.lookup y.1).getD 0))++acc):Sem (List (Str×Ac)))
 |[],acc,_=>by simp
 | y::r,acc,h=>by
  have ih:=λa=>qG r a λz hz=>h z (a0j _ hz)
  rw[a5q]
  by_cases e:y.2= .free
  ·obtain⟨c,hc⟩:=h y a0n e
   have e':(y.2==NameKind.free)=true:=by simpa using e
   rw[if_pos e']
   have h1:cellOf env y.1=(pure c:Sem Ac):=by unfold cellOf;rw[hc]
   rw[h1]
   simp only[pure_bind]
   rw[ih,a2q,if_pos e']
   simp[hc]
  ·have e':¬(y.2==NameKind.free)=true:=by simpa using e
   rw[if_neg e']
   simp only[pure_bind]
   rw[ih,a2q,if_neg e']
theorem jI{scope:Scope}{env:Env}(h:∀y∈scope.names,y.2= .free->∃c,env.cells.lookup y.1=some c):closureFor scope env=pure (lN scope env):=by
 have e:=qG (env:=env) scope.names [] h
 rw[a5r] at e
 unfold closureFor
 refine Eq.trans (congrArg (λm=>m >>=λr=>(pure r:Sem (List (Str×Ac)))) ?_) (pure_bind (lN scope env) _)
 exact e
theorem eF {α:Type}:∀ {l:List (Str×α)} {x:Str} {c:α},l.lookup x=some c->(x,c)∈l
 | (a,b)::r,x,c,h=>by
  rw[a2w] at h
  by_cases e:x=a
  ·subst e
   simp at h
   subst h
   exact a0n
  ·have e':(x==a)=false:=by simpa using e
   rw[e'] at h
   exact a0j _ (eF h)
theorem oI {α:Type}:∀ {l:List (Str×α)} {x:Str} {c:α},(x,c)∈l->∃d,l.lookup x=some d
 | (a,b)::r,x,c,h=>by
  rw[a2w]
  by_cases e:x=a
  ·exact⟨b,by simp[e]⟩
  ·have e':(x==a)=false:=by simpa using e
   rw[e']
   rcases a0l.mp h with z|z
   ·cases z;exact absurd rfl e
   ·exact oI z
theorem jH{scope:Scope}{env:Env}(h:∀y∈scope.names,y.2= .free->∃c,env.cells.lookup y.1=some c){x:Str}{c:Addr}(e:(lN scope env).lookup x=some c):env.cells.lookup x=some c:=by
 obtain⟨y,hy,hz⟩:=a0s.mp (eF e)
 have hy':=a2l.mp (a6i.mp hy)
 obtain⟨d,hd⟩:=h y hy'.1 (by simpa using hy'.2)
 rw[hd] at hz
 cases hz
 exact hd
theorem qF{scope:Scope}{env:Env}{x:Str}(h:(x,NameKind.free)∈scope.names):∃c,(lN scope env).lookup x=some c:=
 oI (a0s.mpr ⟨(x,.free),a6i.mpr (a2l.mpr ⟨h,by rfl⟩),rfl⟩)
def b6(X:Cx)(N':List Str)(scope:Scope)(C:Addr)(s:Shared)(H:Hp)(fp:List Addr):Cx where
 prog:=X.prog
 w:=X.w
 K:=X.K
 mg:=X.mg
 base:=X.base
 A:=X.A
 N:=N'
 s₀:=s
 H₀:=H
 env:=compEnvC scope (lN scope X.env) C X.env
 outer:=X.stack
 stack:=X.stack
 ex:=fp
 fn:=λ_=>false
 calm:=X.calm
 pn:=[]
 xe:=λ_ _=>False
def yO(n:Nat)(cap:List Nat)(σ:St):St:=List.replicate n none++cap.map λi=>σ.getD i none
def a78(tt:TT)(te:TE)(acc:Ac):TS:=λD σ H=>tt σ H λb H1=>if b=true then te σ H1 λv H2=>∃ys,H2 acc=some (.lst ys)/\ys.length<sizeLine/\D.nx σ (bX H2 acc (.lst (ys++[v]))) else D.nx σ H1
def a77(wi:TI)(g:TG)(tt:TT)(te:TE)(n:Nat)(cap:List Nat):TE:=λσ H Q=>wi σ H λJ H1=>∀acc,H1 acc=none->
 pZ J g (a78 tt te acc) {nx:=λ_ H'=>Q (.ref acc) H',rt:=λ_ _=>False} (yO n cap σ) (bX H1 acc (.lst []))
def N6 (X:Cx) (ifs:List Expr) (t:TT):Prop:=
 ∀ (pins:List (Addr×Obj)) (s:Shared) (σ:St) (H:Hp) (Q:Bool->Hp->Prop),Inv X pins σ H s->t σ H Q->
  wpAny (model X.prog X.w) X.A (forIn ifs true λc r=>if r=true then do let ok <- isTrue c X.env (eval c X.env);pure (ForInStep.yield ok) else pure (ForInStep.yield r)) (TP X pins σ Q) X.xe s
def a5F:TT:=λ_ H Q=>Q true H
theorem W8{X:Cx}:N6 X [] a5F:=λ_ _ _ H _ I h=>wpAny_tests_nil ⟨H,I,h⟩
theorem W9{X:Cx}{c:Expr}{t:TT}(h:PT X c t):N6 X [c] t:=λpins s σ H Q I q=>wpAny_tests_one (h pins s σ H Q I q)
theorem vB{P:Program}{w:World}{H:Hp}{h h':Heap}{C:Addr}(ok:oE P w H h)(hC:H C=none)(hs:Heap.SameBut C h h'):oE P w H h':=λb ob e=>by
 refine (ok b ob e).stay (λc u hc q=>(hs.2 c ?_).trans q) (λ_ q=>q) λ_ _ q=>q
 rintro rfl
 rcases hc with rfl|hc
 ·rw[hC] at e;cases e
 ·rw[hC] at hc;cases hc
section
variable{X:Cx}{elt target iter:Expr}{ifs:List Expr}{scope:Scope}{pos:Pos}{N':List Str}{n:Nat}{cap:List Nat}{wi:TI}{g:TG}{tt:TT}{te:TE}
theorem qN {pins:List (Addr×Obj)} {σ:St} {H:Hp} {s:Shared} {h1:Heap} {m0:Str->Option Value} {fp:List Addr} {tk:Nat} (S:LcOk X.N X.env.scope scope N' n cap) (I:Inv X pins σ H s) (hf:∀b∈fp,iY X pins H b) (hfs:∀b∈fp,b<s.heap.objs.size)
  (ns:h1.Ns s.heap.objs.size m0) (k:∀b o,s.heap.get? b=some o->h1.get? b=some o) :
  Inv (b6 X N' scope s.heap.objs.size s H fp) [] (yO n cap σ) H {s with heap:=h1,toks:=tk}:=by
 have hfree:∀y∈scope.names,y.2= .free->∃c,X.env.cells.lookup y.1=some c:=λy hy e=>I.ok.has y.1 (.inl (S.frees y hy e))
 have sub:∀ {x:Str} {c:Ac},(lN scope X.env).lookup x=some c->X.env.cells.lookup x=some c:=λe=>jH hfree e
 have okY:(b6 X N' scope s.heap.objs.size s H fp).Ok:=by
  refine ⟨I.ok.mod,S.kind,I.ok.glob,I.ok.blt,a0o _,λx y c a b=>I.ok.inj x y c (sub a) (sub b),λx hx=>?_,λx c z=>absurd z a0m,I.ok.hd,I.ok.frames,.inl rfl,λb hb=>⟨?_,λx c e=>(hf b hb).2.2.2.2.1 x c (sub e)⟩,
   I.bs,a1b I.ok.bsz I.sz,λb o e hb=>?_,λb hb hs=>?_,I.stack,I.stkFree,I.tb⟩
  ·have mem:(x,NameKind.free)∈scope.names:=by
    have hx':(relabel scope X.env).names.lookup x=some .cell\/(relabel scope X.env).names.lookup x=some .free:=hx
    have go:∀k,(relabel scope X.env).names.lookup x=some k->(k= .cell\/k= .free)->(x,NameKind.free)∈scope.names:=λk e hk=>by
     obtain⟨y,hy,hz⟩:=a0s.mp (eF e)
     obtain⟨yn,yk⟩:=y
     dsimp only at hz
     split at hz
     ·rename_i hc
      cases hz
      have:yk= .free:=by simp at hc;exact hc.1.1
      rw[<- this];exact hy
     ·cases hz
      rcases hk with rfl|rfl
      ·exact absurd rfl (S.nocell _ hy)
      ·exact hy
    rcases hx' with e|e
    ·exact go _ e (.inl rfl)
    ·exact go _ e (.inr rfl)
   exact qF mem
  ·exact a0x (hfs b hb)
  ·rcases (hf b hb).2.2.2.1 with z|z
   ·exact I.ok.noex b o e z
   ·exact absurd (a0z (a0q e) I.ok.bsz) (Nat.not_lt.mpr z)
  ·rcases a0l.mp (I.stkSub b hs) with z|z
   ·exact (hf b hb).2.1 z
   ·exact (hf b hb).2.2.1 z
 refine⟨okY,rfl,⟨I.bare.1,λ_ _ e=>e⟩,Un.kept k,⟨m0,ns,λi x v e1 e2 e3=>?_⟩,λx c e=>?_,I.fresh,λx c e=>I.freeC x c (sub e),λp hp=>absurd hp (by simp[b6]),I.hok.kept k,?_⟩
 ·have e2':(List.replicate n none++cap.map λi=>σ.getD i none)[i]? =some (some v):=e2
  by_cases hi:i<n
  ·rw[a1f (by simpa using hi),a2a] at e2'
   split at e2'<;>cases e2'
  ·rw [a1g (by simpa using a4b hi),a1w,a0h] at e2'
   cases hc:cap[i-n]? with
   |none=>rw[hc] at e2';cases e2'
   | some j=>
    rw[hc] at e2'
    have ev:σ.getD j none=some v:=a1i e2'
    have ex':(N'.drop n)[i-n]? =some x:=by rw[a7f,show n+(i-n)=i by omega];exact e1
    have exN:X.N[j]? =some x:=by
     rw[S.caps,a0h,hc] at ex'
     have hj:=S.capl j (a0k hc)
     have z:X.N.getD j Str.empty=x:=a1i ex'
     rw[a0c,a0a hj] at z
     rw[a0a hj]
     exact congrArg some z
    have eσ:σ[j]? =some (some v):=by
     rw[a0c] at ev
     cases q:σ[j]? with
     |none=>rw[q] at ev;cases ev
     |some o=>rw[q] at ev;exact congrArg some ev
    have lf:=S.capf x (a0k ex')
    have mem:=eF lf
    have kx:X.env.kindOf x=some .cell:=S.frees _ mem rfl
    obtain⟨m,_,hl⟩:=I.loc
    obtain⟨u,ru,lu⟩:=hl j x v exN eσ (.inr (.inl kx))
    refine⟨u,ru,.inr ⟨?_,?_⟩⟩
    ·rcases e3 with z|z|z
     ·
      exfalso
      obtain⟨y,hy,hz⟩:=a0s.mp (eF (show (relabel scope X.env).names.lookup x=some .local from z))
      obtain⟨yn,yk⟩:=y
      dsimp only at hz
      split at hz
      ·cases hz
      ·cases hz
       have l1:=S.names _ hy rfl
       rw[lf] at l1
       cases l1
     ·exact .inl z
     ·exact .inr z
    ·rcases lu with ⟨kl,_⟩|⟨_,c,hc',hcell⟩
     ·rw[kx] at kl;cases kl
     ·obtain⟨d,hd⟩:=qF (env:=X.env) mem
      have:=sub hd
      rw[hc'] at this
      cases this
      obtain⟨oc,h1',h2'⟩:=hcell
      exact⟨c,hd,oc,k c oc h1',h2'⟩
 ·obtain⟨v,oc,h1',h2'⟩:=I.cell x c (sub e)
  exact⟨v,oc,k c oc h1',h2'⟩
 ·show (List.replicate n none++cap.map λi=>σ.getD i none).length=N'.length
  rw[S.len];simp
theorem JR {prog:Program} {w:World} {A:Around} {R:Result->Shared->Prop} {s:Shared} {it acc:Value} {env:Env} (I:Nat->Shared->Prop)
  (turn:∀n s,I n s->wpAny (model prog w) A (pyNext it) (λr s1=>match r with
   |none=>R (.ok .next) s1
   | some v=>wpAny (model prog w) A (letOwnedTupleGo target it v) (λ_ s2=>wpAny (model prog w) A (assign target env v) (λ_ s3=>
     wpAny (model prog w) A (forIn ifs true λc r=>if r=true then do let ok <- isTrue c env (eval c env);pure (ForInStep.yield ok) else pure (ForInStep.yield r)) (λok s4=>
      if ok=true then wpAny (model prog w) A (eval elt env) (λx s5=>wpAny (model prog w) A (call (.builtin "list.append") [acc,x]) (λ_ s6=>∃m,m<n/\I m s6) (λ_ _=>False) s5) (λ_ _=>False) s4
      else ∃m,m<n/\I m s4) (λ_ _=>False) s3) (λ_ _=>False) s2) (λ_ _=>False) s1) (λ_ _=>False) s)
  (n:Nat) (h:I n s):codeAny (model prog w) A (.compLoop (.ListComp elt [⟨target,iter,ifs,0⟩] scope pos) 0 it acc env) R s:=by
 refine codeAny_loop rfl I (λn s hI=>?_) n h
 refine wpAny_noted (env:=env) (m:=compTurn (.ListComp elt [⟨target,iter,ifs,0⟩] scope pos) 0 it acc env) ?_
 rw[compTurn_list]
 have up:∀ {α:Type} {t:Sem α} {Q:α->Shared->Prop} {E:Value->Shared->Prop} {s:Shared},wpAny (model prog w) A t Q (λ_ _=>False) s->wpAny (model prog w) A t Q E s:=
  λh=>a1j h (λ_ _ q=>q) λ_ _ z=>z.elim
 refine a0b (a2y (a0b (a1j (turn n s hI) (λr s1 h1=>?_) λ_ _ z=>z.elim)))
 cases r with
 |none=>exact a0d h1
 | some v=>
  refine a0b (a1j h1 (λ_ s2 h2=>?_) λ_ _ z=>z.elim)
  refine a0b (a1j h2 (λ_ s3 h3=>?_) λ_ _ z=>z.elim)
  refine a0b (a1j h3 (λok s4 h4=>?_) λ_ _ z=>z.elim)
  cases ok with
  |false=>exact a0d ⟨rfl,h4⟩
  | true=>
   refine a0b (a0b (a1j h4 (λx s5 h5=>?_) λ_ _ z=>z.elim))
   exact a0b (a1j h5 (λ_ s6 h6=>a0d (a0d ⟨rfl,h6⟩)) λ_ _ z=>z.elim)
theorem a4H (hc:X.calm=true) (S:LcOk X.N X.env.scope scope N' n cap) (hi:PI X target iter wi) (hg:∀C s H fp,PG (b6 X N' scope C s H fp) target g)
  (ht:∀C s H fp,N6 (b6 X N' scope C s H fp) ifs tt) (he:∀C s H fp,PE (b6 X N' scope C s H fp) elt te) (hs:∀x,foldedSetIterable iter X.env x=pure x:=by intro _;rfl) :
  PE X (.ListComp elt [⟨target,iter,ifs,0⟩] scope pos) (a77 wi g tt te n cap):=by
 intro pins s σ H Q I h
 have hfree:∀y∈scope.names,y.2= .free->∃c,X.env.cells.lookup y.1=some c:=λy hy e=>I.ok.has y.1 (.inl (S.frees y hy e))
 rw[eval_ListComp]
 refine a5a (use:=none) rfl hs (jI hfree) S.kind S.names ?_
 refine d8 (hi pins s σ H _ I h) λv s1 h1=>d8 h1 λitv s2 h2=>?_
 obtain⟨it,fp,tn,J,H2,rfl,I2,T,st2,f2,body⟩:=h2
 refine a2b ?_
 have I3:=I2.lnew (ys:=[]) (its:=[]) (t':=s2.toks) .nil (a3c _)
 have hacc:H2 s2.heap.objs.size=none:=I2.fresh
 obtain⟨W,⟨m0,w0⟩,turn⟩:=body _ hacc
 have hlt:∀b∈fp,b<s2.heap.objs.size:=λb hb=>by
  obtain⟨o,e,_⟩:=T.obj 0 _ st2 b hb
  exact a0q e
 have hf3:∀b∈fp,iY X pins (bX H2 s2.heap.objs.size (.lst [])) b:=λb hb=>
  ⟨by rw[aL (a0x (hlt b hb))];exact (f2 b hb).1,(f2 b hb).2⟩
 refine a5s S.nocell (by intro y hy;cases hy) (λh4 ns4 sb4=>?_) S.kind
 generalize hs3:({s2 with heap:=s2.heap.push {cls:=.type "list",dict:=none,data:=.seq ([]:List Value).toArray} }:Ab)=s3 at*
 have hsz:s2.heap.objs.size<s3.heap.objs.size:=by rw[<- hs3,a2x];exact a2p _
 have k4:∀b o,s3.heap.get? b=some o->h4.get? b=some o:=λb o e=>(sb4.2 b (a0x (a0q e))).trans (a0f _ e)
 generalize hH3:bX H2 s2.heap.objs.size (.lst [])=H3 at*
 have I3':Inv X pins σ H3 s3:=I3
 have IY:=qN (tk:=s3.toks+([]:List (Str×Value)).length) S I3' hf3 (λb hb=>a2r (hlt b hb) hsz) ns4 k4
 have fpY:∀H':Hp,(∀b∈fp,H' b=none)->∀b∈fp,iY (b6 X N' scope s3.heap.objs.size s3 H3 fp) [] H' b:=λH' hn b hb=>by
  obtain⟨_,f1,f2',f3,f4,f5⟩:=hf3 b hb
  refine⟨hn b hb,a0x (a2r (hlt b hb) hsz),λz=>?_,.inl hb,λx c e=>f4 x c (jH hfree e),λp hp=>absurd hp (by simp[b6])⟩
  rcases a0l.mp (I3'.stkSub b z) with z|z
  ·exact f1 z
  ·exact f2' z
 have tn4:tn 0 h4:=T.keep 0 _ _ st2 λb hb o e=>k4 b o (by rw[<- hs3];exact a0f _ e)
 have loop:codeAny (model X.prog X.w) X.A (.compLoop (.ListComp elt [⟨target,iter,ifs,0⟩] scope pos) 0 (.ref it) (.ref s2.heap.objs.size) (b6 X N' scope s3.heap.objs.size s3 H3 fp).env)
   (compPost (model X.prog X.w) X.A X.xe none (EP X pins σ Q) (.ref s2.heap.objs.size) s3.heap.objs.size) {s3 with heap:=h4,toks:=s3.toks+([]:List (Str×Value)).length}:=by
  refine JR (λk s'=>∃i σ' H',Inv (b6 X N' scope s3.heap.objs.size s3 H3 fp) [] σ' H' s'/\tn i s'.heap/\(∀b∈fp,H' b=none)/\W i k σ' H') ?_ m0 ⟨0,_,_,IY,tn4,λb hb=>(hf3 b hb).1,w0⟩
  rintro k s5 ⟨i,σ5,H5,I5,st5,fr5,w5⟩
  rcases turn i k σ5 H5 w5 with ⟨stop,qn⟩|⟨go,Nn,hN,step⟩
  ·refine a1j (T.done (b6 X N' scope s3.heap.objs.size s3 H3 fp) rfl rfl rfl hc i [] s5 σ5 H5 (λ_ _=>False) I5 (fpY H5 fr5) st5 stop) (λr s6 hr=>?_) (λ_ _ z=>z)
   obtain⟨rfl,I6⟩:=hr
   obtain⟨m,hn,_⟩:=I6.loc
   refine⟨m,hn,λh' hs'=>⟨.ref s2.heap.objs.size,H5,?_,rfl,qn⟩⟩
   have ub:=I6.base
   have ne:∀b o,s3.heap.get? b=some o->b≠s3.heap.objs.size:=λb o e=>a0x (a0q e)
   refine I3'.call' (s':={s6 with heap:=h'}) (ch:=fp) I6.os ⟨λb o e z1 z2 z3=>(hs'.2 b (ne b o e)).trans (ub.keep b o e z1 z2 z3),λb o e z1 z2 z3=>?_,ub.free,λb o e z=>?_,ub.tups,ub.frzs,ub.tbls⟩ (vB I6.hok I6.free hs') I6.bare λb hb=>⟨(hf3 b hb).2.2.2.1,(hf3 b hb).2.1,(hf3 b hb).2.2.2.2.1,(hf3 b hb).2.2.2.2.2⟩
   ·obtain⟨sl,e'⟩:=ub.slot b o e z1 z2 z3
    exact⟨sl,(hs'.2 b (ne b o e)).trans e'⟩
   ·obtain⟨o',e'⟩:=ub.there b o e z
    exact⟨o',(hs'.2 b (ne b o e)).trans e'⟩
  ·refine a1j (T.item (b6 X N' scope s3.heap.objs.size s3 H3 fp) rfl rfl rfl hc i [] s5 σ5 H5 (λ_ _=>False) I5 (fpY H5 fr5) st5 go) (λr s6 h6=>?_) (λ_ _ z=>z)
   obtain⟨u,rfl,h6⟩:=h6
   refine a1j h6 (λ_ s7 h7=>?_) (λ_ _ z=>z)
   obtain⟨x,H7,I7,r7,y7,st7,fr7⟩:=h7
   have I7':=I7.pinned (fpY H7 fr7) (T.obj _ _ st7)
   have again:∀ {σ':St} {H':Hp} {s':Shared},Inv (b6 X N' scope s3.heap.objs.size s3 H3 fp) ([]++pK fp s7.heap) σ' H' s'->Nn σ' H'->
     ∃m,m<k/\∃i σ' H',Inv (b6 X N' scope s3.heap.objs.size s3 H3 fp) [] σ' H' s'/\tn i s'.heap/\(∀b∈fp,H' b=none)/\W i m σ' H':=fun {σ' H' s'} J7 n7=>by
    obtain⟨m',hm,w7⟩:=hN σ' H' n7
    have pin:∀b∈fp,∀o,s7.heap.get? b=some o->s'.heap.get? b=some o/\H' b=none:=λb hb o e=>by
     have z:=J7.pin (b,o) (a0t _ (a0t _ (eG hb e)))
     exact⟨z.1,z.2.1⟩
    refine⟨m',hm,i+1,σ',H',J7.unpinned,T.keep _ _ _ st7 λb hb o e=>(pin b hb o e).1,λb hb=>?_,w7⟩
    obtain⟨o,e,_⟩:=T.obj _ _ st7 b hb
    exact (pin b hb o e).2
   refine d8 (hg _ _ _ _ _ s7 σ5 H7 x u _ I7' r7 (step x H7 y7)) λ_ s8 h8=>?_
   obtain⟨σ8,H8,I8,q8⟩:=h8
   refine d8 (ht _ _ _ _ _ s8 σ8 H8 _ I8 q8) λok s9 h9=>?_
   obtain⟨H9,I9,q9⟩:=h9
   cases ok with
   | false=>
    rw[if_neg a0m] at q9 ⊢
    exact again I9 q9
   | true=>
    rw[if_pos rfl] at q9 ⊢
    refine d8 (he _ _ _ _ _ s9 σ8 H9 _ I9 q9) λxv s10 h10=>?_
    obtain⟨v',H10,I10,r10,ys,ha,hl,q10⟩:=h10
    refine d8 (sT (X:=b6 X N' scope s3.heap.objs.size s3 H3 fp) _ s10 σ8 H10 (.ref s2.heap.objs.size) [v'] (.ref s2.heap.objs.size) [xv] (λ_ H'=>Nn σ8 H') I10 rfl (.cons r10 .nil) ⟨_,ys,v',rfl,rfl,ha,hl,q10⟩) λ_ s11 h11=>?_
    obtain⟨_,H11,I11,_,q11⟩:=h11
    exact again I11 q11
 exact codeAny_compStart_list loop (T.self _ 0 _ _ _ tn4 loop)
end
section
variable{X:Cx}{pins:List (Ac×Obj)}{σ:St}{H:Hp}{s:Ab}
def a22:List V->Hp->VK->Prop:=λxs H Q=>∃p ns,xs=[.ref p]/\H p=some (.lst (List.map V.int ns))/\Q (.int ns.sum) H
theorem a3D(hc:X.calm=true):eY X (.builtin "sum") a22:=by
 intro pins s σ H xs us Q I r h
 obtain⟨p,ns,rfl,hp,q⟩:=h
 obtain⟨u,rfl,ru⟩:=nW r
 cases ru
 obtain⟨_,its,n,v,l,g⟩:=I.lstM hp
 have hi:IntsAre its ns:=wA v
 have hl:s.heap.IsList p its.toArray:=⟨_,g,rfl,n,rfl⟩
 obtain⟨ys,ey⟩:=hi.allInts.items
 rw[ey] at hl
 refine sum_intListG (I.ok.hd hc) hl λh' tk t' hk=>?_
 have e3:numsOf its.toArray.toList=ns:=hi.numsOf
 rw[ey,nums_intItems] at e3
 refine⟨.int ns.sum,H,I.kept hk,⟨t',?_⟩,q⟩
 rw[preSum_eq,a6k (by simp),e3]
theorem uK:∀ {xs:List V} {us:List Value},xs.length=us.length->(∀(i:Nat) (x:V) (u:Value),xs[i]? =some x->us[i]? =some u->bQ x u)->bD xs us
 |[],[],_,_=>.nil
 |x::xs,u::us,h,k=>.cons (k 0 x u rfl rfl) (uK (by simpa using h) λi y v e1 e2=>k (i+1) y v (by simpa using e1) (by simpa using e2))
 |[],_::_,h,_=>by simp at h
 |_::_,[],h,_=>by simp at h
def a73:List V->Hp->VK->Prop:=λxs H Q=>∃j:Int,xs=[.int j]/\∀p,H p=none->Q (.ref p) (bX H p (.rng 0 j))
theorem TH:eY X (.type "range") a73:=by
 intro pins s σ H xs us Q I r h
 obtain⟨j,rfl,q⟩:=h
 obtain⟨u,rfl,t,rfl⟩:=nW r
 refine call_range_1 ?_
 exact⟨.ref s.heap.objs.size,_,I.laid (o:=.rng 0 j) (λb o e=>a0f _ e) (a0o _) ⟨_,_,_,a1e _ rfl⟩,rfl,q _ I.fresh⟩
def tV(m:Nat):List V:=(List.range m).map λ(i:Nat)=>V.int (i:Int)
def a20:List V->Hp->VK->Prop:=λxs H Q=>∃p j,xs=[.ref p]/\H p=some (.rng 0 j)/\(0<=j/\j<=1000)/\∀l,H l=none->Q (.ref l) (bX H l (.lst (tV j.toNat)))
theorem TF (hc:X.calm=true):eY X (.type "list") a20:=by
 intro pins s σ H xs us Q I r h
 obtain⟨p,j,rfl,hp,hj,q⟩:=h
 obtain⟨u,rfl,ru⟩:=nW r
 cases ru
 obtain⟨t1,t2,t3,g⟩:=(show cI X.prog X.w H s.heap p (.rng 0 j) from I.hok p _ hp)
 refine call_list_range (I.ok.hd hc) (n:=j.toNat) g (small_one (by decide) (by decide) ∅ ∅) (by rw[rangeSize_one];split<;>omega) (a1b (show j.toNat<=1000 by omega) (by decide)) λh' tk acc' c' hk hS' hacc=>?_
 refine⟨.ref s.heap.objs.size,_,I.laid (o:=.lst (tV j.toNat)) hk (a0o _) ?_,rfl,q _ I.fresh⟩
 have hlen:(tV j.toNat).length=acc'.toList.length:=by
  unfold tV
  rw[a0g,a5e,a0w,hacc.1]
 refine⟨?_,acc'.toList,c',?_,by simpa using hS'⟩
 ·rw[hlen,a0w,hacc.1]
  exact a1b (show j.toNat<=1000 by omega) (by decide)
 ·refine uK hlen λi x v e1 e2=>?_
  obtain⟨t,rfl⟩:=hacc.2 i v (by simpa using e2)
  have:x= .int (i:Int):=by
   unfold tV at e1
   rw[a0h] at e1
   cases z:(List.range j.toNat)[i]? with
   |none=>rw[z] at e1;cases e1
   | some y=>
    rw[z] at e1
    have hy:y=i:=by
     have:=(a0e.mp z).2
     simp at this;exact this.symm
    rw[hy] at e1
    exact (a1i e1).symm
  rw[this]
  exact⟨t,by rw[a6w,Int.zero_add]⟩
end
theorem iU {env:Env} (hk:env.scope.kind= .function):∀ {names:List (Str×NameKind)} {x:Str},names.lookup x=some .free->env.scope.names.lookup x=some .cell->
  (names.map λ(n,k)=>if (k==NameKind.free&&env.scope.kind== .function&&env.kindOf n==some .cell) then (n,NameKind.cell) else (n,k)).lookup x=some .cell
 | (n,k)::r,x,h,ho=>by
  rw[a2w] at h
  rw[a0i]
  by_cases e:x=n
  ·subst e
   rw[beq_self_eq_true] at h
   cases (a1i h:k= .free)
   have hc:(NameKind.free==NameKind.free&&env.scope.kind== .function&&env.kindOf x==some .cell)=true:=by
    rw[hk,show env.kindOf x=some .cell from ho];rfl
   dsimp only
   rw[if_pos hc,a2w]
   simp
  ·have e':(x==n)=false:=by simpa using e
   rw[e'] at h
   have ih:=iU hk (names:=r) (x:=x) h ho
   dsimp only
   split
   ·rw[a2w,e'];exact ih
   ·rw[a2w,e'];exact ih
theorem jX {env:Env}:∀ {names:List (Str×NameKind)} {x:Str},names.lookup x=some .globalImplicit->
  (names.map λ(n,k)=>if (k==NameKind.free&&env.scope.kind== .function&&env.kindOf n==some .cell) then (n,NameKind.cell) else (n,k)).lookup x=some .globalImplicit
 | (n,k)::r,x,h=>by
  rw[a2w] at h
  rw[a0i]
  by_cases e:x=n
  ·subst e
   rw[beq_self_eq_true] at h
   cases (a1i h:k= .globalImplicit)
   dsimp only
   rw[if_neg (by simp),a2w]
   simp
  ·have e':(x==n)=false:=by simpa using e
   rw[e'] at h
   have ih:=jX (env:=env) (names:=r) (x:=x) h
   dsimp only
   split
   ·rw[a2w,e'];exact ih
   ·rw[a2w,e'];exact ih
section
variable{X:Cx}{N':List Str}{scope:Scope}{C:Ac}{s:Ab}{H:Hp}{fp:List Ac}{i:Nat}{x:Str}{pos:Pos}
theorem a4O(hN:N'.Nodup)(hi:N'[i]? =some x)(h:scope.names.lookup x=some .local):QG (b6 X N' scope C s H fp) (.Name x pos) (l6 i):=CB hN hi (Or.inl (a7h h)) (Or.inr (a7h h))
theorem RC(hi:N'[i]? =some x)(h:scope.names.lookup x=some .local)(hd:(x==("__debug__" : Str))=false)(hcd:(x==("__classdict__" : Str))=false):QE (b6 X N' scope C s H fp) (.Name x pos) (g8 i):=F8 hi (Or.inl (a7h h)) hd hcd
theorem RB(hi:N'[i]? =some x)(h:scope.names.lookup x=some .free)(hk:X.env.scope.kind= .function)(ho:X.env.scope.names.lookup x=some .cell)(hd:(x==("__debug__" : Str))=false)(hcd:(x==("__classdict__" : Str))=false):QE (b6 X N' scope C s H fp) (.Name x pos) (g8 i):=
 F8 hi (Or.inr (Or.inl (iU hk h ho))) hd hcd
theorem a4N(h:scope.names.lookup x=some .globalImplicit):(b6 X N' scope C s H fp).env.scope.names.lookup x=some .globalImplicit:=jX h
end
section
variable{X:Cx}{elt target iter:Expr}{ifs:List Expr}{scope:Scope}{pos:Pos}{N':List Str}{n:Nat}{cap:List Nat}{wi:TI}{g:TG}{tt:TT}{te:TE}
theorem CA(hc:X.calm=true):QC X (.builtin "sum") a22:=⟨a3D hc⟩
end
inductive PV where
 |non|bl (b:Bool)|int (i:Int)|str (x:Str)|ty (n:String)|st
 |scr (ns:List Int)
 |set (S:Int->Bool) (n:Nat)
 |lst (xs:List PV)|tup (xs:List PV)|dic (ks:List d9) (xs:List PV)
mutual
def PV.flat:PV->Bool
 |.lst _=>false
 |.dic _ _=>false
 |.st=>false
 |.scr _=>false
 |.tup xs=>PV.flats xs
 |_=>true
def PV.flats:List PV->Bool
 |[]=>true
 |x::xs=>x.flat&&PV.flats xs
end
theorem PV.flats_all:∀ {xs:List PV},PV.flats xs=true->∀x∈xs,x.flat=true
 | x::xs,h,y,hy=>by
  rw[PV.flats,a1d] at h
  rcases a0l.mp hy with rfl|hy
  ·exact h.1
  ·exact PV.flats_all h.2 y hy
 |[],_,y,hy=>by cases hy
theorem PV.flats_of:∀ {xs:List PV},(∀x∈xs,x.flat=true)->PV.flats xs=true
 |[],_=>by rw[PV.flats]
 |x::xs,h=>by rw[PV.flats,a1d];exact⟨h x a0n,PV.flats_of λy hy=>h y (a0j _ hy)⟩
def HO.imm:HO->Bool
 |.tup _=>true
 |.set _ _=>true
 |_=>false
inductive Rep(G:Addr->Prop)(H:Hp):V->PV->Prop where
 |non:Rep G H .non .non
 |bl (b:Bool):Rep G H (.bl b) (.bl b)
 |int (i:Int):Rep G H (.int i) (.int i)
 |str (x:Str):Rep G H (.str x) (.str x)
 |ty (n:String):Rep G H (.ty n) (.ty n)
 |set {a:Ac} {S:Int->Bool} {n:Nat}:H a=some (.set S n)->Rep G H (.ref a) (.set S n)
 |lst {a:Ac} {vs:List V} {xs:List PV}:G a->H a=some (.lst vs)->vs.length=xs.length->(∀(i:Nat) (v:V) (x:PV),vs[i]? =some v->xs[i]? =some x->Rep G H v x)->Rep G H (.ref a) (.lst xs)
 |tup {a:Ac} {vs:List V} {xs:List PV}:H a=some (.tup vs)->vs.length=xs.length->(∀(i:Nat) (v:V) (x:PV),vs[i]? =some v->xs[i]? =some x->Rep G H v x)->Rep G H (.ref a) (.tup xs)
 |dic {a:Ac} {ks:List d9} {vs:List V} {xs:List PV}:G a->H a=some (.dK (ks.zip vs))->ks.length=vs.length->vs.length=xs.length->(∀(i:Nat) (v:V) (x:PV),vs[i]? =some v->xs[i]? =some x->Rep G H v x)->Rep G H (.ref a) (.dic ks xs)
structure Reps(G:Addr->Prop)(H:Hp)(vs:List V)(xs:List PV):Prop where
 len:vs.length=xs.length
 at_:∀(i:Nat) (v:V) (x:PV),vs[i]? =some v->xs[i]? =some x->Rep G H v x
inductive Body(G:Addr->Prop)(H:Hp):HO->PV->Prop where
 |lst {vs:List V} {xs:List PV}:Reps G H vs xs->Body G H (.lst vs) (.lst xs)
 |dic {ks:List d9} {vs:List V} {xs:List PV}:ks.length=vs.length->Reps G H vs xs->Body G H (.dK (ks.zip vs)) (.dic ks xs)
section
variable{G G':Ac->Prop}{H H':Hp}{v:V}{x:PV}{vs us:List V}{xs ys:List PV}
theorem Rep.mono(r:Rep G H v x)(hG:∀a,G a->G' a)(hk:∀a o,(G a\/o.imm=true)->H a=some o->H' a=some o):Rep G' H' v x:=by
 induction r with
 |non=>exact .non
 |bl b=>exact .bl b
 |int i=>exact .int i
 |str x=>exact .str x
 |ty n=>exact .ty n
 |set e=>exact .set (hk _ _ (.inr rfl) e)
 |lst g e l _ ih=>exact .lst (hG _ g) (hk _ _ (.inl g) e) l ih
 |tup e l _ ih=>exact .tup (hk _ _ (.inr rfl) e) l ih
 |dic g e l1 l _ ih=>exact .dic (hG _ g) (hk _ _ (.inl g) e) l1 l ih
theorem Rep.weak(r:Rep G H v x)(hG:∀a,G a->G' a):Rep G' H v x:=r.mono hG λ_ _ _ e=>e
theorem Reps.mono(r:Reps G H vs xs)(hG:∀a,G a->G' a)(hk:∀a o,(G a\/o.imm=true)->H a=some o->H' a=some o):Reps G' H' vs xs:=
 ⟨r.len,λi v x e1 e2=>(r.at_ i v x e1 e2).mono hG hk⟩
theorem Reps.weak(r:Reps G H vs xs)(hG:∀a,G a->G' a):Reps G' H vs xs:=r.mono hG λ_ _ _ e=>e
theorem Body.mono{o:HO}(r:Body G H o x)(hG:∀a,G a->G' a)(hk:∀a o,(G a\/o.imm=true)->H a=some o->H' a=some o):Body G' H' o x:=by
 cases r with
 |lst h=>exact .lst (h.mono hG hk)
 |dic l h=>exact .dic l (h.mono hG hk)
theorem Body.rep{o:HO}{a:Addr}(b:Body G H o x)(g:G a)(e:H a=some o):Rep G H (.ref a) x:=by
 cases b with
 |lst h=>exact .lst g e h.len h.at_
 |dic l h=>exact .dic g e l h.len h.at_
theorem Rep.flat (r:Rep G H v x) (h:x.flat=true):Rep (λ_=>False) H v x:=by
 induction r with
 |non=>exact .non
 |bl b=>exact .bl b
 |int i=>exact .int i
 |str x=>exact .str x
 |ty n=>exact .ty n
 |set e=>exact .set e
 |lst g e l _ ih=>rw[PV.flat] at h;cases h
 |dic g e l1 l _ ih=>rw[PV.flat] at h;cases h
 | tup e l _ ih=>
  rw[PV.flat] at h
  exact .tup e l λi v x e1 e2=>ih i v x e1 e2 (PV.flats_all h x (a0k e2))
theorem Reps.nil:Reps G H [] []:=⟨rfl,λi v x e=>by simp at e⟩
theorem Reps.cons(h:Rep G H v x)(r:Reps G H vs xs):Reps G H (v::vs) (x::xs):=⟨by simp[r.len],λi w y e1 e2=>by
 cases i with
 |zero=>simp at e1 e2;subst e1 e2;exact h
 |succ i=>simp at e1 e2;exact r.at_ i w y e1 e2⟩
theorem Reps.append (r:Reps G H vs xs) (q:Reps G H us ys):Reps G H (vs++us) (xs++ys):=⟨by simp[r.len,q.len],λi w y e1 e2=>by
 by_cases h:i<vs.length
 ·rw[a1f h] at e1
  rw[a1f (by rw[<- r.len];exact h)] at e2
  exact r.at_ i w y e1 e2
 ·rw[a1g ∅] at e1
  rw[a1g (by rw[<- r.len];omega),<- r.len] at e2
  exact q.at_ _ w y e1 e2⟩
theorem Reps.get(r:Reps G H vs xs){i:Nat}(e:xs[i]? =some x):∃v,vs[i]? =some v/\Rep G H v x:=by
 have h:i<vs.length:=by rw[r.len];exact (a0e.mp e).1
 exact⟨vs[i],a0a h,r.at_ i _ _ (a0a h) e⟩
theorem Reps.getV(r:Reps G H vs xs){i:Nat}(e:vs[i]? =some v):∃x,xs[i]? =some x/\Rep G H v x:=by
 have h:i<xs.length:=by rw[<- r.len];exact (a0e.mp e).1
 exact⟨xs[i],a0a h,r.at_ i _ _ e (a0a h)⟩
theorem Reps.set (r:Reps G H vs xs) (h:Rep G H v x) (j:Nat):Reps G H (vs.set j v) (xs.set j x):=⟨by simp[r.len],λi w y e1 e2=>by
 rw[a3d] at e1 e2
 by_cases hj:j=i
 ·subst hj
  simp only[a6e] at e1 e2
  split at e1
  ·split at e2
   ·cases e1;cases e2;exact h
   ·cases e2
  ·cases e1
 ·rw[if_neg hj] at e1 e2
  exact r.at_ i w y e1 e2⟩
theorem Reps.drop(r:Reps G H vs xs)(n:Nat):Reps G H (vs.drop n) (xs.drop n):=⟨by simp[r.len],λi w y e1 e2=>by
 rw[a7f] at e1 e2;exact r.at_ _ w y e1 e2⟩
theorem Reps.take(r:Reps G H vs xs)(n:Nat):Reps G H (vs.take n) (xs.take n):=⟨by simp[r.len],λi w y e1 e2=>by
 rw[a7e] at e1 e2
 split at e1
 ·rename_i h;rw[if_pos h] at e2;exact r.at_ _ w y e1 e2
 ·cases e1⟩
theorem Reps.rep(r:Reps G H vs xs):∀k:Nat,Reps G H (List.replicate k vs).flatten (List.replicate k xs).flatten
 |0=>Reps.nil
 |k+1=>by rw[a3m,a3m,a4l,a4l];exact r.append (Reps.rep r k)
theorem Rep.ofList(r:Rep G H v (.lst xs)):∃a vs,v= .ref a/\G a/\H a=some (.lst vs)/\Reps G H vs xs:=by
 cases r with
 |lst g e l h=>exact⟨_,_,rfl,g,e,l,h⟩
theorem Rep.ofTup(r:Rep G H v (.tup xs)):∃a vs,v= .ref a/\H a=some (.tup vs)/\Reps G H vs xs:=by
 cases r with
 |tup e l h=>exact⟨_,_,rfl,e,l,h⟩
theorem Rep.ofDic{ks:List d9}(r:Rep G H v (.dic ks xs)):∃a vs,v= .ref a/\G a/\H a=some (.dK (ks.zip vs))/\ks.length=vs.length/\Reps G H vs xs:=by
 cases r with
 |dic g e l1 l h=>exact⟨_,_,rfl,g,e,l1,l,h⟩
theorem Rep.ofInt{i:Int}(r:Rep G H v (.int i)):v= .int i:=by cases r;rfl
theorem Rep.ofBl{b:Bool}(r:Rep G H v (.bl b)):v= .bl b:=by cases r;rfl
theorem Rep.ofStr{z:Str}(r:Rep G H v (.str z)):v= .str z:=by cases r;rfl
theorem Rep.ofNon(r:Rep G H v .non):v= .non:=by cases r;rfl
theorem Rep.ofTy{n:String}(r:Rep G H v (.ty n)):v= .ty n:=by cases r;rfl
theorem flats_reps(r:Reps G H vs xs)(h:PV.flats xs=true):Reps (λ_=>False) H vs xs:=⟨r.len,λi v x e1 e2=>(r.at_ i v x e1 e2).flat (PV.flats_all h x (a0k e2))⟩
end
structure Wd where
 K:Aa
 F:Ac->Prop
 S:Ac->Prop
 L:Ac->Prop
 Z:Ac->Prop
structure Wok(W:Wd)(H:Hp):Prop where
 fF:∀a,W.F a->∃o,H a=some o
 sS:∀a,W.S a->a6B H a
 dj:∀a,W.F a->¬W.S a
 zZ:∀a,W.Z a->∃o,H a=some o
 zF:∀a,W.Z a->¬W.F a
 zS:∀a,W.Z a->¬W.S a
structure Go(W:Wd)(H:Hp)(W':Wd)(H':Hp):Prop where
 lF:∀a,W.F a->W'.F a
 lS:∀a,W.S a->W'.S a
 nF:∀a,W'.F a->W.F a\/H a=none
 nS:∀a,W'.S a->W.S a\/H a=none
 kp:∀a o,H a=some o->¬W.S a->H' a=some o
 ok:Wok W' H'
 kk:W'.K=W.K
 kl:W'.L=W.L
 lZ:∀a,W.Z a->W'.Z a
 nZ:∀a,W'.Z a->W.Z a\/H a=none
section
variable{W W' W1 W2:Wd}{H H' H1 H2 B:Hp}{v:V}{x:PV}
theorem Wok.imm(w:Wok W H){a:Addr}{o:HO}(e:H a=some o)(i:o.imm=true):¬W.S a:=λs=>by
 obtain⟨_,_,_,z,_⟩:=w.sS a s
 rw[e] at z;cases z;cases i
theorem Go.refl(h:Wok W H):Go W H W H:=⟨λ_ h=>h,λ_ h=>h,λ_ h=>.inl h,λ_ h=>.inl h,λ_ _ h _=>h,h,rfl,rfl,λ_ h=>h,λ_ h=>.inl h⟩
theorem Go.free (g:Go W H W' H') {a:Addr} (h:H' a=none):H a=none:=by
 cases e:H a with
 |none=>rfl
 | some o=>
  by_cases s:W.S a
  ·obtain⟨_,_,_,z,_⟩:=g.ok.sS a (g.lS a s)
   rw[z] at h;cases h
  ·rw[g.kp a o e s] at h;cases h
theorem Go.trans (g:Go W H W1 H1) (k:Go W1 H1 W2 H2):Go W H W2 H2 where
 lF:=λa h=>k.lF a (g.lF a h)
 lS:=λa h=>k.lS a (g.lS a h)
 nF:=λa h=>by
  rcases k.nF a h with z|z
  ·exact g.nF a z
  ·exact .inr (g.free z)
 nS:=λa h=>by
  rcases k.nS a h with z|z
  ·exact g.nS a z
  ·exact .inr (g.free z)
 kp:=λa o e s=>by
  refine k.kp a o (g.kp a o e s) λz=>?_
  rcases g.nS a z with q|q
  ·exact s q
  ·rw[e] at q;cases q
 ok:=k.ok
 kk:=k.kk.trans g.kk
 kl:=k.kl.trans g.kl
 lZ:=λa h=>k.lZ a (g.lZ a h)
 nZ:=λa h=>by
  rcases k.nZ a h with z|z
  ·exact g.nZ a z
  ·exact .inr (g.free z)
theorem Go.nSS(g:Go W H W' H'){a:Addr}{o:HO}(e:H a=some o)(s:¬W.S a):¬W'.S a:=λz=>by
 rcases g.nS a z with q|q
 ·exact s q
 ·rw[e] at q;cases q
theorem Go.nFF(g:Go W H W' H'){a:Addr}{o:HO}(e:H a=some o)(s:¬W.F a):¬W'.F a:=λz=>by
 rcases g.nF a z with q|q
 ·exact s q
 ·rw[e] at q;cases q
theorem Go.nZZ(g:Go W H W' H'){a:Addr}{o:HO}(e:H a=some o)(s:¬W.Z a):¬W'.Z a:=λz=>by
 rcases g.nZ a z with q|q
 ·exact s q
 ·rw[e] at q;cases q
theorem Go.rep(g:Go W H W' H')(w:Wok W H){G G':Addr->Prop}(hs:∀a,G a->¬W.S a)(hG:∀a,G a->G' a)(r:Rep G H v x):Rep G' H' v x:=
 r.mono hG λa o h e=>g.kp a o e (h.elim (hs a) (w.imm e))
theorem Go.reps(g:Go W H W' H')(w:Wok W H){G G':Ac->Prop}(hs:∀a,G a->¬W.S a)(hG:∀a,G a->G' a){vs:List V}{xs:List PV}(r:Reps G H vs xs):Reps G' H' vs xs:=⟨r.len,λi _ _ e1 e2=>g.rep w hs hG (r.at_ i _ _ e1 e2)⟩
theorem Go.body(g:Go W H W' H')(w:Wok W H){G G':Addr->Prop}(hs:∀a,G a->¬W.S a)(hG:∀a,G a->G' a){o:HO}(r:Body G H o x):Body G' H' o x:=
 r.mono hG λa o h e=>g.kp a o e (h.elim (hs a) (w.imm e))
theorem Go.bw(g:Go W H W' H')(w:Wok W H)(r:Rep (λa=>¬W.S a) H v x):Rep (λa=>¬W'.S a) H' v x:=by
 induction r with
 |non=>exact .non
 |bl b=>exact .bl b
 |int i=>exact .int i
 |str x=>exact .str x
 |ty n=>exact .ty n
 |set e=>exact .set (g.kp _ _ e (w.imm e rfl))
 |lst gg e l _ ih=>exact .lst (g.nSS e gg) (g.kp _ _ e gg) l ih
 |tup e l _ ih=>exact .tup (g.kp _ _ e (w.imm e rfl)) l ih
 |dic gg e l1 l _ ih=>exact .dic (g.nSS e gg) (g.kp _ _ e gg) l1 l ih
end
inductive El where
 |fl|sn|sh
 deriving DecidableEq
def El.G:El->(Addr->Prop)->Hp->Addr->Prop
 |.fl,_,_=>λ_=>False
 |.sn,F,B=>λa=>F a/\B a=none
 |.sh,F,_=>F
def El.le:El->El->Bool
 |.fl,_=>true
 |.sn,.fl=>false
 |.sn,_=>true
 |.sh,.sh=>true
 |.sh,_=>false
theorem El.leG{e e':El}(h:e.le e'=true){F:Addr->Prop}{B:Hp}{a:Addr}(g:e.G F B a):e'.G F B a:=by
 cases e<;>cases e'<;>first|exact g|exact g.elim|exact g.1|cases h
theorem El.GF{e:El}{F:Addr->Prop}{B:Hp}{a:Addr}(g:e.G F B a):F a:=by
 cases e with
 |fl=>exact g.elim
 |sn=>exact g.1
 |sh=>exact g
theorem El.up{e:El}{F F':Addr->Prop}{B B':Hp}{a:Addr}(hF:∀a,F a->F' a)(hB:∀a,B a=none->B' a=none)(g:e.G F B a):e.G F' B' a:=by
 cases e with
 |fl=>exact g
 |sn=>exact⟨hF a g.1,hB a g.2⟩
 |sh=>exact hF a g
inductive Md where
 |no|bw|v (e:El)|o (e:El)|z (e:El)|p (e:El)|c (e:El)|st|scr|n
 deriving DecidableEq
def Md.lent:Md->Bool
 |.bw=>true
 |.p _=>true
 |.c _=>true
 |_=>false
def RepP(G S:Ac->Prop)(H:Hp)(v:V)(x:PV):Prop:=Rep G H v x\/∃a o,v= .ref a/\¬S a/\H a=some o/\Body G H o x
def Md.own:Md->Bool
 |.o _=>true
 |_=>false
def ScrAt(K:PySem.W.Frag)(H:Hp)(a:Addr)(ns:List Int):Prop:=(∃o,H a=some (.frz o (.lst (ns.map V.int))))\/
 ∃(o:Obj) (its:Array Value) (n:Nat),K.lookup a=some o/\o.cls= .type "list"/\o.dict=none/\o.data= .seq its n/\its.size<=sizeLine/\bD (ns.map V.int) its.toList
theorem ScrAt.sq{K:PySem.W.Frag}{H:Hp}{a:Addr}{ns:List Int}(h:ScrAt K H a ns):dO K H a (ns.map V.int):=by
 rcases h with h|h
 ·exact .inl (.inr h)
 ·exact .inr h
structure OwnL(e:El)(B H:Hp)(W':Wd)(H':Hp)(a:Addr)(o:HO)(x:PV):Prop where
 new:H a=none
 nF:¬W'.F a
 nS:¬W'.S a
 at_:H' a=some o
 its:Body (e.G W'.F B) H' o x
 nZ:¬W'.Z a
structure FrzL(e:El)(B:Hp)(W':Wd)(H':Hp)(a:Addr)(o:HO)(x:PV):Prop where
 new:B a=none
 F:W'.F a
 at_:H' a=some o
 its:Body (e.G W'.F B) H' o x
def ResE(B H:Hp)(W':Wd)(H':Hp)(m:Md)(v:V)(x:PV):Prop:=
 match m with
 |.no=>True
 |.bw=>Rep (λa=>¬W'.S a) H' v x
 |.v e=>Rep (e.G W'.F B) H' v x
 |.st=>∃p,v= .ref p/\x= .st/\W'.S p
 |.scr=>∃a ns,v= .ref a/\x= .scr ns/\ScrAt W'.K H' a ns
 |.o e=>∃a o,v= .ref a/\OwnL e B H W' H' a o x
 |.z e=>∃a o,v= .ref a/\FrzL e B W' H' a o x
 |.p e=>RepP (e.G W'.F B) W'.S H' v x
 |.c e=>∃a o,v= .ref a/\W'.L a/\¬W'.S a/\H' a=some o/\Body (e.G W'.F B) H' o x
 |.n=>Rep (λa=>W'.Z a/\B a=none) H' v x
section
variable{W W' W1 W2:Wd}{B H H' H1 H2:Hp}{m n:Md}{e e':El}{v:V}{x:PV}
theorem El.nS(w:Wok W H){a:Ac}(g:e.G W.F B a):¬W.S a:=w.dj a (El.GF g)
theorem OwnL.go{a:Addr}{o:HO}(r:OwnL e B H W1 H1 a o x)(w:Wok W1 H1)(g:Go W1 H1 W2 H2):OwnL e B H W2 H2 a o x where
 new:=r.new
 nF:=g.nFF r.at_ r.nF
 nS:=g.nSS r.at_ r.nS
 at_:=g.kp a _ r.at_ r.nS
 its:=g.body w (λ_ h=>El.nS w h) (λ_ h=>El.up g.lF (λ_ z=>z) h) r.its
 nZ:=g.nZZ r.at_ r.nZ
theorem FrzL.go{a:Addr}{o:HO}(r:FrzL e B W1 H1 a o x)(w:Wok W1 H1)(g:Go W1 H1 W2 H2):FrzL e B W2 H2 a o x where
 new:=r.new
 F:=g.lF a r.F
 at_:=g.kp a _ r.at_ (w.dj a r.F)
 its:=g.body w (λ_ h=>El.nS w h) (λ_ h=>El.up g.lF (λ_ z=>z) h) r.its
theorem ResE.go (r:ResE B H W1 H1 m v x) (w:Wok W1 H1) (g:Go W1 H1 W2 H2):ResE B H W2 H2 m v x:=by
 cases m with
 |no=>trivial
 |bw=>exact g.bw w r
 |v e=>exact g.rep w (λ_ h=>El.nS w h) (λ_ h=>El.up g.lF (λ_ z=>z) h) r
 |st=>obtain⟨p,e1,e2,s⟩:=r;exact⟨p,e1,e2,g.lS p s⟩
 | scr=>
  obtain⟨a,ns,e1,e2,s⟩:=r
  refine⟨a,ns,e1,e2,?_⟩
  rcases s with ⟨o,s⟩|s
  ·exact .inl ⟨o,g.kp a _ s λz=>by obtain⟨_,_,_,q,_⟩:=w.sS a z;rw[s] at q;cases q⟩
  ·exact .inr (by rw[g.kk];exact s)
 |o e=>obtain⟨a,ho,e1,q⟩:=r;exact⟨a,ho,e1,q.go w g⟩
 |z e=>obtain⟨a,ho,e1,q⟩:=r;exact⟨a,ho,e1,q.go w g⟩
 | p e=>
  rcases r with r|⟨a,ho,e1,s,h,b⟩
  ·exact .inl (g.rep w (λ_ h=>El.nS w h) (λ_ h=>El.up g.lF (λ_ z=>z) h) r)
  ·exact .inr ⟨a,ho,e1,g.nSS h s,g.kp a _ h s,g.body w (λ_ h=>El.nS w h) (λ_ h=>El.up g.lF (λ_ z=>z) h) b⟩
 | c e=>
  obtain⟨a,ho,e1,l,s,h,b⟩:=r
  exact⟨a,ho,e1,by rw[g.kl];exact l,g.nSS h s,g.kp a _ h s,g.body w (λ_ h=>El.nS w h) (λ_ h=>El.up g.lF (λ_ z=>z) h) b⟩
 |n=>exact g.rep w (λa h=>w.zS a h.1) (λa h=>⟨g.lZ a h.1,h.2⟩) r
theorem ResE.base(g:Go W H W1 H1)(r:ResE B H1 W2 H2 m v x):ResE B H W2 H2 m v x:=by
 cases m with
 |o e=>obtain⟨a,ho,e1,o⟩:=r;exact⟨a,ho,e1,g.free o.new,o.nF,o.nS,o.at_,o.its,o.nZ⟩
 |_=>exact r
def Md.len:Md->Bool
 |.no=>false
 |.st=>false
 |.scr=>false
 |_=>true
theorem Body.lend{G:Addr->Prop}{o:HO}{a:Addr}(b:Body G H o x)(w:Wok W H)(hG:∀a,G a->W.F a)(nS:¬W.S a)(e:H a=some o):Rep (λa=>¬W.S a) H (.ref a) x:=
 (b.mono (G':=λa=>¬W.S a) (λc hc=>w.dj c (hG c hc)) λ_ _ _ e=>e).rep nS e
theorem ResE.lend (r:ResE B H W1 H1 m v x) (w:Wok W1 H1) (hm:m.len=true):Rep (λa=>¬W1.S a) H1 v x:=by
 cases m with
 |no=>cases hm
 |bw=>exact r
 |v e=>exact Rep.weak r λ_ h=>El.nS w h
 |st=>cases hm
 |scr=>cases hm
 |o e=>obtain⟨a,ho,rfl,o⟩:=r;exact o.its.lend w (λ_ h=>El.GF h) o.nS o.at_
 |z e=>obtain⟨a,ho,rfl,o⟩:=r;exact o.its.lend w (λ_ h=>El.GF h) (w.dj a o.F) o.at_
 | p e=>
  rcases r with r|⟨a,ho,rfl,s,h,b⟩
  ·exact Rep.weak r λ_ h=>El.nS w h
  ·exact b.lend w (λ_ h=>El.GF h) s h
 | c e=>
  obtain⟨a,ho,rfl,l,s,h,b⟩:=r
  exact b.lend w (λ_ h=>El.GF h) s h
 |n=>exact Rep.weak r λa h=>w.zS a h.1
def Md.le:Md->Md->Bool
 |.v e,.v e'=>e.le e'
 |.o e,.o e'=>e.le e'
 |.z e,.z e'=>e.le e'
 |.z e,.v .sn=>e.le .sn
 |.z _,.v .sh=>true
 |.v e,.p e'=>e.le e'
 |.o e,.p e'=>e.le e'
 |.z e,.p e'=>e.le e'
 |.p e,.p e'=>e.le e'
 |.c e,.p e'=>e.le e'
 |m,.bw=>m.len
 |_,.no=>true
 |m,n=>decide (m=n)
theorem ResE.le (r:ResE B H W' H' m v x) (w:Wok W' H') (h:m.le n=true):ResE B H W' H' n v x:=by
 cases n with
 |no=>trivial
 |bw=>exact r.lend w (by cases m<;>first|exact h|rfl)
 | v e'=>
  cases m with
  |v e=>exact Rep.weak r λ_ g=>El.leG h g
  | z e=>
   obtain⟨a,ho,rfl,o⟩:=r
   cases e' with
   |fl=>cases h
   |sn=>exact (o.its.mono (G':=El.sn.G W'.F B) (λ_ g=>El.leG (show e.le .sn=true from h) g) λ_ _ _ e=>e).rep ⟨o.F,o.new⟩ o.at_
   |sh=>exact (o.its.mono (G':=El.sh.G W'.F B) (λ_ g=>El.GF g) λ_ _ _ e=>e).rep o.F o.at_
  |_=>cases h
 | o e'=>
  cases m with
  |o e=>obtain⟨a,ho,rfl,o⟩:=r;exact⟨a,ho,rfl,o.new,o.nF,o.nS,o.at_,o.its.mono (λ_ g=>El.leG h g) λ_ _ _ e=>e,o.nZ⟩
  |_=>cases h
 | z e'=>
  cases m with
  |z e=>obtain⟨a,ho,rfl,o⟩:=r;exact⟨a,ho,rfl,o.new,o.F,o.at_,o.its.mono (λ_ g=>El.leG h g) λ_ _ _ e=>e⟩
  |_=>cases h
 | p e'=>
  cases m with
  |v e=>exact .inl (Rep.weak r λ_ g=>El.leG h g)
  |o e=>obtain⟨a,ho,rfl,q⟩:=r;exact .inr ⟨a,ho,rfl,q.nS,q.at_,q.its.mono (λ_ g=>El.leG h g) λ_ _ _ e=>e⟩
  |z e=>obtain⟨a,ho,rfl,q⟩:=r;exact .inr ⟨a,ho,rfl,w.dj a q.F,q.at_,q.its.mono (λ_ g=>El.leG h g) λ_ _ _ e=>e⟩
  | p e=>
   rcases r with r|⟨a,ho,rfl,s,hh,b⟩
   ·exact .inl (Rep.weak r λ_ g=>El.leG h g)
   ·exact .inr ⟨a,ho,rfl,s,hh,b.mono (λ_ g=>El.leG h g) λ_ _ _ e=>e⟩
  | c e=>
   obtain⟨a,ho,rfl,l,s,hh,b⟩:=r
   exact .inr ⟨a,ho,rfl,s,hh,b.mono (λ_ g=>El.leG h g) λ_ _ _ e=>e⟩
  |_=>cases h
 |st=>cases m<;>first|exact r|cases h
 |scr=>cases m<;>first|exact r|cases h
 |n=>cases m<;>first|exact r|cases h
 |c=>cases m<;>first|exact r|cases h|(simp[Md.le] at h;subst h;exact r)
end
abbrev b9:=List (Option PV)
def iL(md:List Md):Bool:=md.all (λm=>!m.lent)||md.all (λm=>!m.own)
theorem j3 {md:List Md} (h:iL md=true) {i j:Nat} (hi:(md.getD i .no).own=true):(md.getD j .no).lent=false:=by
 refine a6c.mpr ?_
 intro hj
 unfold iL at h
 rw[a2o,a1a,a1a] at h
 rw[a0c] at hi hj
 cases e1:md[i]? with
 |none=>rw[e1] at hi;cases hi
 | some a=>
  cases e2:md[j]? with
  |none=>rw[e2] at hj;cases hj
  | some b=>
   rw[e1] at hi;rw[e2] at hj
   rcases h with h|h
   ·have:=h b (a0k e2)
    simp at this hj;rw[hj] at this;cases this
   ·have:=h a (a0k e1)
    simp at this hi;rw[hi] at this;cases this
structure Rl(K:PySem.W.Frag)(md:List Md)(W0:Wd)(H0:Hp)(W:Wd)(σ:St)(env:b9)(H:Hp):Prop where
 ok0:Wok W0 H0
 go:Go W0 H0 W H
 len:σ.length=env.length
 slot:∀(i:Nat) (x:PV),env[i]? =some (some x)->∃v,σ[i]? =some (some v)/\ResE H0 H0 W H (md.getD i .no) v x
 sep:∀(i j:Nat) (x y:PV) (a:Ac),i≠j->(md.getD i .no).own=true->(md.getD j .no).own=true->env[i]? =some (some x)->env[j]? =some (some y)->σ[i]? =some (some (.ref a))->σ[j]? =some (some (.ref a))->False
 bws:iL md=true
 kk:W.K=K
section
variable{K:Aa}{md md':List Md}{W0 W W' W1:Wd}{H0 H H' H1:Hp}{σ:St}{env:b9}{m:Md}{e:El}{v:V}{x:PV}{i:Nat}
theorem Rl.ok(R:Rl K md W0 H0 W σ env H):Wok W H:=R.go.ok
theorem Rl.step (R:Rl K md W0 H0 W σ env H) (g:Go W H W' H'):Rl K md W0 H0 W' σ env H':=
 ⟨R.ok0,R.go.trans g,R.len,λi x e=>by
  obtain⟨v,h1,h2⟩:=R.slot i x e
  exact⟨v,h1,h2.go R.ok g⟩,R.sep,R.bws,g.kk.trans R.kk⟩
theorem eE {md:List Md} {m:Md} {i j:Nat}:(md.set i m).getD j .no=if i=j/\j<md.length then m else md.getD j .no:=by
 rw[a0c,a3d,a0c]
 by_cases h:i=j
 ·subst h
  by_cases h2:i<md.length
  ·simp[h2]
  ·simp[h2]
 ·simp[h]
theorem Md.ofOwn(h:m.own=true):∃e,m= .o e:=by
 cases m with
 |o e=>exact⟨e,rfl⟩
 |_=>cases h
theorem Rl.set (R:Rl K md W0 H0 W1 σ env H1) (g:Go W1 H1 W H) (r:ResE H0 H1 W H m v x) (hm:iL (md.set i m)=true) (hi:i<md.length):Rl K (md.set i m) W0 H0 W (σ.set i (some v)) (env.set i (some x)) H:=by
 have R':=R.step g
 refine⟨R.ok0,R'.go,by simp[R.len],λj y e=>?_,λj k y z a hjk oj ok ej ek sj sk=>?_,hm,R'.kk⟩
 ·rw [a3d] at e
  by_cases h:i=j
  ·subst h
   rw[if_pos rfl] at e
   split at e
   ·rename_i hl
    cases e
    refine⟨v,by rw[a3d,if_pos rfl,if_pos (by rw[R.len];exact hl)],?_⟩
    rw[eE,if_pos ⟨rfl,hi⟩]
    exact ResE.base R.go r
   ·cases e
  ·rw[if_neg h] at e
   obtain⟨w,h1,h2⟩:=R'.slot j y e
   refine⟨w,by rw[a3d,if_neg h];exact h1,?_⟩
   rw[eE,if_neg (λz=>h z.1)]
   exact h2
 ·rw [eE] at oj ok
  rw[a3d] at ej ek sj sk
  have key:∀(l:Nat) (b:Addr),m.own=true->v= .ref b->(md.getD l .no).own=true->(∃y,env[l]? =some (some y))->σ[l]? =some (some (.ref b))->False:=by
   intro l b om hv ol ⟨y,el⟩ sl
   obtain⟨e,rfl⟩:=Md.ofOwn om
   obtain⟨a',ho,q1,o⟩:=r
   rw[hv] at q1;cases q1
   have nb:=o.new
   obtain⟨w,q1,q2⟩:=R.slot l y el
   rw[sl] at q1;cases q1
   obtain⟨e2,hmd⟩:=Md.ofOwn ol
   rw[hmd] at q2;obtain⟨a',ho2,z1,o2⟩:=q2;cases z1;rw[o2.at_] at nb;cases nb
  by_cases hj:i=j
  ·subst hj
   rw[if_pos ⟨rfl,hi⟩] at oj
   rw[if_neg (λz=>hjk z.1)] at ok
   rw[if_neg hjk] at ek sk
   rw[if_pos rfl] at sj
   split at sj
   ·cases sj;exact key k a oj rfl ok ⟨z,ek⟩ sk
   ·cases sj
  ·rw [if_neg (λz=>hj z.1)] at oj
   rw[if_neg hj] at ej sj
   by_cases hk:i=k
   ·subst hk
    rw[if_pos ⟨rfl,hi⟩] at ok
    rw[if_pos rfl] at sk
    split at sk
    ·cases sk;exact key j a ok rfl oj ⟨y,ej⟩ sj
    ·cases sk
   ·rw[if_neg (λz=>hk z.1)] at ok
    rw[if_neg hk] at ek sk
    exact R.sep j k y z a hjk oj ok ej ek sj sk
theorem Rl.le (R:Rl K md W0 H0 W σ env H) (hl:∀i,(md.getD i .no).le (md'.getD i .no)=true) (ho:∀i,(md'.getD i .no).own=true->(md.getD i .no).own=true) (hk:iL md'=true):Rl K md' W0 H0 W σ env H:=
 ⟨R.ok0,R.go,R.len,λi x e=>by
  obtain⟨v,h1,h2⟩:=R.slot i x e
  exact⟨v,h1,h2.le R.ok (hl i)⟩,λi j x y a hij oi oj=>R.sep i j x y a hij (ho i oi) (ho j oj),hk,R.kk⟩
theorem pE {Hs:Hp} {a:Addr} {o:HO} (w:Wok W H) (q:OwnL e H0 Hs W H a o x) (hb:H0 a=none):Wok {W with F:=λb=>W.F b\/b=a} H/\FrzL e H0 {W with F:=λb=>W.F b\/b=a} H a o x:=by
 refine⟨⟨λb hb=>?_,w.sS,λb hb=>?_,w.zZ,λb hb z=>z.elim (w.zF b hb) λz=>q.nZ (z▸hb),w.zS⟩,hb,.inr rfl,q.at_,?_⟩
 ·rcases hb with hb|rfl
  ·exact w.fF b hb
  ·exact⟨_,q.at_⟩
 ·rcases hb with hb|rfl
  ·exact w.dj b hb
  ·exact q.nS
 ·exact q.its.mono (λ_ g=>El.up (λ_ h=>.inl h) (λ_ z=>z) g) λ_ _ _ e=>e
theorem Go.freeze(g0:Go W0 H0 W H)(g:Go W H W' H')(r:ResE H0 H W' H' (.o e) v x):∃W2,Go W H W2 H'/\ResE H0 H W2 H' (.z e) v x:=by
 obtain⟨a,o,rfl,q⟩:=r
 obtain⟨w,r'⟩:=pE g.ok q (g0.free q.new)
 refine⟨{W' with F:=λb=>W'.F b\/b=a},⟨λb hb=>.inl (g.lF b hb),g.lS,λb hb=>?_,g.nS,g.kp,w,g.kk,g.kl,g.lZ,g.nZ⟩,a,o,rfl,r'⟩
 rcases hb with hb|rfl
 ·exact g.nF b hb
 ·exact .inr q.new
theorem Rl.freeze (R:Rl K md W0 H0 W σ env H) (hm:md.getD i .no= .o e):∃W2,Rl K (md.set i (.z e)) W0 H0 W2 σ env H:=by
 have hil:i<md.length:=by
  refine a6h λh=>?_
  rw[a0c,a2g h] at hm
  cases hm
 have own1:∀j,((md.set i (.z e)).getD j .no).own=true->(md.getD j .no).own=true/\i≠j:=λj h=>by
  rw[eE] at h
  split at h
  ·cases h
  ·rename_i q
   refine⟨h,λz=>?_⟩
   subst z
   exact q ⟨rfl,hil⟩
 have hok:iL (md.set i (.z e))=true:=by
  have h:=R.bws
  unfold iL at h ⊢
  rw[a2o,a1a,a1a] at h ⊢
  rcases h with h|h
  ·refine .inl λm hm=>?_
   rcases List.mem_or_eq_of_mem_set hm with z|z
   ·exact h m z
   ·subst z;rfl
  ·refine .inr λm hm=>?_
   rcases List.mem_or_eq_of_mem_set hm with z|z
   ·exact h m z
   ·subst z;rfl
 cases ev:env[i]? with
 | none=>
  refine⟨W,⟨R.ok0,R.go,R.len,λj y ej=>?_,λj k y z a hjk oj ok ej ek sj sk=>R.sep j k y z a hjk (own1 j oj).1 (own1 k ok).1 ej ek sj sk,hok,R.kk⟩⟩
  have hij:¬i=j:=λz=>by subst z;rw[ev] at ej;cases ej
  rw[eE,if_neg (λz=>hij z.1)]
  exact R.slot j y ej
 | some ox=>
  cases ox with
  | none=>
   refine⟨W,⟨R.ok0,R.go,R.len,λj y ej=>?_,λj k y z a hjk oj ok ej ek sj sk=>R.sep j k y z a hjk (own1 j oj).1 (own1 k ok).1 ej ek sj sk,hok,R.kk⟩⟩
   have hij:¬i=j:=λz=>by subst z;rw[ev] at ej;cases ej
   rw[eE,if_neg (λz=>hij z.1)]
   exact R.slot j y ej
  | some x=>
   obtain⟨v,sv,r⟩:=R.slot i x ev
   rw[hm] at r
   obtain⟨a,o,e1,q⟩:=r
   subst e1
   obtain⟨w,r'⟩:=pE R.ok q q.new
   refine⟨{W with F:=λb=>W.F b\/b=a},⟨R.ok0,⟨λb hb=>.inl (R.go.lF b hb),R.go.lS,λb hb=>?_,R.go.nS,R.go.kp,w,R.go.kk,R.go.kl,R.go.lZ,R.go.nZ⟩,R.len,λj y ej=>?_,λj k y z a hjk oj ok ej ek sj sk=>R.sep j k y z a hjk (own1 j oj).1 (own1 k ok).1 ej ek sj sk,hok,R.kk⟩⟩
   ·rcases hb with hb|rfl
    ·exact R.go.nF b hb
    ·exact .inr q.new
   ·by_cases hij:i=j
    ·subst hij
     rw[ev] at ej;cases ej
     refine⟨_,sv,?_⟩
     rw[eE,if_pos ⟨rfl,hil⟩]
     exact⟨a,o,rfl,r'⟩
    ·obtain ⟨u,su,ru⟩:=R.slot j y ej
     refine⟨u,su,?_⟩
     rw[eE,if_neg (λz=>hij z.1)]
     cases hmd:md.getD j .no with
     |no=>trivial
     |bw=>have:=j3 R.bws (i:=i) (j:=j) (by rw[hm];rfl);rw[hmd] at this;cases this
     |p e'=>have:=j3 R.bws (i:=i) (j:=j) (by rw[hm];rfl);rw[hmd] at this;cases this
     |c e'=>have:=j3 R.bws (i:=i) (j:=j) (by rw[hm];rfl);rw[hmd] at this;cases this
     |v e'=>rw[hmd] at ru;exact Rep.weak ru λ_ g=>El.up (λ_ h=>.inl h) (λ_ z=>z) g
     |st=>rw[hmd] at ru;exact ru
     |scr=>rw[hmd] at ru;exact ru
     |n=>rw[hmd] at ru;exact ru
     | o e'=>
      rw[hmd] at ru
      obtain⟨b,ob,z1,qb⟩:=ru
      refine⟨b,ob,z1,qb.new,λz=>?_,qb.nS,qb.at_,qb.its.mono (λ_ g=>El.up (λ_ h=>.inl h) (λ_ z=>z) g) (λ_ _ _ e=>e),qb.nZ⟩
      rcases z with z|z
      ·exact qb.nF z
      ·subst z z1
       exact R.sep i j _ _ _ hij (by rw[hm];rfl) (by rw[hmd];rfl) ev ej sv su
     | z e'=>
      rw[hmd] at ru
      obtain⟨b,ob,z1,qb⟩:=ru
      exact⟨b,ob,z1,qb.new,.inl qb.F,qb.at_,qb.its.mono (λ_ g=>El.up (λ_ h=>.inl h) (λ_ z=>z) g) λ_ _ _ e=>e⟩
theorem Rl.ownAt(R:Rl K md W0 H0 W σ env H)(hm:md.getD i .no= .o e)(ev:env[i]? =some (some x)):∃a o,σ[i]? =some (some (.ref a))/\OwnL e H0 H0 W H a o x:=by
 obtain⟨v,sv,r⟩:=R.slot i x ev
 rw[hm] at r
 obtain⟨a,o,e1,q⟩:=r
 subst e1
 exact⟨a,o,sv,q⟩
theorem Rl.put (R:Rl K md W0 H0 W σ env H) (hm:md.getD i .no= .o e) {x':PV} {o':HO} {a:Addr} (ev:env[i]? =some (some x)) (sa:σ[i]? =some (some (.ref a))) (r:Body (e.G W.F H0) H o' x') (hni:o'.imm=false) :
  Rl K md W0 H0 W σ (env.set i (some x')) (bX H a o'):=by
 obtain⟨a',o,sv,q⟩:=R.ownAt hm ev
 rw[sa] at sv;cases sv
 have nim:o.imm=false:=by
  have:=q.its
  cases this<;>rfl
 have ni:∀b u,H b=some u->u.imm=true->b≠a:=λb u e hi z=>by subst z;rw[q.at_] at e;cases e;rw[nim] at hi;cases hi
 have nf:∀b,W.F b->b≠a:=λb f z=>by subst z;exact q.nF f
 have nz:∀b,W.Z b->b≠a:=λb f z=>by subst z;exact q.nZ f
 have keep:∀ {G:Addr->Prop} {u:V} {y:PV},(∀a,G a->W.F a)->Rep G H u y->Rep G (bX H a o') u y:=λhG r=>r.mono (λ_ h=>h) λb u h e=>by
  rw[aL (h.elim (λg=>nf b (hG b g)) (ni b u e))];exact e
 have keepB:∀ {G:Addr->Prop} {u:HO} {y:PV},(∀a,G a->W.F a)->Body G H u y->Body G (bX H a o') u y:=λhG r=>r.mono (λ_ h=>h) λb u h e=>by
  rw[aL (h.elim (λg=>nf b (hG b g)) (ni b u e))];exact e
 have w:Wok W (bX H a o'):=⟨λb hb=>by rw[aL (nf b hb)];exact R.ok.fF b hb,λb hb=>by
  have nb:b≠a:=λz=>by subst z;exact q.nS hb
  obtain⟨x1,x2,x3,e1,e2⟩:=R.ok.sS b hb
  exact⟨x1,x2,x3,by rw[aL nb];exact e1,e2⟩,R.ok.dj,λb hb=>by rw[aL (nz b hb)];exact R.ok.zZ b hb,R.ok.zF,R.ok.zS⟩
 refine⟨R.ok0,⟨R.go.lF,R.go.lS,R.go.nF,R.go.nS,λb u eb sb=>?_,w,R.go.kk,R.go.kl,R.go.lZ,R.go.nZ⟩,by simp[R.len],λj y ej=>?_,λj k y z b hjk oj ok ej ek sj sk=>?_,R.bws,R.kk⟩
 ·have nb:b≠a:=λz=>by subst z;rw[q.new] at eb;cases eb
  rw[aL nb];exact R.go.kp b u eb sb
 ·rw [a3d] at ej
  by_cases hij:i=j
  ·subst hij
   rw[if_pos rfl] at ej
   split at ej
   ·cases ej
    refine⟨_,sa,?_⟩
    rw[hm]
    exact⟨a,o',rfl,q.new,q.nF,q.nS,bM,keepB (λ_ g=>El.GF g) r,q.nZ⟩
   ·cases ej
  ·rw [if_neg hij] at ej
   obtain⟨u,su,ru⟩:=R.slot j y ej
   refine⟨u,su,?_⟩
   cases hmd:md.getD j .no with
   |no=>trivial
   |bw=>have:=j3 R.bws (i:=i) (j:=j) (by rw[hm];rfl);rw[hmd] at this;cases this
   |p e'=>have:=j3 R.bws (i:=i) (j:=j) (by rw[hm];rfl);rw[hmd] at this;cases this
   |c e'=>have:=j3 R.bws (i:=i) (j:=j) (by rw[hm];rfl);rw[hmd] at this;cases this
   |v e'=>rw[hmd] at ru;exact keep (λ_ g=>El.GF g) ru
   | n=>
    rw[hmd] at ru
    have ru':Rep (λa=>W.Z a/\H0 a=none) H u y:=ru
    exact ru'.mono (λ_ h=>h) λb u h e=>by rw[aL (h.elim (λh=>nz b h.1) (ni b u e))];exact e
   |st=>rw[hmd] at ru;exact ru
   | scr=>
    rw[hmd] at ru
    obtain⟨b,ns,e1,e2,z⟩:=ru
    refine⟨b,ns,e1,e2,?_⟩
    rcases z with ⟨oo,z⟩|z
    ·refine .inl ⟨oo,?_⟩
     rw[aL (λy=>?_)];exact z
     subst y
     have b1:=q.its
     have h2:=q.at_
     rw[z] at h2
     cases h2
     cases b1
    ·exact .inr z
   | o e'=>
    rw[hmd] at ru;obtain⟨b,ob,z1,qb⟩:=ru
    have nb:b≠a:=λz=>by subst z;subst z1;exact R.sep i j _ _ _ hij (by rw[hm];rfl) (by rw[hmd];rfl) ev ej sa su
    exact⟨b,ob,z1,qb.new,qb.nF,qb.nS,by rw[aL nb];exact qb.at_,keepB (λ_ g=>El.GF g) qb.its,qb.nZ⟩
   | z e'=>
    rw[hmd] at ru;obtain⟨b,ob,z1,qb⟩:=ru
    exact⟨b,ob,z1,qb.new,qb.F,by rw[aL (nf b qb.F)];exact qb.at_,keepB (λ_ g=>El.GF g) qb.its⟩
 ·have en:∀(l:Nat) (p:PV),(env.set i (some x'))[l]? =some (some p)->∃p',env[l]? =some (some p'):=by
   intro l p el
   rw[a3d] at el
   by_cases hil:i=l
   ·subst hil;exact⟨_,ev⟩
   ·rw[if_neg hil] at el;exact⟨p,el⟩
  obtain⟨y',ey⟩:=en j y ej
  obtain⟨z',ez⟩:=en k z ek
  exact R.sep j k y' z' b hjk oj ok ey ez sj sk
end
mutual
def PV.norm:PV->PV
 |.bl b=>.int (if b then 1 else 0)
 |.lst xs=>.lst (PV.norms xs)
 |.tup xs=>.tup (PV.norms xs)
 |.non=>.non
 |.int i=>.int i
 |.str x=>.str x
 |.ty n=>.ty n
 |.st=>.st
 |.scr n=>.scr n
 |.set S n=>.set S n
 |.dic k x=>.dic k x
def PV.norms:List PV->List PV
 |[]=>[]
 |x::xs=>x.norm::PV.norms xs
end
mutual
def PV.dep:PV->Nat
 |.lst xs=>PV.deps xs+1
 |.tup xs=>PV.deps xs+1
 |.ty _=>1000
 |.st=>1000
 |.scr _=>1000
 |.set _ _=>1000
 |.dic _ _=>1000
 |.non=>0
 |.bl _=>0
 |.int _=>0
 |.str _=>0
def PV.deps:List PV->Nat
 |[]=>0
 |x::xs=>max x.dep (PV.deps xs)
end
theorem PV.norms_map:∀ {xs:List PV},PV.norms xs=xs.map PV.norm
 |[]=>by rw[PV.norms];rfl
 |x::xs=>by rw[PV.norms,PV.norms_map];rfl
theorem PV.deps_le:∀ {xs:List PV} {x:PV},x∈xs->x.dep<=PV.deps xs
 | y::xs,x,h=>by
  rw[PV.deps]
  rcases a0l.mp h with rfl|h
  ·exact Nat.le_max_left _ _
  ·exact a1b (PV.deps_le h) (Nat.le_max_right _ _)
theorem PV.deps_of{n:Nat}:∀ {xs:List PV},(∀x∈xs,x.dep<=n)->PV.deps xs<=n
 |[],_=>by rw[PV.deps];exact a3c _
 |x::xs,h=>by rw[PV.deps];exact Nat.max_le.mpr ⟨h x a0n,PV.deps_of λy hy=>h y (a0j _ hy)⟩
theorem ext_rep{P:V->PV->PV->Prop}{vs:List V}{xs ys:List PV}(l:vs.length=xs.length)(l':vs.length=ys.length)(h:∀(i:Nat) (v:V) (x y:PV),vs[i]? =some v->xs[i]? =some x->ys[i]? =some y->x=y):xs=ys:=by
 refine a4c ∅ λi h1 h2=>?_
 exact h i vs[i] _ _ (a0a ∅) (a0a h1) (a0a h2)
theorem Rep.inj {G G':Addr->Prop} {H:Hp} {v:V} {x:PV} (r:Rep G H v x):∀ {y:PV},Rep G' H v y->x=y:=by
 induction r with
 |non=>intro y q;cases q;rfl
 |bl b=>intro y q;cases q;rfl
 |int i=>intro y q;cases q;rfl
 |str x=>intro y q;cases q;rfl
 |ty n=>intro y q;cases q;rfl
 | set e=>
  intro y q
  cases q with
  |set e'=>rw[e] at e';cases e';rfl
  |lst g' e' l' h'=>rw[e] at e';cases e'
  |tup e' l' h'=>rw[e] at e';cases e'
  |dic g' e' l1 l' h'=>rw[e] at e';cases e'
 | lst g e l _ ih=>
  intro y q
  cases q with
  | lst g' e' l' h'=>
   rw[e] at e';cases e'
   rw[ext_rep (P:=λ_ _ _=>True) l l' λi v x y e1 e2 e3=>ih i v x e1 e2 (h' i v y e1 e3)]
  |tup e' l' h'=>rw[e] at e';cases e'
  |set e'=>rw[e] at e';cases e'
  |dic g' e' l1 l' h'=>rw[e] at e';cases e'
 | tup e l _ ih=>
  intro y q
  cases q with
  |lst g' e' l' h'=>rw[e] at e';cases e'
  |set e'=>rw[e] at e';cases e'
  |dic g' e' l1 l' h'=>rw[e] at e';cases e'
  | tup e' l' h'=>
   rw[e] at e';cases e'
   rw[ext_rep (P:=λ_ _ _=>True) l l' λi v x y e1 e2 e3=>ih i v x e1 e2 (h' i v y e1 e3)]
 | @dic a ks vs xs g e l1 l _ ih=>
  intro y q
  cases q with
  |lst g' e' l' h'=>rw[e] at e';cases e'
  |set e'=>rw[e] at e';cases e'
  |tup e' l' h'=>rw[e] at e';cases e'
  | @dic _ ks2 vs2 xs2 g' e' l1' l' h'=>
   rw[e] at e'
   have e2:ks.zip vs=ks2.zip vs2:=by injection e' with e';injection e'
   have hk:ks=ks2:=by
    have:=congrArg (List.map Prod.fst) e2
    rwa [List.map_fst_zip ∅,List.map_fst_zip ∅] at this
   have hv:vs=vs2:=by
    have:=congrArg (List.map Prod.snd) e2
    rwa [List.map_snd_zip ∅,List.map_snd_zip ∅] at this
   subst hk hv
   rw[ext_rep (P:=λ_ _ _=>True) l l' λi v x y e1 e2 e3=>ih i v x e1 e2 (h' i v y e1 e3)]
open Classical in
noncomputable def PV.eqB(x y:PV):Bool:=decide (x.norm=y.norm)
open Classical in
theorem eqB_of{x y:PV}{b:Bool}(h:b=true↔x.norm=y.norm):x.eqB y=b:=by
 unfold PV.eqB
 cases b with
 |true=>exact a2n (h.mp rfl)
 |false=>exact a1y λz=>by have:=h.mpr z;cases this
theorem eqB_self(x:PV):x.eqB x=true:=eqB_of (by simp)
open Classical in
theorem eqB_iff{x y:PV}:x.eqB y=true↔x.norm=y.norm:=by unfold PV.eqB;exact a4d
section
variable{X:Cx}{pins:List (Ac×Obj)}{σ:St}{H:Hp}{s:Ab}
theorem eqB_ii(i j:Int):(PV.int i).eqB (.int j)=(i==j):=eqB_of (by rw[a3v,PV.norm,PV.norm];exact⟨λh=>by rw[h],λh=>by injection h⟩)
theorem eqB_ss(i j:Str):(PV.str i).eqB (.str j)=(i==j):=eqB_of (by rw[a3v,PV.norm,PV.norm];exact⟨λh=>by rw[h],λh=>by injection h⟩)
theorem eqB_bb(i j:Bool):(PV.bl i).eqB (.bl j)=(i==j):=eqB_of (by rw[PV.norm,PV.norm];cases i<;>cases j<;>simp)
theorem eqB_bi(i:Bool)(j:Int):(PV.bl i).eqB (.int j)=((if i then 1 else 0)==j):=eqB_of (by rw[a3v,PV.norm,PV.norm];exact⟨λh=>by rw[h],λh=>by injection h⟩)
theorem eqB_ib(i:Int)(j:Bool):(PV.int i).eqB (.bl j)=(i==(if j then 1 else 0)):=eqB_of (by rw[a3v,PV.norm,PV.norm];exact⟨λh=>by rw[h],λh=>by injection h⟩)
theorem eqB_ne{x y:PV}(h:x.norm≠y.norm):x.eqB y=false:=eqB_of (Iff.intro (λz=>Bool.noConfusion z) (λz=>absurd z h))
theorem eqB_lists {xs ys:List PV} {n:Nat} (h1:xs.length=n) (h2:ys.length=n):(PV.lst xs).eqB (.lst ys)=(List.range n).all λj=>(xs.getD j .non).eqB (ys.getD j .non):=by
 refine eqB_of ?_
 rw[PV.norm,PV.norm,PV.norms_map,PV.norms_map,a1a]
 constructor
 ·intro h
  congr 1
  refine a4c (by simp[h1,h2]) λi a b=>?_
  have hi:i<n:=by simpa[h1] using a
  have:=eqB_iff.mp (h i (a1s.mpr hi))
  rw[a0c,a0c,a0a ∅,a0a ∅] at this
  simpa using this
 ·intro h j hj
  injection h with h
  have hj:=a1s.mp hj
  refine eqB_iff.mpr ?_
  rw[a0c,a0c,a0a ∅,a0a ∅]
  have e:=congrArg (λl=>l[j]?) h
  simp only[a0h] at e
  rw[a0a ∅,a0a ∅] at e
  simpa using e
theorem eqB_tup_lst{xs ys:List PV}:(PV.tup xs).eqB (.tup ys)=(PV.lst xs).eqB (.lst ys):=by
 refine eqB_of ?_
 rw[eqB_iff,PV.norm,PV.norm,PV.norm,PV.norm]
 exact⟨λh=>by injection h with h;rw[h],λh=>by injection h with h;rw[h]⟩
theorem eqB_len{xs ys:List PV}(h:xs.length≠ys.length):(PV.lst xs).eqB (.lst ys)=false:=eqB_ne (by
 rw[PV.norm,PV.norm,PV.norms_map,PV.norms_map]
 intro z;injection z with z
 have:=congrArg List.length z
 simp at this;exact h this)
theorem Inv.listR{a:Addr}{vs:List V}(I:Inv X pins σ H s)(h:H a=some (.lst vs)):∃its:List Value,bD vs its/\s.heap.IsList a its.toArray/\vs.length<=sizeLine:=by
 obtain⟨its,v,⟨o,n,g,c,d,e⟩,l⟩:=I.list (a:=a) (xs:=vs) (dO.of h)
 exact⟨its,v,⟨o,g,c,n,e⟩,l⟩
theorem toArr_get{its:List Value}{j:Nat}{u:Value}(e:its[j]? =some u)(h:j<its.toArray.size):its.toArray[j]=u:=by
 have:=(a0e.mp e).2
 simpa using this
theorem eqAt_rep (I:Inv X pins σ H s):∀(n:Nat),n<900->∀ {A:Around} {G G':Addr->Prop} {x y:V} {u v:Value} {px py:PV},Rep G H x px->Rep G' H y py->bQ x u->bQ y v->px.dep<=n->A.units+n<cLine->py.dep<1000->SeqAt.EqAt A s u v (px.eqB py):=by
 intro n
 induction n with
 | zero=>
  intro hn A G G' x y u v px py rx ry ru rv hd hu hy
  cases rx with
  | non=>cases ru;cases ry with
   |non=>cases rv;rw[eqB_self];exact .same _
   |bl b=>cases rv;left;exact .none_bool _
   |int i=>obtain⟨t,rfl⟩:=rv;left;exact .none_int _ _
   |str z=>obtain⟨t,rfl⟩:=rv;left;exact .none_str _ _
   |ty z=>rw[PV.dep] at hy;omega
   |set z=>rw[PV.dep] at hy;omega
   |dic z1 z2 z3 z4 z5=>rw[PV.dep] at hy;omega
   |lst g e l h=>cases rv;left;obtain⟨_,_,hl,_⟩:=I.listR e;exact .none_list hl ∅
   |tup e l h=>cases rv;left;obtain⟨_,_,hl,_⟩:=I.tuple (eQ.of e);exact .none_tuple hl ∅
  | bl b=>cases ru;cases ry with
   |non=>cases rv;left;exact .bool_none _
   |bl c=>cases rv;rw[eqB_bb];exact .bool_bool _ _
   |int i=>obtain⟨t,rfl⟩:=rv;rw[eqB_bi];exact .bool_int _ _ _
   |str z=>obtain⟨t,rfl⟩:=rv;left;exact .bool_str _ _ _
   |ty z=>rw[PV.dep] at hy;omega
   |set z=>rw[PV.dep] at hy;omega
   |dic z1 z2 z3 z4 z5=>rw[PV.dep] at hy;omega
   |lst g e l h=>cases rv;left;obtain⟨_,_,hl,_⟩:=I.listR e;exact .bool_list _ hl ∅
   |tup e l h=>cases rv;left;obtain⟨_,_,hl,_⟩:=I.tuple (eQ.of e);exact .bool_tuple _ hl ∅
  | int i=>obtain⟨t0,rfl⟩:=ru;cases ry with
   |non=>cases rv;left;exact .int_none _ _
   |bl c=>cases rv;rw[eqB_ib];exact .int_bool _ _ _
   |int i=>obtain⟨t,rfl⟩:=rv;rw[eqB_ii];exact .int_int _ _ _ _
   |str z=>obtain⟨t,rfl⟩:=rv;left;exact .int_str _ _ _ _
   |ty z=>rw[PV.dep] at hy;omega
   |set z=>rw[PV.dep] at hy;omega
   |dic z1 z2 z3 z4 z5=>rw[PV.dep] at hy;omega
   |lst g e l h=>cases rv;left;obtain⟨_,_,hl,_⟩:=I.listR e;exact .int_list _ _ hl ∅
   |tup e l h=>cases rv;left;obtain⟨_,_,hl,_⟩:=I.tuple (eQ.of e);exact .int_tuple _ _ hl ∅
  | str z0=>obtain⟨t0,rfl⟩:=ru;cases ry with
   |non=>cases rv;left;exact .str_none _ _
   |bl c=>cases rv;left;exact .str_bool _ _ _
   |int i=>obtain⟨t,rfl⟩:=rv;left;exact .str_int _ _ _ _
   |str z=>obtain⟨t,rfl⟩:=rv;rw[eqB_ss];exact .str_str _ _ _ _
   |ty z=>rw[PV.dep] at hy;omega
   |set z=>rw[PV.dep] at hy;omega
   |dic z1 z2 z3 z4 z5=>rw[PV.dep] at hy;omega
   |lst g e l h=>cases rv;left;obtain⟨_,_,hl,_⟩:=I.listR e;exact .str_list _ _ hl ∅
   |tup e l h=>cases rv;left;obtain⟨_,_,hl,_⟩:=I.tuple (eQ.of e);exact .str_tuple _ _ hl ∅
  |ty z=>rw[PV.dep] at hd;omega
  |set z=>rw[PV.dep] at hd;omega
  |dic z1 z2 z3 z4 z5=>rw[PV.dep] at hd;omega
  |lst=>rw[PV.dep] at hd;omega
  |tup=>rw[PV.dep] at hd;omega
 | succ n ih=>
  intro hn A G G' x y u v px py rx ry ru rv hd hu hy
  have down:px.dep<=n->SeqAt.EqAt A s u v (px.eqB py):=λh=>ih ∅ rx ry ru rv h ∅ hy
  cases hx:rx with
  |non=>exact down (by rw[PV.dep];omega)
  |bl b=>exact down (by rw[PV.dep];omega)
  |int i=>exact down (by rw[PV.dep];omega)
  |str z=>exact down (by rw[PV.dep];omega)
  |ty z=>rw[PV.dep] at hd;omega
  |set z=>rw[PV.dep] at hd;omega
  |dic z1 z2 z3 z4 z5=>rw[PV.dep] at hd;omega
  | @lst a vs xs g e l h=>
   cases ru
   cases hyy:ry with
   |non=>cases rv;left;obtain⟨_,_,hl,_⟩:=I.listR e;exact .list_none hl ∅
   |bl b=>cases rv;left;obtain⟨_,_,hl,_⟩:=I.listR e;exact .list_bool _ hl ∅
   |int i=>obtain⟨t,rfl⟩:=rv;left;obtain⟨_,_,hl,_⟩:=I.listR e;exact .list_int _ _ hl ∅
   |str z=>obtain⟨t,rfl⟩:=rv;left;obtain⟨_,_,hl,_⟩:=I.listR e;exact .list_str _ _ hl ∅
   |ty z=>rw[PV.dep] at hy;omega
   |set z=>rw[PV.dep] at hy;omega
   |dic z1 z2 z3 z4 z5=>rw[PV.dep] at hy;omega
   |tup e' l' h'=>cases rv;left;obtain⟨_,_,hl,_⟩:=I.listR e;obtain⟨_,_,hl2,_⟩:=I.tuple (eQ.of e');exact .list_tuple hl hl2 ∅
   | @lst b vs' ys g' e' l' h'=>
    cases rv
    by_cases hab:a=b
    ·subst hab
     rw[rx.inj ry,eqB_self];exact .same _
    ·obtain ⟨i1,v1,hl1,_⟩:=I.listR e
     obtain⟨i2,v2,hl2,_⟩:=I.listR e'
     have n1:=v1.length
     have n2:=v2.length
     by_cases hlen:xs.length=ys.length
     ·rw [eqB_lists (n:=i1.toArray.size) (by simp;omega) (by simp;omega)]
      refine .of_refs hab (SeqAt.RcAt.lists hl1 hl2 (by simp;omega) ∅ λj h1 h2=>?_)
      have j1:j<i1.length:=by simpa using h1
      have j2:j<i2.length:=by simpa using h2
      obtain⟨u1,eu,ru1⟩:=v1.get (a0a (l:=vs) (i:=j) ∅)
      obtain⟨u2,ev,ru2⟩:=v2.get (a0a (l:=vs') (i:=j) ∅)
      rw[toArr_get eu h1,toArr_get ev h2,a0c,a0c,a0a (l:=xs) ∅,a0a (l:=ys) ∅]
      refine ih ∅ (A:=A.in1) (h j _ _ (a0a ∅) (a0a ∅)) (h' j _ _ (a0a ∅) (a0a ∅)) ru1 ru2 ?_ (by show A.units+1+n<cLine;omega) ?_
      ·rw[PV.dep] at hd
       exact a1b (PV.deps_le (a1h _)) ∅
      ·rw[PV.dep] at hy
       exact a2u (PV.deps_le (a1h _)) ∅
     ·rw[eqB_len hlen]
      refine .of_refs hab (SeqAt.RcAt.lists_lengths hl1 hl2 ?_ ∅)
      simp;omega
  | @tup a vs xs e l h=>
   cases ru
   cases hyy:ry with
   |non=>cases rv;left;obtain⟨_,_,hl,_⟩:=I.tuple (eQ.of e);exact .tuple_none hl ∅
   |bl b=>cases rv;left;obtain⟨_,_,hl,_⟩:=I.tuple (eQ.of e);exact .tuple_bool _ hl ∅
   |int i=>obtain⟨t,rfl⟩:=rv;left;obtain⟨_,_,hl,_⟩:=I.tuple (eQ.of e);exact .tuple_int _ _ hl ∅
   |str z=>obtain⟨t,rfl⟩:=rv;left;obtain⟨_,_,hl,_⟩:=I.tuple (eQ.of e);exact .tuple_str _ _ hl ∅
   |ty z=>rw[PV.dep] at hy;omega
   |set z=>rw[PV.dep] at hy;omega
   |dic z1 z2 z3 z4 z5=>rw[PV.dep] at hy;omega
   |lst g' e' l' h'=>cases rv;left;obtain⟨_,_,hl,_⟩:=I.tuple (eQ.of e);obtain⟨_,_,hl2,_⟩:=I.listR e';exact .tuple_list hl hl2 ∅
   | @tup b vs' ys e' l' h'=>
    cases rv
    by_cases hab:a=b
    ·subst hab
     rw[rx.inj ry,eqB_self];exact .same _
    ·obtain ⟨i1,v1,hl1,_⟩:=I.tuple (eQ.of e)
     obtain⟨i2,v2,hl2,_⟩:=I.tuple (eQ.of e')
     have n1:=v1.length
     have n2:=v2.length
     have go:=SeqAt.RcAt.tuples (A:=A) (e:=λj=>(xs.getD j .non).eqB (ys.getD j .non)) hl1 hl2 ∅ (λj h1 h2=>by
      have j1:j<i1.length:=by simpa using h1
      have j2:j<i2.length:=by simpa using h2
      obtain⟨u1,eu,ru1⟩:=v1.get (a0a (l:=vs) (i:=j) ∅)
      obtain⟨u2,ev,ru2⟩:=v2.get (a0a (l:=vs') (i:=j) ∅)
      rw[toArr_get eu h1,toArr_get ev h2,a0c,a0c,a0a (l:=xs) ∅,a0a (l:=ys) ∅]
      refine ih ∅ (A:=A.in1) (h j _ _ (a0a ∅) (a0a ∅)) (h' j _ _ (a0a ∅) (a0a ∅)) ru1 ru2 ?_ (by show A.units+1+n<cLine;omega) ?_
      ·rw[PV.dep] at hd
       exact a1b (PV.deps_le (a1h _)) ∅
      ·rw[PV.dep] at hy
       exact a2u (PV.deps_le (a1h _)) ∅)
     refine .of_refs hab ?_
     rw[eqB_tup_lst]
     by_cases hlen:xs.length=ys.length
     ·rw[eqB_lists (n:=i1.toArray.size) (by simp;omega) (by simp;omega)]
      rw[show min i1.toArray.size i2.toArray.size=i1.toArray.size by simp;omega,show (i1.toArray.size==i2.toArray.size)=true by simp;omega,Bool.and_true] at go
      exact go
     ·rw[eqB_len hlen]
      rw[show (i1.toArray.size==i2.toArray.size)=false by simp;omega,Bool.and_false] at go
      exact go
end
section
variable{X:Cx}{pins:List (Ac×Obj)}{σ:St}{H:Hp}{s:Ab}
theorem RQ (I:Inv X pins σ H s) {A:Around} {G G':Addr->Prop} {x y:V} {u v:Value} {px py:PV} (rx:Rep G H x px) (ry:Rep G' H y py) (ru:bQ x u) (rv:bQ y v) (hd:px.dep<=60) (hu:A.units+60<cLine) (hy:py.dep<1000):SeqAt.RcAt A s u v (px.eqB py):=by
 cases hx:rx with
 | non=>
  cases ru
  cases hyy:ry with
  | non=>
   cases rv
   rw[eqB_self];exact SeqAt.RcAt.none_none
  | bl b2=>
   cases rv
   left;exact SeqAt.RcAt.none_bool  _
  | int b2=>
   obtain⟨t2,rfl⟩:=rv
   left;exact SeqAt.RcAt.none_int  _ _
  | str b2=>
   obtain⟨t2,rfl⟩:=rv
   left;exact SeqAt.RcAt.none_str  _ _
  | @lst b vs' ys g' e' l' h'=>
   cases rv
   left;obtain⟨i2,v2,hl2,_⟩:=I.listR e';exact SeqAt.RcAt.none_list   hl2 ∅
  | @tup b vs' ys e' l' h'=>
   cases rv
   left;obtain⟨i2,v2,hl2,_⟩:=I.tuple (eQ.of e');exact SeqAt.RcAt.none_tuple   hl2 ∅
  |ty z=>rw[PV.dep] at hy;omega
  |set z=>rw[PV.dep] at hy;omega
  |dic z1 z2 z3 z4 z5=>rw[PV.dep] at hy;omega
 | bl b1=>
  cases ru
  cases hyy:ry with
  | non=>
   cases rv
   left;exact SeqAt.RcAt.bool_none _
  | bl b2=>
   cases rv
   rw[eqB_bb];exact SeqAt.RcAt.bool_bool _ _
  | int b2=>
   obtain⟨t2,rfl⟩:=rv
   rw[eqB_bi];exact SeqAt.RcAt.bool_int _ _ _
  | str b2=>
   obtain⟨t2,rfl⟩:=rv
   left;exact SeqAt.RcAt.bool_str _ _ _
  | @lst b vs' ys g' e' l' h'=>
   cases rv
   left;obtain⟨i2,v2,hl2,_⟩:=I.listR e';exact SeqAt.RcAt.bool_list _  hl2 ∅
  | @tup b vs' ys e' l' h'=>
   cases rv
   left;obtain⟨i2,v2,hl2,_⟩:=I.tuple (eQ.of e');exact SeqAt.RcAt.bool_tuple _  hl2 ∅
  |ty z=>rw[PV.dep] at hy;omega
  |set z=>rw[PV.dep] at hy;omega
  |dic z1 z2 z3 z4 z5=>rw[PV.dep] at hy;omega
 | int b1=>
  obtain⟨t1,rfl⟩:=ru
  cases hyy:ry with
  | non=>
   cases rv
   left;exact SeqAt.RcAt.int_none _ _
  | bl b2=>
   cases rv
   rw[eqB_ib];exact SeqAt.RcAt.int_bool _ _ _
  | int b2=>
   obtain⟨t2,rfl⟩:=rv
   rw[eqB_ii];exact SeqAt.RcAt.int_int _ _ _ _
  | str b2=>
   obtain⟨t2,rfl⟩:=rv
   left;exact SeqAt.RcAt.int_str _ _ _ _
  | @lst b vs' ys g' e' l' h'=>
   cases rv
   left;obtain⟨i2,v2,hl2,_⟩:=I.listR e';exact SeqAt.RcAt.int_list _ _  hl2 ∅
  | @tup b vs' ys e' l' h'=>
   cases rv
   left;obtain⟨i2,v2,hl2,_⟩:=I.tuple (eQ.of e');exact SeqAt.RcAt.int_tuple _ _  hl2 ∅
  |ty z=>rw[PV.dep] at hy;omega
  |set z=>rw[PV.dep] at hy;omega
  |dic z1 z2 z3 z4 z5=>rw[PV.dep] at hy;omega
 | str b1=>
  obtain⟨t1,rfl⟩:=ru
  cases hyy:ry with
  | non=>
   cases rv
   left;exact SeqAt.RcAt.str_none _ _
  | bl b2=>
   cases rv
   left;exact SeqAt.RcAt.str_bool _ _ _
  | int b2=>
   obtain⟨t2,rfl⟩:=rv
   left;exact SeqAt.RcAt.str_int _ _ _ _
  | str b2=>
   obtain⟨t2,rfl⟩:=rv
   rw[eqB_ss];exact SeqAt.RcAt.str_str _ _ _ _
  | @lst b vs' ys g' e' l' h'=>
   cases rv
   left;obtain⟨i2,v2,hl2,_⟩:=I.listR e';exact SeqAt.RcAt.str_list _ _  hl2 ∅
  | @tup b vs' ys e' l' h'=>
   cases rv
   left;obtain⟨i2,v2,hl2,_⟩:=I.tuple (eQ.of e');exact SeqAt.RcAt.str_tuple _ _  hl2 ∅
  |ty z=>rw[PV.dep] at hy;omega
  |set z=>rw[PV.dep] at hy;omega
  |dic z1 z2 z3 z4 z5=>rw[PV.dep] at hy;omega
 | @lst a vs xs g e l h=>
  cases ru
  cases hyy:ry with
  | non=>
   cases rv
   left;obtain⟨i1,v1,hl1,_⟩:=I.listR e;exact SeqAt.RcAt.list_none   hl1 ∅
  | bl b2=>
   cases rv
   left;obtain⟨i1,v1,hl1,_⟩:=I.listR e;exact SeqAt.RcAt.list_bool  _ hl1 ∅
  | int b2=>
   obtain⟨t2,rfl⟩:=rv
   left;obtain⟨i1,v1,hl1,_⟩:=I.listR e;exact SeqAt.RcAt.list_int  _ _ hl1 ∅
  | str b2=>
   obtain⟨t2,rfl⟩:=rv
   left;obtain⟨i1,v1,hl1,_⟩:=I.listR e;exact SeqAt.RcAt.list_str  _ _ hl1 ∅
  | @lst b vs' ys g' e' l' h'=>
   cases rv
   obtain⟨i1,v1,hl1,_⟩:=I.listR e
   obtain⟨i2,v2,hl2,_⟩:=I.listR e'
   have n1:=v1.length
   have n2:=v2.length
   by_cases hlen:xs.length=ys.length
   ·rw [eqB_lists (n:=i1.toArray.size) (by simp;omega) (by simp;omega)]
    exact SeqAt.RcAt.lists hl1 hl2 (by simp;omega) ∅ (λj h1 h2=>by
      have j1:j<i1.length:=by simpa using h1
      have j2:j<i2.length:=by simpa using h2
      obtain⟨u1,eu,ru1⟩:=v1.get (a0a (l:=vs) (i:=j) ∅)
      obtain⟨u2,ev,ru2⟩:=v2.get (a0a (l:=vs') (i:=j) ∅)
      rw[toArr_get eu h1,toArr_get ev h2,a0c,a0c,a0a (l:=xs) ∅,a0a (l:=ys) ∅]
      refine eqAt_rep I 59 ∅ (A:=A.in1) (h j _ _ (a0a ∅) (a0a ∅)) (h' j _ _ (a0a ∅) (a0a ∅)) ru1 ru2 ?_ (by show A.units+1+59<cLine;omega) ?_
      ·rw[PV.dep] at hd
       exact a1b (PV.deps_le (a1h _)) ∅
      ·rw[PV.dep] at hy
       exact a2u (PV.deps_le (a1h _)) ∅)
   ·rw[eqB_len hlen]
    exact SeqAt.RcAt.lists_lengths hl1 hl2 (by simp;omega) ∅
  | @tup b vs' ys e' l' h'=>
   cases rv
   left;obtain⟨i1,v1,hl1,_⟩:=I.listR e;obtain⟨i2,v2,hl2,_⟩:=I.tuple (eQ.of e');exact SeqAt.RcAt.list_tuple hl1 hl2 ∅
  |ty z=>rw[PV.dep] at hy;omega
  |set z=>rw[PV.dep] at hy;omega
  |dic z1 z2 z3 z4 z5=>rw[PV.dep] at hy;omega
 | @tup a vs xs e l h=>
  cases ru
  cases hyy:ry with
  | non=>
   cases rv
   left;obtain⟨i1,v1,hl1,_⟩:=I.tuple (eQ.of e);exact SeqAt.RcAt.tuple_none   hl1 ∅
  | bl b2=>
   cases rv
   left;obtain⟨i1,v1,hl1,_⟩:=I.tuple (eQ.of e);exact SeqAt.RcAt.tuple_bool  _ hl1 ∅
  | int b2=>
   obtain⟨t2,rfl⟩:=rv
   left;obtain⟨i1,v1,hl1,_⟩:=I.tuple (eQ.of e);exact SeqAt.RcAt.tuple_int  _ _ hl1 ∅
  | str b2=>
   obtain⟨t2,rfl⟩:=rv
   left;obtain⟨i1,v1,hl1,_⟩:=I.tuple (eQ.of e);exact SeqAt.RcAt.tuple_str  _ _ hl1 ∅
  | @lst b vs' ys g' e' l' h'=>
   cases rv
   left;obtain⟨i1,v1,hl1,_⟩:=I.tuple (eQ.of e);obtain⟨i2,v2,hl2,_⟩:=I.listR e';exact SeqAt.RcAt.tuple_list hl1 hl2 ∅
  | @tup b vs' ys e' l' h'=>
   cases rv
   obtain⟨i1,v1,hl1,_⟩:=I.tuple (eQ.of e)
   obtain⟨i2,v2,hl2,_⟩:=I.tuple (eQ.of e')
   have n1:=v1.length
   have n2:=v2.length
   have go:=SeqAt.RcAt.tuples (A:=A) (e:=λj=>(xs.getD j .non).eqB (ys.getD j .non)) hl1 hl2 ∅ (λj h1 h2=>by
    have j1:j<i1.length:=by simpa using h1
    have j2:j<i2.length:=by simpa using h2
    obtain⟨u1,eu,ru1⟩:=v1.get (a0a (l:=vs) (i:=j) ∅)
    obtain⟨u2,ev,ru2⟩:=v2.get (a0a (l:=vs') (i:=j) ∅)
    rw[toArr_get eu h1,toArr_get ev h2,a0c,a0c,a0a (l:=xs) ∅,a0a (l:=ys) ∅]
    refine eqAt_rep I 59 ∅ (A:=A.in1) (h j _ _ (a0a ∅) (a0a ∅)) (h' j _ _ (a0a ∅) (a0a ∅)) ru1 ru2 ?_ (by show A.units+1+59<cLine;omega) ?_
    ·rw[PV.dep] at hd
     exact a1b (PV.deps_le (a1h _)) ∅
    ·rw[PV.dep] at hy
     exact a2u (PV.deps_le (a1h _)) ∅)
   rw[eqB_tup_lst]
   by_cases hlen:xs.length=ys.length
   ·rw[eqB_lists (n:=i1.toArray.size) (by simp;omega) (by simp;omega)]
    rw[show min i1.toArray.size i2.toArray.size=i1.toArray.size by simp;omega,show (i1.toArray.size==i2.toArray.size)=true by simp;omega,Bool.and_true] at go
    exact go
   ·rw[eqB_len hlen]
    rw[show (i1.toArray.size==i2.toArray.size)=false by simp;omega,Bool.and_false] at go
    exact go
  |ty z=>rw[PV.dep] at hy;omega
  |set z=>rw[PV.dep] at hy;omega
  |dic z1 z2 z3 z4 z5=>rw[PV.dep] at hy;omega
 |ty z=>rw[PV.dep] at hd;omega
 |set z=>rw[PV.dep] at hd;omega
 |dic z1 z2 z3 z4 z5=>rw[PV.dep] at hd;omega
theorem RR (I:Inv X pins σ H s) {A:Around} {G G':Addr->Prop} {x y:V} {u v:Value} {px py:PV} (rx:Rep G H x px) (ry:Rep G' H y py) (ru:bQ x u) (rv:bQ y v) (hd:px.dep<=60) (hu:A.units+60<cLine) (hy:py.dep<1000):SeqAt.RcNeAt A s u v (!(px.eqB py)):=by
 cases hx:rx with
 | non=>
  cases ru
  cases hyy:ry with
  | non=>
   cases rv
   rw[eqB_self];exact SeqAt.RcNeAt.none_none
  | bl b2=>
   cases rv
   left;exact SeqAt.RcNeAt.none_bool  _
  | int b2=>
   obtain⟨t2,rfl⟩:=rv
   left;exact SeqAt.RcNeAt.none_int  _ _
  | str b2=>
   obtain⟨t2,rfl⟩:=rv
   left;exact SeqAt.RcNeAt.none_str  _ _
  | @lst b vs' ys g' e' l' h'=>
   cases rv
   left;obtain⟨i2,v2,hl2,_⟩:=I.listR e';exact SeqAt.RcNeAt.none_list   hl2 ∅
  | @tup b vs' ys e' l' h'=>
   cases rv
   left;obtain⟨i2,v2,hl2,_⟩:=I.tuple (eQ.of e');exact SeqAt.RcNeAt.none_tuple   hl2 ∅
  |ty z=>rw[PV.dep] at hy;omega
  |set z=>rw[PV.dep] at hy;omega
  |dic z1 z2 z3 z4 z5=>rw[PV.dep] at hy;omega
 | bl b1=>
  cases ru
  cases hyy:ry with
  | non=>
   cases rv
   left;exact SeqAt.RcNeAt.bool_none _
  | bl b2=>
   cases rv
   rw[eqB_bb];exact SeqAt.RcNeAt.bool_bool _ _
  | int b2=>
   obtain⟨t2,rfl⟩:=rv
   rw[eqB_bi];exact SeqAt.RcNeAt.bool_int _ _ _
  | str b2=>
   obtain⟨t2,rfl⟩:=rv
   left;exact SeqAt.RcNeAt.bool_str _ _ _
  | @lst b vs' ys g' e' l' h'=>
   cases rv
   left;obtain⟨i2,v2,hl2,_⟩:=I.listR e';exact SeqAt.RcNeAt.bool_list _  hl2 ∅
  | @tup b vs' ys e' l' h'=>
   cases rv
   left;obtain⟨i2,v2,hl2,_⟩:=I.tuple (eQ.of e');exact SeqAt.RcNeAt.bool_tuple _  hl2 ∅
  |ty z=>rw[PV.dep] at hy;omega
  |set z=>rw[PV.dep] at hy;omega
  |dic z1 z2 z3 z4 z5=>rw[PV.dep] at hy;omega
 | int b1=>
  obtain⟨t1,rfl⟩:=ru
  cases hyy:ry with
  | non=>
   cases rv
   left;exact SeqAt.RcNeAt.int_none _ _
  | bl b2=>
   cases rv
   rw[eqB_ib];exact SeqAt.RcNeAt.int_bool _ _ _
  | int b2=>
   obtain⟨t2,rfl⟩:=rv
   rw[eqB_ii];exact SeqAt.RcNeAt.int_int _ _ _ _
  | str b2=>
   obtain⟨t2,rfl⟩:=rv
   left;exact SeqAt.RcNeAt.int_str _ _ _ _
  | @lst b vs' ys g' e' l' h'=>
   cases rv
   left;obtain⟨i2,v2,hl2,_⟩:=I.listR e';exact SeqAt.RcNeAt.int_list _ _  hl2 ∅
  | @tup b vs' ys e' l' h'=>
   cases rv
   left;obtain⟨i2,v2,hl2,_⟩:=I.tuple (eQ.of e');exact SeqAt.RcNeAt.int_tuple _ _  hl2 ∅
  |ty z=>rw[PV.dep] at hy;omega
  |set z=>rw[PV.dep] at hy;omega
  |dic z1 z2 z3 z4 z5=>rw[PV.dep] at hy;omega
 | str b1=>
  obtain⟨t1,rfl⟩:=ru
  cases hyy:ry with
  | non=>
   cases rv
   left;exact SeqAt.RcNeAt.str_none _ _
  | bl b2=>
   cases rv
   left;exact SeqAt.RcNeAt.str_bool _ _ _
  | int b2=>
   obtain⟨t2,rfl⟩:=rv
   left;exact SeqAt.RcNeAt.str_int _ _ _ _
  | str b2=>
   obtain⟨t2,rfl⟩:=rv
   rw[eqB_ss];exact SeqAt.RcNeAt.str_str _ _ _ _
  | @lst b vs' ys g' e' l' h'=>
   cases rv
   left;obtain⟨i2,v2,hl2,_⟩:=I.listR e';exact SeqAt.RcNeAt.str_list _ _  hl2 ∅
  | @tup b vs' ys e' l' h'=>
   cases rv
   left;obtain⟨i2,v2,hl2,_⟩:=I.tuple (eQ.of e');exact SeqAt.RcNeAt.str_tuple _ _  hl2 ∅
  |ty z=>rw[PV.dep] at hy;omega
  |set z=>rw[PV.dep] at hy;omega
  |dic z1 z2 z3 z4 z5=>rw[PV.dep] at hy;omega
 | @lst a vs xs g e l h=>
  cases ru
  cases hyy:ry with
  | non=>
   cases rv
   left;obtain⟨i1,v1,hl1,_⟩:=I.listR e;exact SeqAt.RcNeAt.list_none   hl1 ∅
  | bl b2=>
   cases rv
   left;obtain⟨i1,v1,hl1,_⟩:=I.listR e;exact SeqAt.RcNeAt.list_bool  _ hl1 ∅
  | int b2=>
   obtain⟨t2,rfl⟩:=rv
   left;obtain⟨i1,v1,hl1,_⟩:=I.listR e;exact SeqAt.RcNeAt.list_int  _ _ hl1 ∅
  | str b2=>
   obtain⟨t2,rfl⟩:=rv
   left;obtain⟨i1,v1,hl1,_⟩:=I.listR e;exact SeqAt.RcNeAt.list_str  _ _ hl1 ∅
  | @lst b vs' ys g' e' l' h'=>
   cases rv
   obtain⟨i1,v1,hl1,_⟩:=I.listR e
   obtain⟨i2,v2,hl2,_⟩:=I.listR e'
   have n1:=v1.length
   have n2:=v2.length
   by_cases hlen:xs.length=ys.length
   ·rw [eqB_lists (n:=i1.toArray.size) (by simp;omega) (by simp;omega)]
    exact SeqAt.RcNeAt.lists hl1 hl2 (by simp;omega) ∅ (λj h1 h2=>by
      have j1:j<i1.length:=by simpa using h1
      have j2:j<i2.length:=by simpa using h2
      obtain⟨u1,eu,ru1⟩:=v1.get (a0a (l:=vs) (i:=j) ∅)
      obtain⟨u2,ev,ru2⟩:=v2.get (a0a (l:=vs') (i:=j) ∅)
      rw[toArr_get eu h1,toArr_get ev h2,a0c,a0c,a0a (l:=xs) ∅,a0a (l:=ys) ∅]
      refine eqAt_rep I 59 ∅ (A:=A.in1) (h j _ _ (a0a ∅) (a0a ∅)) (h' j _ _ (a0a ∅) (a0a ∅)) ru1 ru2 ?_ (by show A.units+1+59<cLine;omega) ?_
      ·rw[PV.dep] at hd
       exact a1b (PV.deps_le (a1h _)) ∅
      ·rw[PV.dep] at hy
       exact a2u (PV.deps_le (a1h _)) ∅)
   ·rw[eqB_len hlen]
    exact SeqAt.RcNeAt.lists_lengths hl1 hl2 (by simp;omega) ∅
  | @tup b vs' ys e' l' h'=>
   cases rv
   left;obtain⟨i1,v1,hl1,_⟩:=I.listR e;obtain⟨i2,v2,hl2,_⟩:=I.tuple (eQ.of e');exact SeqAt.RcNeAt.list_tuple hl1 hl2 ∅
  |ty z=>rw[PV.dep] at hy;omega
  |set z=>rw[PV.dep] at hy;omega
  |dic z1 z2 z3 z4 z5=>rw[PV.dep] at hy;omega
 | @tup a vs xs e l h=>
  cases ru
  cases hyy:ry with
  | non=>
   cases rv
   left;obtain⟨i1,v1,hl1,_⟩:=I.tuple (eQ.of e);exact SeqAt.RcNeAt.tuple_none   hl1 ∅
  | bl b2=>
   cases rv
   left;obtain⟨i1,v1,hl1,_⟩:=I.tuple (eQ.of e);exact SeqAt.RcNeAt.tuple_bool  _ hl1 ∅
  | int b2=>
   obtain⟨t2,rfl⟩:=rv
   left;obtain⟨i1,v1,hl1,_⟩:=I.tuple (eQ.of e);exact SeqAt.RcNeAt.tuple_int  _ _ hl1 ∅
  | str b2=>
   obtain⟨t2,rfl⟩:=rv
   left;obtain⟨i1,v1,hl1,_⟩:=I.tuple (eQ.of e);exact SeqAt.RcNeAt.tuple_str  _ _ hl1 ∅
  | @lst b vs' ys g' e' l' h'=>
   cases rv
   left;obtain⟨i1,v1,hl1,_⟩:=I.tuple (eQ.of e);obtain⟨i2,v2,hl2,_⟩:=I.listR e';exact SeqAt.RcNeAt.tuple_list hl1 hl2 ∅
  | @tup b vs' ys e' l' h'=>
   cases rv
   obtain⟨i1,v1,hl1,_⟩:=I.tuple (eQ.of e)
   obtain⟨i2,v2,hl2,_⟩:=I.tuple (eQ.of e')
   have n1:=v1.length
   have n2:=v2.length
   have go:=SeqAt.RcNeAt.tuples (A:=A) (e:=λj=>(xs.getD j .non).eqB (ys.getD j .non)) hl1 hl2 ∅ (λj h1 h2=>by
    have j1:j<i1.length:=by simpa using h1
    have j2:j<i2.length:=by simpa using h2
    obtain⟨u1,eu,ru1⟩:=v1.get (a0a (l:=vs) (i:=j) ∅)
    obtain⟨u2,ev,ru2⟩:=v2.get (a0a (l:=vs') (i:=j) ∅)
    rw[toArr_get eu h1,toArr_get ev h2,a0c,a0c,a0a (l:=xs) ∅,a0a (l:=ys) ∅]
    refine eqAt_rep I 59 ∅ (A:=A.in1) (h j _ _ (a0a ∅) (a0a ∅)) (h' j _ _ (a0a ∅) (a0a ∅)) ru1 ru2 ?_ (by show A.units+1+59<cLine;omega) ?_
    ·rw[PV.dep] at hd
     exact a1b (PV.deps_le (a1h _)) ∅
    ·rw[PV.dep] at hy
     exact a2u (PV.deps_le (a1h _)) ∅)
   rw[eqB_tup_lst]
   by_cases hlen:xs.length=ys.length
   ·rw[eqB_lists (n:=i1.toArray.size) (by simp;omega) (by simp;omega)]
    rw[show min i1.toArray.size i2.toArray.size=i1.toArray.size by simp;omega,show (i1.toArray.size==i2.toArray.size)=true by simp;omega,Bool.and_true] at go
    exact go
   ·rw[eqB_len hlen]
    rw[show (i1.toArray.size==i2.toArray.size)=false by simp;omega,Bool.and_false] at go
    exact go
  |ty z=>rw[PV.dep] at hy;omega
  |set z=>rw[PV.dep] at hy;omega
  |dic z1 z2 z3 z4 z5=>rw[PV.dep] at hy;omega
 |ty z=>rw[PV.dep] at hd;omega
 |set z=>rw[PV.dep] at hd;omega
 |dic z1 z2 z3 z4 z5=>rw[PV.dep] at hd;omega
def a6Z:R2:=λx y H Q=>∃G G' px py,Rep G H x px/\Rep G' H y py/\px.dep<=60/\py.dep<1000/\Q (.bl (px.eqB py)) H
def a21:R2:=λx y H Q=>∃G G' px py,Rep G H x px/\Rep G' H y py/\px.dep<=60/\py.dep<1000/\Q (.bl (!px.eqB py)) H
theorem a0R(hu:X.A.units+60<cLine):nY X (compareOp .Eq) a6Z:=by
 intro pins s σ H x y v u Q I rx ry h
 obtain⟨G,G',px,py,r1,r2,d1,d2,q⟩:=h
 exact PySem.W.cmp_ofEq (RQ I r1 r2 rx ry d1 hu d2 X.prog X.w X.xe _ ⟨.bl _,H,I,rfl,q⟩)
theorem a0W(hu:X.A.units+60<cLine):nY X (compareOp .NotEq) a21:=by
 intro pins s σ H x y v u Q I rx ry h
 obtain⟨G,G',px,py,r1,r2,d1,d2,q⟩:=h
 exact PySem.W.cmp_ofNotEq (RR I r1 r2 rx ry d1 hu d2 X.prog X.w X.xe _ ⟨.bl _,H,I,rfl,q⟩)
def a1W(neg:Bool):R2:=λx y H Q=>∃G G' px ys,Rep G H x px/\(Rep G' H y (.lst ys)\/Rep G' H y (.tup ys))/\px.dep<1000/\PV.deps ys<=60/\Q (.bl (if neg then !ys.any (λz=>z.eqB px) else ys.any λz=>z.eqB px)) H
theorem T8 {vs:List V} {its:List Value} {ys:List PV} {px:PV} {G:Addr->Prop} (v:bD vs its) (r:Reps G H vs ys) {e:Value->Bool} (he:∀(j:Nat) (y:PV) (u:Value),ys[j]? =some y->its[j]? =some u->e u=y.eqB px):its.toArray.any e=ys.any λz=>z.eqB px:=by
 have n1:=v.length
 have n2:=r.len
 rw[List.any_toArray]
 rw[a4z,List.any_eq_true,List.any_eq_true]
 constructor
 ·rintro⟨u,hu,h⟩
  obtain⟨j,hj,rfl⟩:=a2d hu
  refine⟨ys[j]'∅,a1h _,?_⟩
  rw[<- he j _ _ (a0a ∅) (a0a hj)];exact h
 ·rintro⟨y,hy,h⟩
  obtain⟨j,hj,rfl⟩:=a2d hy
  refine⟨its[j]'∅,a1h _,?_⟩
  rw[he j _ _ (a0a hj) (a0a ∅)];exact h
open Classical in
theorem XS {A:Around} {G G':Addr->Prop} {vs:List V} {its:List Value} {ys:List PV} {px:PV} {x:V} {u:Value} (I:Inv X pins σ H s) (v:bD vs its) (r:Reps G H vs ys) (rx:Rep G' H x px) (ru:bQ x u) (hd:px.dep<1000) (hds:PV.deps ys<=60) (hu:A.units+60<cLine) :
  ∃e:Value->Bool,(∀y,y∈its.toArray->SeqAt.EqAt A s y u (e y))/\its.toArray.any e=ys.any λz=>z.eqB px:=by
 have n1:=v.length
 have n2:=r.len
 have ex:∀w,w∈its->∃b,SeqAt.EqAt A s w u b/\∀(j:Nat) (y:PV),ys[j]? =some y->its[j]? =some w->b=y.eqB px:=by
  intro w hw
  obtain⟨j,hj,rfl⟩:=a2d hw
  obtain⟨w1,e1,r1⟩:=v.get (a0a (l:=vs) (i:=j) ∅)
  rw[a0a hj] at e1;cases e1
  have ry:=r.at_ j _ _ (a0a ∅) (a0a (l:=ys) ∅)
  refine⟨(ys[j]'∅).eqB px,eqAt_rep I 60 ∅ ry rx r1 ru (a1b (PV.deps_le (a1h _)) hds) hu hd,λk y e1 e2=>?_⟩
  obtain⟨w2,e3,r3⟩:=v.get (a0a (l:=vs) (i:=k) (by have:=(a0e.mp e1).1;omega))
  rw[e2] at e3;cases e3
  have:=r1.inj r3
  have rk:=r.at_ k _ _ (a0a (by have:=(a0e.mp e1).1;omega)) e1
  rw[<- this] at rk
  rw[ry.inj rk]
 refine⟨λw=>if h:w∈its then (ex w h).choose else false,λy hy=>?_,T8 v r λj y w e1 e2=>?_⟩
 ·have hy':y∈its:=by simpa using hy
  dsimp only
  rw[dif_pos hy']
  exact (ex y hy').choose_spec.1
 ·have hw:=a0k e2
  rw[dif_pos hw]
  exact (ex w hw).choose_spec.2 j y e1 e2
theorem a0S (hu:X.A.units+61<cLine):nY X (compareOp .In) (a1W false):=by
 intro pins s σ H x y v u Q I rx ry h
 obtain⟨G,G',px,ys,r1,r2,d1,d2,q⟩:=h
 rw[if_neg (by decide)] at q
 rcases r2 with r2|r2
 ·obtain⟨a,vs,rfl,g,e,rs⟩:=r2.ofList
  cases ry
  obtain⟨its,vv,hl,_⟩:=I.listR e
  obtain⟨f,h1,h2⟩:=XS (A:=X.A.in1) I vv rs r1 rx d1 d2 (by show X.A.units+1+60<cLine;omega)
  exact SeqAt.in_listAt f hl h1 (by rw[h2];exact⟨.bl _,H,I,rfl,q⟩)
 ·obtain⟨a,vs,rfl,e,rs⟩:=r2.ofTup
  cases ry
  obtain⟨its,vv,hl,_⟩:=I.tuple (eQ.of e)
  obtain⟨f,h1,h2⟩:=XS (A:=X.A.in1) I vv rs r1 rx d1 d2 (by show X.A.units+1+60<cLine;omega)
  exact SeqAt.in_tupleAt f hl h1 (by rw[h2];exact⟨.bl _,H,I,rfl,q⟩)
end
theorem WI{X:Cx}(hu:X.A.units+64<cLine):QOp X (compareOp .NotEq) a21:=⟨a0W ∅⟩
theorem WG{X:Cx}(hu:X.A.units+64<cLine):QOp X (compareOp .In) (a1W false):=⟨a0S ∅⟩
abbrev oA{α:Type}:List α->Nat->Option α
 |[],_=>none
 |a::_,0=>some a
 |_::l,n+1=>oA l n
theorem nD{α:Type}:∀(l:List α) (i:Nat),oA l i=l[i]?
 |[],_=>by simp[oA]
 |a::l,0=>by simp[oA]
 |a::l,i+1=>by simp[oA,nD l i]
abbrev kS{α:Type}:List α->Nat->α->List α
 |[],_,_=>[]
 |_::l,0,b=>b::l
 |a::l,n+1,b=>a::kS l n b
theorem gH{α:Type}:∀(l:List α) (i:Nat) (b:α),kS l i b=l.set i b
 |[],_,_=>by simp[kS]
 |a::l,0,b=>by simp[kS]
 |a::l,i+1,b=>by simp[kS,gH l i b]
abbrev b5:=b9->(PV->Prop)->Prop
abbrev gJ:=b9->(Bool->Prop)->Prop
abbrev qB:=b9->(List PV->Prop)->Prop
abbrev P2:=PV->PV->(PV->Prop)->Prop
abbrev PN:=List PV->(PV->Prop)->Prop
def Br(b:Bool)(x y:Prop):Prop:=match b with
 |true=>x
 |false=>y
theorem a2Y{b:Bool}{x y:Prop}(h1:b=true->x)(h2:b=false->y):Br b x y:=by
 cases b with
 |true=>exact h1 rfl
 |false=>exact h2 rfl
def pC(x:PV):b5:=λ_ Q=>Q x
def aA(i:Nat):b5:=λenv Q=>match oA env i with
 |some (some x)=>Q x
 |_=>False
def bA(r:P2)(a b:b5):b5:=λenv Q=>a env λx=>b env λy=>r x y Q
def C6(r:PV->(PV->Prop)->Prop)(a:b5):b5:=λenv Q=>a env λx=>r x Q
def aE:qB:=λ_ Q=>Q []
def a8(a:b5)(r:qB):qB:=λenv Q=>a env λx=>r env λxs=>Q (x::xs)
def bT(r:PN)(a:qB):b5:=λenv Q=>a env λxs=>r xs Q
def nG(a:b5):gJ:=λenv Q=>a env λx=>match x with
 |.bl b=>Q b
 |_=>False
def iV(a b:b5):b5:=λenv Q=>a env λx=>match x with
 |.bl k=>Br k (b env Q) (Q (.bl false))
 |_=>False
def EV(a:b5):b5:=λenv Q=>a env λx=>match x with
 |.bl k=>Q (.bl (!k))
 |_=>False
def MH(a b:gJ):gJ:=λenv Q=>a env λk=>Br k (b env Q) (Q false)
def VL(a b:gJ):gJ:=λenv Q=>a env λk=>Br k (Q true) (b env Q)
def qX(a:gJ):gJ:=λenv Q=>a env λk=>Q (!k)
def pF(r r':P2)(a b c:b5):b5:=λenv Q=>a env λx=>b env λy=>r x y λz=>match z with
 |.bl k=>Br k (c env λw=>r' y w Q) (Q (.bl false))
 |_=>False
def oJ(a:b5):b5:=λenv Q=>a env λx=>x.flat=true/\Q x
def mP(B:Hp)(W:Wd)(H:Hp)(m:Md)(Q:PV->Prop)(K:VK):Prop:=∀(x:PV) (v:V) (W':Wd) (H':Hp),Go W H W' H'->ResE B H W' H' m v x->Q x->K v H'
def fY(K':Aa)(md:List Md)(m:Md)(p:b5):TE:=λσ H K=>∃(env:b9) (W0:Wd) (H0:Hp) (W:Wd) (Q:PV->Prop),Rl K' md W0 H0 W σ env H/\p env Q/\mP H0 W H m Q K
def tY(K':Aa)(md:List Md)(p:gJ):TT:=λσ H K=>∃(env:b9) (W0:Wd) (H0:Hp) (W:Wd) (Q:Bool->Prop),Rl K' md W0 H0 W σ env H/\p env Q/\∀(b:Bool) (W':Wd) (H':Hp),Go W H W' H'->Q b->K b H'
inductive ResEs(B H:Hp)(W':Wd)(H':Hp):List Md->List V->List PV->Prop where
 |nil:ResEs B H W' H' [] [] []
 |cons {m:Md} {v:V} {x:PV} {ms:List Md} {vs:List V} {xs:List PV}:ResE B H W' H' m v x->ResEs B H W' H' ms vs xs->ResEs B H W' H' (m::ms) (v::vs) (x::xs)
def a33(B:Hp)(W:Wd)(H:Hp)(ms:List Md)(Q:List PV->Prop)(K:List V->Hp->Prop):Prop:=∀(xs:List PV) (vs:List V) (W':Wd) (H':Hp),Go W H W' H'->ResEs B H W' H' ms vs xs->Q xs->K vs H'
def XX(K':Aa)(md:List Md)(ms:List Md)(p:qB):TA:=λσ H K=>∃(env:b9) (W0:Wd) (H0:Hp) (W:Wd) (Q:List PV->Prop),Rl K' md W0 H0 W σ env H/\p env Q/\a33 H0 W H ms Q K
structure VE(X:Cx)(md:List Md)(e:Expr)(m:Md)(p:b5):Prop where
 h:PE X e (fY X.K md m p)
structure VT(X:Cx)(md:List Md)(e:Expr)(p:gJ):Prop where
 h:PT X e (tY X.K md p)
structure VW(X:Cx)(md:List Md)(e:Expr)(p:gJ):Prop where
 h:PW X e (tY X.K md p)
structure VA(X:Cx)(md:List Md)(es:List Expr)(ms:List Md)(p:qB):Prop where
 h:PA X es (XX X.K md ms p)
section
variable{X:Cx}{e:Expr}{es:List Expr}{t t':TE}
theorem PE.imp(h:PE X e t)(k:∀σ H K,t' σ H K->t σ H K):PE X e t':=λpins s σ H Q I q=>h pins s σ H Q I (k σ H Q q)
theorem PT.imp{t t':TT}(h:PT X e t)(k:∀σ H K,t' σ H K->t σ H K):PT X e t':=λpins s σ H Q I q=>h pins s σ H Q I (k σ H Q q)
theorem PW.imp{t t':TT}(h:PW X e t)(k:∀σ H K,t' σ H K->t σ H K):PW X e t':=λwh pins s σ H Q I q=>h wh pins s σ H Q I (k σ H Q q)
theorem PA.imp{t t':TA}(h:PA X es t)(k:∀σ H K,t' σ H K->t σ H K):PA X es t':=λpos pins s σ H Q I q=>h pos pins s σ H Q I (k σ H Q q)
end
section
variable{W W1 W2:Wd}{B H H1 H2:Hp}{m:Md}{el:El}{Q:PV->Prop}{K:VK}
theorem mP.after(k:mP B W H m Q K)(g:Go W H W1 H1):mP B W1 H1 m Q K:=λx v W' H' g' r q=>k x v W' H' (g.trans g') (ResE.base g r) q
theorem ResEs.base{ms:List Md}{vs:List V}{xs:List PV}(g:Go W H W1 H1)(r:ResEs B H1 W2 H2 ms vs xs):ResEs B H W2 H2 ms vs xs:=by
 induction r with
 |nil=>exact .nil
 |cons h _ ih=>exact .cons (ResE.base g h) ih
theorem mP.atom(k:mP B W H (.v .fl) Q K)(w:Wok W H){v:V}{x:PV}(r:Rep (λ_=>False) H v x)(q:Q x):K v H:=k x v W H (Go.refl w) r q
theorem mP.val(k:mP B W H (.v el) Q K)(w:Wok W H){v:V}{x:PV}(r:Rep (el.G W.F B) H v x)(q:Q x):K v H:=k x v W H (Go.refl w) r q
theorem Go.laid (w:Wok W H) {p:Addr} {o:HO} (h:H p=none):Go W H W (bX H p o) where
 lF:=λ_ h=>h
 lS:=λ_ h=>h
 nF:=λ_ h=>.inl h
 nS:=λ_ h=>.inl h
 kp:=λa u e _=>by rw[aL (dH e h)];exact e
 ok:=⟨λa f=>by obtain⟨u,e⟩:=w.fF a f;exact⟨u,by rw[aL (dH e h)];exact e⟩,λa f=>by
  obtain⟨x1,x2,x3,e,z⟩:=w.sS a f
  exact⟨x1,x2,x3,by rw[aL (dH e h)];exact e,z⟩,w.dj,λa f=>by obtain⟨u,e⟩:=w.zZ a f;exact⟨u,by rw[aL (dH e h)];exact e⟩,w.zF,w.zS⟩
 kk:=rfl
 kl:=rfl
 lZ:=λ_ h=>h
 nZ:=λ_ h=>.inl h
theorem Wok.offF(w:Wok W H){p:Addr}(h:H p=none)(f:W.F p):False:=by
 obtain⟨o,e⟩:=w.fF p f
 rw[h] at e;cases e
theorem Wok.offS(w:Wok W H){p:Addr}(h:H p=none)(f:W.S p):False:=by
 obtain⟨_,_,_,e,_⟩:=w.sS p f
 rw[h] at e;cases e
theorem Wok.offZ(w:Wok W H){p:Addr}(h:H p=none)(f:W.Z p):False:=by
 obtain⟨o,e⟩:=w.zZ p f
 rw[h] at e;cases e
theorem mP.newB(k:mP B W H (.o el) Q K)(w:Wok W H){o:HO}{x:PV}{p:Addr}(h:H p=none)(r:Body (el.G W.F B) H o x)(q:Q x):K (.ref p) (bX H p o):=
 k x (.ref p) W _ (Go.laid w h) ⟨p,o,rfl,h,λf=>w.offF h f,λf=>w.offS h f,bM,(Go.laid w h).body w (λ_ g=>El.nS w g) (λ_ g=>g) r,λf=>w.offZ h f⟩ q
theorem mP.newL(k:mP B W H (.o el) Q K)(w:Wok W H){vs:List V}{xs:List PV}{p:Ac}(h:H p=none)(r:Reps (el.G W.F B) H vs xs)(q:Q (.lst xs)):K (.ref p) (bX H p (.lst vs)):=k.newB w h (.lst r) q
theorem mP.newT(k:mP B W H (.v el) Q K)(w:Wok W H){vs:List V}{xs:List PV}{p:Addr}(h:H p=none)(r:Reps (el.G W.F B) H vs xs)(q:Q (.tup xs)):K (.ref p) (bX H p (.tup vs)):=
 k (.tup xs) (.ref p) W _ (Go.laid w h) (.tup bM r.len ((Go.laid w h).reps w (λ_ g=>El.nS w g) (λ_ g=>g) r).at_) q
end
section
variable{X:Cx}{md:List Md}{a b c e:Expr}{es:List Expr}{pa pb pc pe:b5}{m:Md}{el:El}{pos p:Pos}
theorem fB{n:Md}(h:VE X md e m pe)(hm:m.le n=true):VE X md e n pe:=⟨h.h.imp λσ H K=>by
 rintro⟨env,W0,H0,W,Q,R,q,k⟩
 exact⟨env,W0,H0,W,Q,R,q,λx v W' H' g r z=>k x v W' H' g (r.le g.ok hm) z⟩⟩
theorem aM(h:VE X md e (.o el) pe):VE X md e (.z el) pe:=⟨h.h.imp λσ H K=>by
 rintro⟨env,W0,H0,W,Q,R,q,k⟩
 refine⟨env,W0,H0,W,Q,R,q,λx v W' H' g r z=>?_⟩
 obtain⟨W2,g2,r2⟩:=R.go.freeze g r
 exact k x v W2 H' g2 r2 z⟩
theorem sC(h:VE X md e .bw pe):VE X md e (.v .fl) (oJ pe):=⟨h.h.imp λσ H K=>by
 rintro⟨env,W0,H0,W,Q,R,q,k⟩
 exact⟨env,W0,H0,W,λx=>x.flat=true/\Q x,R,q,λx v W' H' g r z=>k x v W' H' g (Rep.flat r z.1) z.2⟩⟩
def pG(a:b5):b5:=λenv Q=>a env λx=>match x with
 |.lst xs=>PV.flats xs=true/\Q (.lst xs)
 |_=>False
theorem yC (h:VE X md e (.o el) pe):VE X md e (.o .fl) (pG pe):=⟨h.h.imp λσ H K=>by
 rintro⟨env,W0,H0,W,Q,R,q,k⟩
 refine⟨env,W0,H0,W,_,R,q,λx v W' H' g r z=>?_⟩
 cases x with
 | lst xs=>
  obtain⟨a,o,rfl,h1,h2,h3,h4,h5,h6⟩:=r
  cases h5 with
  |lst h5=>exact k _ _ W' H' g ⟨a,_,rfl,h1,h2,h3,h4,.lst (flats_reps h5 z.1),h6⟩ z.2
 |_=>exact z.elim⟩
theorem dI{v:V}{x:PV}(h:QE X e (tC v))(hr:∀H,Rep (λ_=>False) H v x):VE X md e (.v .fl) (pC x):=⟨h.h.imp λσ H K=>by
 rintro⟨env,W0,H0,W,Q,R,q,k⟩
 exact k.atom R.ok (hr H) q⟩
theorem aD{i j pos}:VE X md (.Constant (.int i) j pos) (.v .fl) (pC (.int i)):=dI bI λ_=>.int _
theorem e7{b j pos}:VE X md (.Constant (.bool b) j pos) (.v .fl) (pC (.bl b)):=dI a4P λ_=>.bl _
theorem dJ{j pos}:VE X md (.Constant .none j pos) (.v .fl) (pC .non):=dI a1R λ_=>.non
theorem eN{x j pos}:VE X md (.Constant (.str x) j pos) (.v .fl) (pC (.str x)):=dI a1S λ_=>.str _
theorem b7 {i:Nat} (h:QE X e (g8 i)) (hm:(md.getD i .no)=m) (hl:m.own=false):VE X md e m (aA i):=⟨h.h.imp λσ H K=>by
 rintro⟨env,W0,H0,W,Q,R,q,k⟩
 unfold aA at q
 rw[nD] at q
 cases e:env[i]? with
 |none=>rw[e] at q;exact q.elim
 | some o=>
  cases o with
  |none=>rw[e] at q;exact q.elim
  | some x=>
   rw[e] at q
   obtain⟨v,s,r⟩:=R.slot i x e
   rw[hm] at r
   refine⟨v,s,k x v W H (Go.refl R.ok) ?_ q⟩
   cases m<;>first|exact r|cases hl⟩
theorem CW {i:Nat} (h:QE X e (g8 i)) (hm:md.getD i .no= .o el):VE X md e (.p el) (aA i):=⟨h.h.imp λσ H K=>by
 rintro⟨env,W0,H0,W,Q,R,q,k⟩
 unfold aA at q
 rw[nD] at q
 cases e:env[i]? with
 |none=>rw[e] at q;exact q.elim
 | some o=>
  cases o with
  |none=>rw[e] at q;exact q.elim
  | some x=>
   rw[e] at q
   obtain⟨v,s,r⟩:=R.slot i x e
   rw[hm] at r
   refine⟨v,s,k x v W H (Go.refl R.ok) ?_ q⟩
   obtain⟨a,o,rfl,h1⟩:=r
   exact .inr ⟨a,o,rfl,h1.nS,h1.at_,h1.its⟩⟩
structure SimOp(r:R2)(m:Md)(pr:P2):Prop where
 h:∀(B:Hp) (W:Wd) (H:Hp) (x y:V) (px py:PV) (Q:PV->Prop) (K:VK),Wok W H->Rep (λa=>¬W.S a) H x px->Rep (λa=>¬W.S a) H y py->pr px py Q->mP B W H m Q K->r x y H K
theorem PY{K':PySem.W.Frag}{r:R2}{pr:P2}(hs:SimOp r m pr){σ:St}{H:Hp}{K:VK}(h:fY K' md m (bA pr pa pb) σ H K):SA r (fY K' md .bw pa) (fY K' md .bw pb) σ H K:=by
 obtain⟨env,W0,H0,W,Q,R,q,k⟩:=h
 refine⟨env,W0,H0,W,_,R,q,λx v W1 H1 g1 r1 q1=>⟨env,W0,H0,W1,_,R.step g1,q1,λy u W2 H2 g2 r2 q2=>?_⟩⟩
 exact hs.h H0 W2 H2 v u x y Q K g2.ok (g2.bw g1.ok r1) r2 q2 (k.after (g1.trans g2))
theorem bN{op:Operator}{r:R2}{pr:P2}(ho:QOp X (binaryOp op) r)(hs:SimOp r m pr)(ha:VE X md a .bw pa)(hb:VE X md b .bw pb):VE X md (.BinOp a op b pos) m (bA pr pa pb):=
 ⟨(AC ho.h ha.h hb.h).imp λ_ _ _ h=>PY hs h⟩
theorem pX{op:CmpOp}{r:R2}{pr:P2}(ho:QOp X (compareOp op) r)(hs:SimOp r m pr)(ha:VE X md a .bw pa)(hb:VE X md b .bw pb)(hm:behindInMarks op b=false):VE X md (.Compare a [op] [b] pos) m (bA pr pa pb):=
 ⟨(K1 ho.h ha.h hb.h hm).imp λ_ _ _ h=>PY hs h⟩
theorem fQ {op:CmpOp} {r:R2} {pr:P2} (ho:QOp X (compareOp op) r) (hs:SimOp r (.v .fl) pr) (ha:VE X md a .bw pa) (hb:VE X md b .bw pb) (hm:behindInMarks op b=false):VT X md (.Compare a [op] [b] pos) (nG (bA pr pa pb)):=
 ⟨(K8 ho.h ha.h hb.h hm).imp λσ H K=>by
  rintro⟨env,W0,H0,W,Q,R,q,k⟩
  refine PY (K:=λx H'=>∃c,x= .bl c/\K c H') hs ⟨env,W0,H0,W,_,R,q,λx v W' H' g r z=>?_⟩
  cases x with
  |bl c=>exact⟨c,Rep.ofBl r,k c W' H' g z⟩
  |_=>exact z.elim⟩
theorem a40 {K':PySem.W.Frag} {r r':R2} {pr pr':P2} (hs:SimOp r (.v .fl) pr) (hs':SimOp r' (.v .fl) pr') {σ:St} {H:Hp} {K:VK} (h:fY K' md (.v .fl) (pF pr pr' pa pb pc) σ H K):S6 r r' (fY K' md .bw pa) (fY K' md .bw pb) (fY K' md .bw pc) σ H K:=by
 obtain⟨env,W0,H0,W,Q,R,q,k⟩:=h
 refine⟨env,W0,H0,W,_,R,q,λx v W1 H1 g1 r1 q1=>⟨env,W0,H0,W1,_,R.step g1,q1,λy u W2 H2 g2 r2 q2=>?_⟩⟩
 refine hs.h H0 W2 H2 v u x y _ _ g2.ok (g2.bw g1.ok r1) r2 q2 λz w W3 H3 g3 r3 q3=>?_
 cases z with
 | bl c=>
  refine⟨c,Rep.ofBl r3,?_⟩
  cases c with
  | true=>
   rw[if_pos rfl]
   refine⟨env,W0,H0,W3,_,(R.step g1).step (g2.trans g3),q3,λz' w' W4 H4 g4 r4 q4=>?_⟩
   exact hs'.h H0 W4 H4 u w' y z' Q K g4.ok (g4.bw g3.ok (g3.bw g2.ok r2)) r4 q4 (k.after (((g1.trans g2).trans g3).trans g4))
  | false=>
   rw[if_neg a0m]
   exact (k.after ((g1.trans g2).trans g3)).atom g3.ok (.bl false) q3
 |_=>exact q3.elim
theorem FU {op op':CmpOp} {r r':R2} {pr pr':P2} (ho:QOp X (compareOp op) r) (ho':QOp X (compareOp op') r') (hs:SimOp r (.v .fl) pr) (hs':SimOp r' (.v .fl) pr') (ha:VE X md a .bw pa) (hb:VE X md b .bw pb) (hc:VE X md c .bw pc) (hm:lastMarks [op,op'] [b,c]=false:=by with_unfolding_all rfl) :
  VE X md (.Compare a [op,op'] [b,c] pos) (.v .fl) (pF pr pr' pa pb pc):=⟨(QP ho.h ho'.h ha.h hb.h hc.h hm).imp λ_ _ _ h=>a40 hs hs' h⟩
theorem a5N {op:UnaryOp} {r:V->Hp->VK->Prop} {pr:PV->(PV->Prop)->Prop} (ho:QUn X (unaryOp op) r) (hs:∀(B:Hp) (W:Wd) (H:Hp) (x:V) (px:PV) (Q:PV->Prop) (K:VK),Wok W H->Rep (λa=>¬W.S a) H x px->pr px Q->mP B W H m Q K->r x H K) (ha:VE X md a .bw pa) :
  VE X md (.UnaryOp op a pos) m (C6 pr pa):=⟨(Y4 ho.h ha.h).imp λσ H K=>by
 rintro⟨env,W0,H0,W,Q,R,q,k⟩
 exact⟨env,W0,H0,W,_,R,q,λx v W1 H1 g1 r1 q1=>hs H0 W1 H1 v x Q K g1.ok r1 q1 (k.after g1)⟩⟩
theorem iR{op}(h:VE X md a m pe):VE X md (.BoolOp op [a] pos) m pe:=⟨a19 h.h⟩
theorem iQ {rest:List Expr} (ha:VE X md a .bw pa) (hb:VE X md (.BoolOp .And (b::rest) pos) (.v .fl) pb):VE X md (.BoolOp .And (a::b::rest) pos) (.v .fl) (iV pa pb):=⟨(a15 ha.h hb.h).imp λσ H K=>by
 rintro⟨env,W0,H0,W,Q,R,q,k⟩
 refine⟨env,W0,H0,W,_,R,q,λx v W1 H1 g1 r1 q1=>?_⟩
 cases x with
 | bl c=>
  refine⟨c,Rep.ofBl r1,?_⟩
  cases c with
  |true=>rw[if_pos rfl];exact⟨env,W0,H0,W1,Q,R.step g1,q1,k.after g1⟩
  |false=>rw[if_neg a0m];exact (k.after g1).atom g1.ok (.bl false) q1
 |_=>exact q1.elim⟩
theorem a2Q(ha:VE X md a .bw pa):VE X md (.UnaryOp .Not a pos) (.v .fl) (EV pa):=⟨(a18 ha.h).imp λσ H K=>by
 rintro⟨env,W0,H0,W,Q,R,q,k⟩
 refine⟨env,W0,H0,W,_,R,q,λx v W1 H1 g1 r1 q1=>?_⟩
 cases x with
 |bl c=>exact⟨c,Rep.ofBl r1,(k.after g1).atom g1.ok (.bl _) q1⟩
 |_=>exact q1.elim⟩
theorem fR(h:VE X md e .bw pe)(he:∀whole,isTrue e X.env whole=(do let v <- whole;standAt e.pos;holding [v] (truthy v)):=by intro _;rfl):VT X md e (nG pe):=⟨(a1L h.h he).imp λσ H K=>by
 rintro⟨env,W0,H0,W,Q,R,q,k⟩
 refine⟨env,W0,H0,W,_,R,q,λx v W1 H1 g1 r1 q1=>?_⟩
 cases x with
 |bl c=>exact⟨c,Rep.ofBl r1,k c W1 H1 g1 q1⟩
 |_=>exact q1.elim⟩
theorem kX{ptt:gJ}(ha:VT X md a ptt):VT X md (.UnaryOp .Not a pos) (qX ptt):=⟨(a1K ha.h).imp λσ H K=>by
 rintro⟨env,W0,H0,W,Q,R,q,k⟩
 exact⟨env,W0,H0,W,_,R,q,λc W1 H1 g1 q1=>k _ W1 H1 g1 q1⟩⟩
theorem AT{ptt:gJ}(h:VW X md e ptt):VT X md e ptt:=⟨h.h.pt⟩
theorem KR{ptt:gJ}(ha:VT X md a ptt):VW X md (.BoolOp .And [a] pos) ptt:=⟨WB ha.h⟩
theorem CY{ptt:gJ}(ha:VT X md a ptt):VW X md (.BoolOp .Or [a] pos) ptt:=⟨a1N ha.h⟩
theorem SQ{rest:List Expr}{pt pu:gJ}(ha:VT X md a pt)(hb:VW X md (.BoolOp .And (b::rest) pos) pu):VW X md (.BoolOp .And (a::b::rest) pos) (MH pt pu):=⟨(a1M ha.h hb.h).imp λσ H K=>by
 rintro⟨env,W0,H0,W,Q,R,q,k⟩
 refine⟨env,W0,H0,W,_,R,q,λc W1 H1 g1 q1=>?_⟩
 cases c with
 |true=>rw[if_pos rfl];exact⟨env,W0,H0,W1,Q,R.step g1,q1,λb W2 H2 g2 q2=>k b W2 H2 (g1.trans g2) q2⟩
 |false=>rw[if_neg a0m];exact k _ W1 H1 g1 q1⟩
theorem FW{rest:List Expr}{pt pu:gJ}(ha:VT X md a pt)(hb:VW X md (.BoolOp .Or (b::rest) pos) pu):VW X md (.BoolOp .Or (a::b::rest) pos) (VL pt pu):=⟨(a4M ha.h hb.h).imp λσ H K=>by
 rintro⟨env,W0,H0,W,Q,R,q,k⟩
 refine⟨env,W0,H0,W,_,R,q,λc W1 H1 g1 q1=>?_⟩
 cases c with
 |true=>rw[if_pos rfl];exact k _ W1 H1 g1 q1
 |false=>rw[if_neg a0m];exact⟨env,W0,H0,W1,Q,R.step g1,q1,λb W2 H2 g2 q2=>k b W2 H2 (g1.trans g2) q2⟩⟩
theorem a9:VA X md [] [] aE:=⟨lX.imp λσ H K=>by
 rintro⟨env,W0,H0,W,Q,R,q,k⟩
 exact k [] [] W H (Go.refl R.ok) .nil q⟩
theorem a7{ms:List Md}{pr:qB}(ha:VE X md e m pe)(hr:VA X md es ms pr)(hs:starEach (e::es) X.env=(false,eval e X.env)::starEach es X.env:=by rfl):VA X md (e::es) (m::ms) (a8 pe pr):=⟨(iB ha.h hr.h hs).imp λσ H K=>by
 rintro⟨env,W0,H0,W,Q,R,q,k⟩
 refine⟨env,W0,H0,W,_,R,q,λx v W1 H1 g1 r1 q1=>⟨env,W0,H0,W1,_,R.step g1,q1,λxs vs W2 H2 g2 r2 q2=>?_⟩⟩
 exact k (x::xs) (v::vs) W2 H2 (g1.trans g2) (.cons (r1.go g1.ok g2) (ResEs.base g1 r2)) q2⟩
theorem ResEs.reps{G:Addr->Prop}{B H H':Hp}{W':Wd}{ms:List Md}{vs:List V}{xs:List PV}(r:ResEs B H W' H' ms vs xs)(h:∀(m:Md) (v:V) (x:PV),m∈ms->ResE B H W' H' m v x->Rep G H' v x):Reps G H' vs xs:=by
 induction r with
 |nil=>exact .nil
 |cons h1 _ ih=>exact .cons (h _ _ _ a0n h1) (ih λm v x hm=>h m v x (a0j _ hm))
theorem ResEs.vs{B H H':Hp}{W':Wd}{ms:List Md}{vs:List V}{xs:List PV}(w:Wok W' H')(r:ResEs B H W' H' ms vs xs)(hm:ms.all (λm=>m.le (.v el))=true):Reps (el.G W'.F B) H' vs xs:=r.reps λm v x h q=>ResE.le q w (n:=.v el) (a1a.mp hm m h)
theorem ResEs.len{B H H':Hp}{W':Wd}{ms:List Md}{vs:List V}{xs:List PV}(r:ResEs B H W' H' ms vs xs):vs.length=xs.length/\ms.length=xs.length:=by
 induction r with
 |nil=>exact⟨rfl,rfl⟩
 |cons _ _ ih=>simp[ih]
def bB(a:qB):b5:=λenv Q=>a env λxs=>Q (.lst xs)
def bC(a:qB):b5:=λenv Q=>a env λxs=>Q (.tup xs)
theorem FN{ms:List Md}{vs:List V}{xs:List PV}{B H H':Hp}{W':Wd}(r:ResEs B H W' H' ms vs xs)(hl:ms.length<=1000):vs.length<=sizeLine:=by
 have:=r.len
 exact a1b (by omega:vs.length<=1000) (by decide)
theorem aH{ms:List Md}{pr:qB}(el:El)(h:VA X md es ms pr)(hm:ms.all (λm=>m.le (.v el))=true)(hl:ms.length<=1000:=by decide):VE X md (.List es pos) (.o el) (bB pr):=⟨(QR h.h).imp λσ H K=>by
 rintro⟨env,W0,H0,W,Q,R,q,k⟩
 exact⟨env,W0,H0,W,_,R,q,λxs vs W1 H1 g1 r1 q1=>⟨FN r1 hl,λp hp=>(k.after g1).newL g1.ok hp (r1.vs g1.ok hm) q1⟩⟩⟩
theorem aJ{ms:List Md}{pr:qB}{x1}(el:El)(h:VA X md es ms pr)(hm:ms.all (λm=>m.le (.v el))=true)(hl:ms.length<=1000:=by decide):VE X md (.Tuple es x1 pos) (.v el) (bC pr):=⟨(a1D h.h).imp λσ H K=>by
 rintro⟨env,W0,H0,W,Q,R,q,k⟩
 exact⟨env,W0,H0,W,_,R,q,λxs vs W1 H1 g1 r1 q1=>⟨FN r1 hl,λp hp=>(k.after g1).newT g1.ok hp (r1.vs g1.ok hm) q1⟩⟩⟩
end
def pI(C:Int->Int->Prop)(f:Int->Int->PV):P2:=λx y Q=>match x,y with
 |.int i,.int j=>C i j/\Q (f i j)
 |_,_=>False
def C4(f:Int->Int->PV):P2:=λx y Q=>match x,y with
 |.int i,.int j=>Q (f i j)
 |_,_=>False
def pU(f:Int->PV):PV->(PV->Prop)->Prop:=λx Q=>match x with
 |.int i=>Q (f i)
 |_=>False
theorem RW {C:Int->Int->Prop} {f:Int->Int->Int}:SimOp (rI C λi j=>.int (f i j)) (.v .fl) (pI C λi j=>.int (f i j)):=⟨λB W H x y px py Q K w rx ry q k=>by
 cases px with
 | int i=>cases py with
  |int j=>exact⟨i,j,rx.ofInt,ry.ofInt,q.1,k.atom w (.int _) q.2⟩
  |_=>exact q.elim
 |_=>exact q.elim⟩
theorem RX {f:Int->Int->Int}:SimOp (yY λi j=>.int (f i j)) (.v .fl) (C4 λi j=>.int (f i j)):=⟨λB W H x y px py Q K w rx ry q k=>by
 cases px with
 | int i=>cases py with
  |int j=>exact⟨i,j,rx.ofInt,ry.ofInt,k.atom w (.int _) q⟩
  |_=>exact q.elim
 |_=>exact q.elim⟩
theorem IF {f:Int->Int->Bool}:SimOp (yY λi j=>.bl (f i j)) (.v .fl) (C4 λi j=>.bl (f i j)):=⟨λB W H x y px py Q K w rx ry q k=>by
 cases px with
 | int i=>cases py with
  |int j=>exact⟨i,j,rx.ofInt,ry.ofInt,k.atom w (.bl _) q⟩
  |_=>exact q.elim
 |_=>exact q.elim⟩
def A1:P2:=λx y Q=>match x,y with
 |.str i,.str j=>i.length+j.length<=sizeLine/\Q (.str (i++j))
 |_,_=>False
theorem FK:SimOp RG (.v .fl) A1:=⟨λB W H x y px py Q K w rx ry q k=>by
 cases px with
 | str i=>cases py with
  |str j=>exact⟨i,j,rx.ofStr,ry.ofStr,q.1,k.atom w (.str _) q.2⟩
  |_=>exact q.elim
 |_=>exact q.elim⟩
def a7M:P2:=λx y Q=>x.dep<=60/\y.dep<1000/\Q (.bl (!x.eqB y))
theorem a29:SimOp a21 (.v .fl) a7M:=⟨λB W H x y px py Q K w rx ry q k=>⟨_,_,px,py,rx,ry,q.1,q.2.1,k.atom w (.bl _) q.2.2⟩⟩
def a7L:P2:=λx y Q=>match y with
 |.lst ys=>x.dep<1000/\PV.deps ys<=60/\Q (.bl (ys.any λz=>z.eqB x))
 |.tup ys=>x.dep<1000/\PV.deps ys<=60/\Q (.bl (ys.any λz=>z.eqB x))
 |_=>False
theorem a28:SimOp (a1W false) (.v .fl) a7L:=⟨λB W H x y px py Q K w rx ry q k=>by
 cases py with
 |lst ys=>exact⟨_,_,px,ys,rx,.inl ry,q.1,q.2.1,k.atom w (.bl _) q.2.2⟩
 |tup ys=>exact⟨_,_,px,ys,rx,.inr ry,q.1,q.2.1,k.atom w (.bl _) q.2.2⟩
 |_=>exact q.elim⟩
def PV.isNon:PV->Bool
 |.non=>true
 |_=>false
def QF:P2:=λx y Q=>match y with
 |.non=>Q (.bl x.isNon)
 |_=>False
def wQ:P2:=λx y Q=>match y with
 |.non=>Q (.bl (!x.isNon))
 |_=>False
theorem JN{G:Addr->Prop}{H:Hp}{x:V}{px:PV}(r:Rep G H x px):decide (x= .non)=px.isNon:=by
 cases r<;>first|rfl|exact a1y (by intro z;cases z)
theorem WR:SimOp a1X (.v .fl) QF:=⟨λB W H x y px py Q K w rx ry q k=>by
 cases py with
 |non=>exact⟨ry.ofNon,by rw[JN rx];exact k.atom w (.bl _) q⟩
 |_=>exact q.elim⟩
theorem xY:SimOp RM (.v .fl) wQ:=⟨λB W H x y px py Q K w rx ry q k=>by
 cases py with
 |non=>exact⟨ry.ofNon,by rw[JN rx];exact k.atom w (.bl _) q⟩
 |_=>exact q.elim⟩
def iA:P2:=λx y Q=>match x,y with
 | .lst xs,.int i=>(match kZ xs i with
  |some z=>Q z
  |none=>False)
 | .tup xs,.int i=>(match kZ xs i with
  |some z=>Q z
  |none=>False)
 | .str s,.int i=>(match kZ s.cps.toList i with
  |some c=>s.length<=sizeLine/\Q (.str ⟨#[c]⟩)
  |none=>False)
 |_,_=>False
theorem fA{xs:List PV}{i:Int}{z:PV}{Q:PV->Prop}(h:kZ xs i=some z)(q:Q z):iA (.lst xs) (.int i) Q:=by unfold iA;simp only[h];exact q
theorem iW{xs:List PV}{i:Int}{z:PV}{Q:PV->Prop}(h:kZ xs i=some z)(q:Q z):iA (.tup xs) (.int i) Q:=by unfold iA;simp only[h];exact q
theorem Y1{s:Str}{i:Int}{c:Nat}{Q:PV->Prop}(h:kZ s.cps.toList i=some c)(hl:s.length<=sizeLine)(q:Q (.str ⟨#[c]⟩)):iA (.str s) (.int i) Q:=by unfold iA;simp only[h];exact⟨hl,q⟩
theorem DK{G:Addr->Prop}{H:Hp}{vs:List V}{xs:List PV}(r:Reps G H vs xs){i:Int}{z:PV}(e:kZ xs i=some z):∃v,kZ vs i=some v/\Rep G H v z:=by
 unfold kZ at e ⊢
 rw[r.len]
 cases h:yD xs.length i with
 |none=>rw[h] at e;cases e
 |some j=>rw[h] at e;exact r.get e
theorem RepP.ofList {G S:Addr->Prop} {H:Hp} {v:V} {xs:List PV} (r:RepP G S H v (.lst xs)):∃a vs,v= .ref a/\H a=some (.lst vs)/\Reps G H vs xs:=by
 rcases r with r|⟨a,o,rfl,_,e,b⟩
 ·obtain⟨a,vs,e1,_,e2,r⟩:=r.ofList;exact⟨a,vs,e1,e2,r⟩
 ·cases b with
  |lst h=>exact⟨a,_,rfl,e,h⟩
theorem RepP.ofTup{G S:Addr->Prop}{H:Hp}{v:V}{xs:List PV}(r:RepP G S H v (.tup xs)):∃a vs,v= .ref a/\H a=some (.tup vs)/\Reps G H vs xs:=by
 rcases r with r|⟨a,o,rfl,_,e,b⟩
 ·exact r.ofTup
 ·cases b
theorem RepP.ofDic {G S:Addr->Prop} {H:Hp} {v:V} {ks:List d9} {xs:List PV} (r:RepP G S H v (.dic ks xs)):∃a vs,v= .ref a/\H a=some (.dK (ks.zip vs))/\ks.length=vs.length/\Reps G H vs xs:=by
 rcases r with r|⟨a,o,rfl,_,e,b⟩
 ·obtain⟨a,vs,e1,_,e2,e3,r⟩:=r.ofDic;exact⟨a,vs,e1,e2,e3,r⟩
 ·cases b with
  |dic l h=>exact⟨a,_,rfl,e,l,h⟩
theorem RepP.ofStr{G S:Addr->Prop}{H:Hp}{v:V}{s:Str}(r:RepP G S H v (.str s)):v= .str s:=by
 rcases r with r|⟨a,o,rfl,_,e,b⟩
 ·exact r.ofStr
 ·cases b
section
variable{X:Cx}{md:List Md}{a b c e:Expr}{es:List Expr}{pa pb pc pe:b5}{m:Md}{el:El}{pos p:Pos}
theorem aR (ha:VE X md a (.p el) pa) (hb:VE X md b .bw pb) (hp:∀o i,subscripted b false o i=operate [o,i] (getItem o i)):VE X md (.Subscript a b pos) (.v el) (bA iA pa pb):=
 ⟨(Y3 ZZ ha.h hb.h hp).imp λσ H K=>by
  rintro⟨env,W0,H0,W,Q,R,q,k⟩
  refine⟨env,W0,H0,W,_,R,q,λx v W1 H1 g1 r1 q1=>⟨env,W0,H0,W1,_,R.step g1,q1,λy u W2 H2 g2 r2 q2=>?_⟩⟩
  have r1':RepP (el.G W2.F H0) W2.S H2 v x:=ResE.go (m:=.p el) r1 g1.ok g2
  have k2:=k.after (g1.trans g2)
  unfold iA at q2
  cases y with
  | int i=>
   have hy:=Rep.ofInt r2
   subst hy
   cases x with
   | lst xs=>
    dsimp only at q2
    obtain⟨a,vs,rfl,e,r⟩:=r1'.ofList
    cases h:kZ xs i with
    |none=>rw[h] at q2;exact q2.elim
    | some z=>
     rw[h] at q2
     obtain⟨w,e1,e2⟩:=DK r h
     exact .inl ⟨a,vs,i,w,rfl,rfl,dO.of e,e1,k2.val g2.ok e2 q2⟩
   | tup xs=>
    dsimp only at q2
    obtain⟨a,vs,rfl,e,r⟩:=r1'.ofTup
    cases h:kZ xs i with
    |none=>rw[h] at q2;exact q2.elim
    | some z=>
     rw[h] at q2
     obtain⟨w,e1,e2⟩:=DK r h
     exact .inr (.inl ⟨a,vs,i,w,rfl,rfl,eQ.of e,e1,k2.val g2.ok e2 q2⟩)
   | str s=>
    dsimp only at q2
    cases h:kZ s.cps.toList i with
    |none=>rw[h] at q2;exact q2.elim
    | some c=>
     rw[h] at q2
     exact .inr (.inr ⟨s,i,c,r1'.ofStr,rfl,q2.1,h,k2.val g2.ok (.str _) q2.2⟩)
   |_=>exact q2.elim
  |_=>cases x<;>exact q2.elim⟩
abbrev NJ:=b9->(Option Int->Prop)->Prop
def a41(K':Aa)(md:List Md)(p:NJ):TO:=λσ H K=>∃(env:b9) (W0:Wd) (H0:Hp) (W:Wd) (Q:Option Int->Prop),Rl K' md W0 H0 W σ env H/\p env Q/\∀(o:Option Int) (W':Wd) (H':Hp),Go W H W' H'->Q o->K o H'
structure VO(X:Cx)(md:List Md)(e:Option Expr)(p:NJ):Prop where
 h:PO X e (a41 X.K md p)
def dZ:NJ:=λ_ Q=>Q none
def gN(a:b5):NJ:=λenv Q=>a env λx=>match x with
 |.int i=>Q (some i)
 |_=>False
theorem PO.imp{eo:Option Expr}{t t':TO}(h:PO X eo t)(k:∀σ H K,t' σ H K->t σ H K):PO X eo t':=λpins s σ H Q I q=>h pins s σ H Q I (k σ H Q q)
theorem iF:VO X md none dZ:=⟨VX.imp λσ H K=>by
 rintro⟨env,W0,H0,W,Q,R,q,k⟩
 exact k none W H (Go.refl R.ok) q⟩
theorem e8(h:VE X md e .bw pe):VO X md (some e) (gN pe):=⟨(VY h.h).imp λσ H K=>by
 rintro⟨env,W0,H0,W,Q,R,q,k⟩
 refine⟨env,W0,H0,W,_,R,q,λx v W1 H1 g1 r1 q1=>?_⟩
 cases x with
 |int i=>exact⟨i,Rep.ofInt r1,k _ W1 H1 g1 q1⟩
 |_=>exact q1.elim⟩
def mQ{α:Type}(xs:List α)(lo hi:Option Int):List α:=(xs.drop (HT.sIx xs.length 0 lo)).take (HT.sIx xs.length xs.length hi-HT.sIx xs.length 0 lo)
theorem Reps.cut{G:Addr->Prop}{H:Hp}{vs:List V}{xs:List PV}(r:Reps G H vs xs)(lo hi:Option Int):Reps G H (DT vs lo hi) (mQ xs lo hi):=by
 unfold DT mQ
 rw[r.len]
 exact (r.drop _).take _
def qZ(x:PV)(lo hi:Option Int)(Q:PV->Prop):Prop:=match x with
 |.lst xs=>Q (.lst (mQ xs lo hi))
 |_=>False
def MK(x:PV)(lo hi:Option Int)(Q:PV->Prop):Prop:=match x with
 |.tup xs=>¬(HT.sIx xs.length 0 lo=0/\HT.sIx xs.length xs.length hi=xs.length)/\Q (.tup (mQ xs lo hi))
 |_=>False
def dW(r:PV->Option Int->Option Int->(PV->Prop)->Prop)(a:b5)(lo hi:NJ):b5:=λenv Q=>a env λx=>lo env λl=>hi env λh=>r x l h Q
theorem xZ {m1:Md} {r:V->Option Int->Option Int->Hp->VK->Prop} {pr:PV->Option Int->Option Int->(PV->Prop)->Prop} {lo hi:Option Expr} {pl ph:NJ} {p2:Pos} (hr:QL X r) (he:VE X md e m1 pe) (hl:VO X md lo pl) (hu:VO X md hi ph)
  (hs:∀(B H0:Hp) (W:Wd) (H:Hp) (v:V) (x:PV) (l h:Option Int) (Q:PV->Prop) (K:VK),Wok W H->ResE B H0 W H m1 v x->pr x l h Q->mP B W H m Q K->r v l h H K):VE X md (.Subscript e (.Slice lo hi none p2) pos) m (dW pr pe pl ph):=
 ⟨(QU hr.h he.h hl.h hu.h).imp λσ H K=>by
  rintro⟨env,W0,H0,W,Q,R,q,k⟩
  refine⟨env,W0,H0,W,_,R,q,λx v W1 H1 g1 r1 q1=>⟨env,W0,H0,W1,_,R.step g1,q1,λl W2 H2 g2 q2=>⟨env,W0,H0,W2,_,(R.step g1).step g2,q2,λh W3 H3 g3 q3=>?_⟩⟩⟩
  exact hs H0 H W3 H3 v x l h Q K g3.ok ((r1.go g1.ok g2).go g2.ok g3) q3 (k.after ((g1.trans g2).trans g3))⟩
theorem kU {lo hi:Option Expr} {pl ph:NJ} {p2:Pos} (he:VE X md e (.p el) pe) (hl:VO X md lo pl) (hu:VO X md hi ph):VE X md (.Subscript e (.Slice lo hi none p2) pos) (.o el) (dW qZ pe pl ph):=
 xZ WE he hl hu λB H0 W H v x l h Q K w r q k=>by
  cases x with
  | lst xs=>
   obtain⟨a,vs,rfl,e,rs⟩:=RepP.ofList r
   exact⟨a,vs,rfl,dO.of e,λp hp=>k.newL w hp (rs.cut l h) q⟩
  |_=>exact q.elim
theorem SJ {lo hi:Option Expr} {pl ph:NJ} {p2:Pos} (he:VE X md e (.p el) pe) (hl:VO X md lo pl) (hu:VO X md hi ph):VE X md (.Subscript e (.Slice lo hi none p2) pos) (.v el) (dW MK pe pl ph):=
 xZ a1T he hl hu λB H0 W H v x l h Q K w r q k=>by
  cases x with
  | tup xs=>
   obtain⟨a,vs,rfl,e,rs⟩:=RepP.ofTup r
   exact⟨a,vs,rfl,eQ.of e,by rw[rs.len];exact q.1,λp hp=>k.newT w hp (rs.cut l h) q.2⟩
  |_=>exact q.elim
def kK:P2:=λx y Q=>match x,y with
 |.lst xs,.lst ys=>xs.length+ys.length<=sizeLine/\Q (.lst (xs++ys))
 |_,_=>False
theorem eM (ha:VE X md a (.p el) pa) (hb:VE X md b (.p el) pb):VE X md (.BinOp a .Add b pos) (.o el) (bA kK pa pb):=
 ⟨(AC a0Q ha.h hb.h).imp λσ H K=>by
  rintro⟨env,W0,H0,W,Q,R,q,k⟩
  refine⟨env,W0,H0,W,_,R,q,λx v W1 H1 g1 r1 q1=>⟨env,W0,H0,W1,_,R.step g1,q1,λy u W2 H2 g2 r2 q2=>?_⟩⟩
  have k2:=k.after (g1.trans g2)
  have r1':RepP (el.G W2.F H0) W2.S H2 v x:=ResE.go (m:=.p el) r1 g1.ok g2
  cases x with
  | lst xs=>cases y with
   | lst ys=>
    obtain⟨a,vs,rfl,e,rs⟩:=r1'.ofList
    obtain⟨b,us,rfl,e',rs'⟩:=RepP.ofList r2
    exact⟨a,b,vs,us,rfl,rfl,e,e',by rw[rs.len,rs'.len];exact q2.1,λp hp=>k2.newL g2.ok hp (rs.append rs') q2.2⟩
   |_=>exact q2.elim
  |_=>exact q2.elim⟩
def HX:P2:=λx y Q=>match x,y with
 |.lst xs,.int k=>-(2^63)<=k/\k<2^63/\xs.length*k.toNat<=sizeLine/\Q (.lst (List.replicate k.toNat xs).flatten)
 |_,_=>False
theorem IM (ha:VE X md a (.p el) pa) (hb:VE X md b .bw pb):VE X md (.BinOp a .Mult b pos) (.o el) (bA HX pa pb):=
 ⟨(AC a0Y ha.h hb.h).imp λσ H K=>by
  rintro⟨env,W0,H0,W,Q,R,q,k⟩
  refine⟨env,W0,H0,W,_,R,q,λx v W1 H1 g1 r1 q1=>⟨env,W0,H0,W1,_,R.step g1,q1,λy u W2 H2 g2 r2 q2=>?_⟩⟩
  have k2:=k.after (g1.trans g2)
  have r1':RepP (el.G W2.F H0) W2.S H2 v x:=ResE.go (m:=.p el) r1 g1.ok g2
  cases x with
  | lst xs=>cases y with
   | int n=>
    obtain⟨a,vs,rfl,e,rs⟩:=r1'.ofList
    have hu:=Rep.ofInt r2
    subst hu
    exact⟨a,n,vs,rfl,rfl,e,q2.1,q2.2.1,by rw[rs.len];exact q2.2.2.1,λp hp=>k2.newL g2.ok hp (rs.rep _) q2.2.2.2⟩
   |_=>exact q2.elim
  |_=>exact q2.elim⟩
structure SimC(r:List V->Hp->VK->Prop)(ms:List Md)(m:Md)(pr:PN):Prop where
 h:∀(B H0:Hp) (W:Wd) (H:Hp) (vs:List V) (xs:List PV) (Q:PV->Prop) (K:VK),Wok W H->ResEs B H0 W H ms vs xs->pr xs Q->mP B W H m Q K->r vs H K
theorem JW{K':PySem.W.Frag}{r:List V->Hp->VK->Prop}{ms:List Md}{pr:PN}{pt:qB}(hs:SimC r ms m pr){σ:St}{H:Hp}{K:VK}(h:fY K' md m (bT pr pt) σ H K):Y9 r (XX K' md ms pt) σ H K:=by
 obtain⟨env,W0,H0,W,Q,R,q,k⟩:=h
 exact⟨env,W0,H0,W,_,R,q,λxs vs W1 H1 g1 r1 q1=>hs.h H0 H W1 H1 vs xs Q K g1.ok r1 q1 (k.after g1)⟩
theorem aU {id:String} {x:Str} {r:List V->Hp->VK->Prop} {ms:List Md} {pr:PN} {pt:qB} (hc:QC X (.builtin id) r) (hs:SimC r ms m pr) (hg:X.env.scope.names.lookup x=some .globalImplicit) (hm:X.mg x=none) (hv:bootBuiltins x=some (.builtin id)) (ha:VA X md (e::es) ms pt) (hn:x≠ "__name__") (hdb:(x==("__debug__" : Str))=false)
  (he:starEach (e::es) X.env=(false,eval e X.env)::starEach es X.env:=by rfl) (hpl:(backTo pos (starEach es X.env)).any (·.1)=false:=by rfl):VE X md (.Call (.Name x p) (e::es) [] pos) m (bT pr pt):=⟨(nI hc.h hg hm hv ha.h hn hdb he hpl).imp λ_ _ _ h=>JW hs h⟩
theorem tQ {T:String} {x:Str} {r:List V->Hp->VK->Prop} {ms:List Md} {pr:PN} {pt:qB} (hc:QC X (.type T) r) (hs:SimC r ms m pr) (hg:X.env.scope.names.lookup x=some .globalImplicit) (hm:X.mg x=none) (hv:bootBuiltins x=some (.type T)) (ha:VA X md (e::es) ms pt) (hn:x≠ "__name__") (hdb:(x==("__debug__" : Str))=false)
  (he:starEach (e::es) X.env=(false,eval e X.env)::starEach es X.env:=by rfl) (hpl:(backTo pos (starEach es X.env)).any (·.1)=false:=by rfl):VE X md (.Call (.Name x p) (e::es) [] pos) m (bT pr pt):=⟨(jB hc.h hg hm hv ha.h hn hdb he hpl).imp λ_ _ _ h=>JW hs h⟩
theorem ResEs.one{B H H':Hp}{W:Wd}{m:Md}{vs:List V}{xs:List PV}(r:ResEs B H W H' [m] vs xs):∃v x,vs=[v]/\xs=[x]/\ResE B H W H' m v x:=by
 cases r with
 |cons h t=>cases t;exact⟨_,_,rfl,rfl,h⟩
theorem ResEs.two{B H H':Hp}{W:Wd}{m n:Md}{vs:List V}{xs:List PV}(r:ResEs B H W H' [m,n] vs xs):∃v x u y,vs=[v,u]/\xs=[x,y]/\ResE B H W H' m v x/\ResE B H W H' n u y:=by
 cases r with
 |cons h t=>obtain⟨u,y,rfl,rfl,h2⟩:=t.one;exact⟨_,_,_,_,rfl,rfl,h,h2⟩
def kM:PN:=λxs Q=>match xs with
 |[.lst ys]=>Q (.int ys.length)
 |[.tup ys]=>Q (.int ys.length)
 |[.str s]=>s.length<=sizeLine/\Q (.int s.length)
 |_=>False
def Y7(K':Aa):List V->Hp->VK->Prop:=λxs H Q=>∃x n,xs=[x]/\a34 K' x H n/\Q (.int n) H
theorem cR:QC X (.builtin "len") (Y7 X.K):=⟨O2⟩
theorem cZ {K':PySem.W.Frag}:SimC (Y7 K') [.bw] (.v .fl) kM:=⟨λB H0 W H vs xs Q K w r q k=>by
 obtain⟨v,x,rfl,rfl,r1⟩:=r.one
 clear r
 have r:Rep (λa=>¬W.S a) H v x:=r1
 unfold kM at q
 cases x with
 | lst ys=>
  obtain⟨a,vs,rfl,_,e,rs⟩:=r.ofList
  exact⟨.ref a,vs.length,rfl,.inl ⟨vs,dO.of e,rfl⟩,by rw[rs.len];exact k.atom w (.int _) q⟩
 | tup ys=>
  obtain⟨a,vs,rfl,e,rs⟩:=r.ofTup
  exact⟨.ref a,vs.length,rfl,.inr ⟨vs,eQ.of e,rfl⟩,by rw[rs.len];exact k.atom w (.int _) q⟩
 |str s=>exact⟨v,s.length,rfl,by rw[r.ofStr];exact⟨q.1,rfl⟩,k.atom w (.int _) q.2⟩
 |_=>exact q.elim⟩
def qV:PN:=λxs Q=>match xs with
 |[.scr ns]=>Q (.int ns.length)
 |_=>False
theorem MW {pt:qB} (hg:X.env.scope.names.lookup ("len" : Str)=some .globalImplicit) (hm:X.mg "len"=none) (hv:bootBuiltins "len"=some (.builtin "len")) (ha:VA X md [e] [.scr] pt)
  (he:starEach [e] X.env=(false,eval e X.env)::starEach [] X.env:=by rfl) (hpl:(backTo pos (starEach [] X.env)).any (·.1)=false:=by rfl):VE X md (.Call (.Name "len" p) [e] [] pos) (.v .fl) (bT qV pt):=⟨(nI (cR).h hg hm hv ha.h (by decide) (by decide) he hpl).imp λσ H K h=>by
 obtain⟨env,W0,H0,W,Q,R,q,k⟩:=h
 refine⟨env,W0,H0,W,_,R,q,λxs vs W1 H1 g1 r1 q1=>?_⟩
 obtain⟨v,x,rfl,rfl,r⟩:=r1.one
 obtain⟨a,ns,rfl,rfl,sc⟩:=r
 refine⟨.ref a,ns.length,rfl,.inl ⟨ns.map V.int,by have:=sc.sq;rw[(R.step g1).kk] at this;exact this,by simp⟩,(k.after g1).atom g1.ok (.int _) q1⟩⟩
def A3:PN:=λxs Q=>match xs with
 |[.int i,.int j]=>Q (.int (max i j))
 |_=>False
def ET:PN:=λxs Q=>match xs with
 |[.int i,.int j]=>Q (.int (min i j))
 |_=>False
theorem FL:SimC FC [.bw,.bw] (.v .fl) A3:=⟨λB H0 W H vs xs Q K w r q k=>by
 obtain⟨v,x,u,y,rfl,rfl,r1,r2⟩:=r.two
 cases x with
 | int i=>cases y with
  | int j=>
   refine⟨i,j,by rw[Rep.ofInt r1,Rep.ofInt r2],?_⟩
   have:(if j>i then j else i)=max i j:=by rw[Int.max_def];split<;>split<;>omega
   rw[this];exact k.atom w (.int _) q
  |_=>exact q.elim
 |_=>exact q.elim⟩
theorem RY:SimC RK [.bw,.bw] (.v .fl) ET:=⟨λB H0 W H vs xs Q K w r q k=>by
 obtain⟨v,x,u,y,rfl,rfl,r1,r2⟩:=r.two
 cases x with
 | int i=>cases y with
  | int j=>
   refine⟨i,j,by rw[Rep.ofInt r1,Rep.ofInt r2],?_⟩
   have:(if j<i then j else i)=min i j:=by rw[Int.min_def];split<;>split<;>omega
   rw[this];exact k.atom w (.int _) q
  |_=>exact q.elim
 |_=>exact q.elim⟩
def qW:PN:=λxs Q=>match xs with
 |[.lst ys]=>Q (.lst ys)
 |[.tup ys]=>Q (.lst ys)
 |_=>False
theorem IG {K':PySem.W.Frag}:SimC (CI K') [.p el] (.o el) qW:=⟨λB H0 W H vs xs Q K w r q k=>by
 obtain⟨v,x,rfl,rfl,r1⟩:=r.one
 clear r
 have r:RepP (el.G W.F B) W.S H v x:=r1
 cases x with
 | lst ys=>
  obtain⟨a,vs,rfl,e,rs⟩:=r.ofList
  exact⟨a,vs,rfl,.inl (dO.of e),λl hl=>k.newL w hl rs q⟩
 | tup ys=>
  obtain⟨a,vs,rfl,e,rs⟩:=r.ofTup
  exact⟨a,vs,rfl,.inr (eQ.of e),λl hl=>k.newL w hl rs q⟩
 |_=>exact q.elim⟩
def RO(K':Aa):List V->Hp->VK->Prop:=λxs H Q=>∃p ys,xs=[.ref p]/\((dO K' H p ys/\∀l,H l=none->Q (.ref l) (bX H l (.tup ys)))\/(eQ K' H p ys/\Q (.ref p) H))
theorem F9:QC X (.type "tuple") (RO X.K):=⟨yK⟩
def sZ:PN:=λxs Q=>match xs with
 |[.lst ys]=>Q (.tup ys)
 |[.tup ys]=>Q (.tup ys)
 |_=>False
theorem AR {K':PySem.W.Frag}:SimC (RO K') [.p el] (.v el) sZ:=⟨λB H0 W H vs xs Q K w r q k=>by
 obtain⟨v,x,rfl,rfl,r1⟩:=r.one
 clear r
 have r:RepP (el.G W.F B) W.S H v x:=r1
 cases x with
 | lst ys=>
  obtain⟨a,vs,rfl,e,rs⟩:=r.ofList
  exact⟨a,vs,rfl,.inl ⟨dO.of e,λl hl=>k.newT w hl rs q⟩⟩
 | tup ys=>
  obtain⟨a,vs,rfl,e,rs⟩:=r.ofTup
  exact⟨a,vs,rfl,.inr ⟨eQ.of e,k.val w (.tup e rs.len rs.at_) q⟩⟩
 |_=>exact q.elim⟩
def PV.kind:PV->Option String
 |.non=>some "NoneType"
 |.bl _=>some "bool"
 |.int _=>some "int"
 |.str _=>some "str"
 |.lst _=>some "list"
 |.tup _=>some "tuple"
 |.dic _ _=>some "dict"
 |_=>none
def pH:PN:=λxs Q=>match xs with
 | [x,.ty n]=>(match x.kind with
  | some t=>(match PJ t n with
   |some b=>Q (.bl b)
   |none=>False)
  |none=>False)
 |_=>False
theorem UV{K':PySem.W.Frag}{G:Addr->Prop}{H:Hp}{v:V}{x:PV}{t:String}(r:Rep G H v x)(h:x.kind=some t):TyOf K' H v (.type t):=by
 cases r with
 |non=>cases h;exact .non
 |bl b=>cases h;exact .bl _
 |int i=>cases h;exact .int _
 |str y=>cases h;exact .str _
 |lst g e l _=>cases h;exact .lst e
 |tup e l _=>cases h;exact .tup e
 |dic g e l1 l _=>cases h;exact .dK e
 |ty n=>cases h
 |set e=>cases h
theorem mB {K':PySem.W.Frag}:SimC (a1Y K') [.bw,.bw] (.v .fl) pH:=⟨λB H0 W H vs xs Q K w r q k=>by
 obtain⟨v,x,u,y,rfl,rfl,r1,r2⟩:=r.two
 unfold pH at q
 cases y with
 | ty n=>
  dsimp only at q
  cases h:x.kind with
  |none=>rw[h] at q;exact q.elim
  | some t=>
   rw[h] at q
   dsimp only at q
   cases h2:PJ t n with
   |none=>rw[h2] at q;exact q.elim
   | some b=>
    rw[h2] at q
    exact⟨v,n,.type t,b,by rw[Rep.ofTy r2],UV r1 h,(a07 _ _ _).trans h2,k.atom w (.bl _) q⟩
 |_=>exact q.elim⟩
def PV.ints:List PV->Option (List Int)
 |[]=>some []
 |.int i::xs=>(PV.ints xs).map (i::·)
 |_=>none
theorem PV.ints_map:∀(ns:List Int),PV.ints (ns.map PV.int)=some ns
 |[]=>rfl
 |n::ns=>by rw[a0i,PV.ints,PV.ints_map ns];rfl
theorem PV.ints_of:∀ {xs:List PV} {ns:List Int},PV.ints xs=some ns->xs=ns.map PV.int
 |[],ns,h=>by cases h;rfl
 | .int i::xs,ns,h=>by
  rw[PV.ints] at h
  cases h2:PV.ints xs with
  |none=>rw[h2] at h;cases h
  |some ms=>rw[h2] at h;cases h;rw[PV.ints_of h2];rfl
 |.non::_,_,h=>by cases h
 |.bl _::_,_,h=>by cases h
 |.str _::_,_,h=>by cases h
 |.ty _::_,_,h=>by cases h
 |.st::_,_,h=>by cases h
 |.scr _::_,_,h=>by cases h
 |.set _ _::_,_,h=>by cases h
 |.lst _::_,_,h=>by cases h
 |.tup _::_,_,h=>by cases h
 |.dic _ _::_,_,h=>by cases h
theorem Reps.ints {G:Addr->Prop} {H:Hp} {vs:List V} {ns:List Int} (r:Reps G H vs (ns.map PV.int)):vs=ns.map V.int:=by
 refine List.ext_getElem? λi=>?_
 cases h:vs[i]? with
 | none=>
  rw[a0h,a2g];rfl
  have:=a5z.mp h
  have:=r.len
  simp at this;omega
 | some v=>
  obtain⟨x,e,rx⟩:=r.getV h
  rw[a0h] at e ⊢
  cases h2:ns[i]? with
  |none=>rw[h2] at e;cases e
  |some n=>rw[h2] at e;cases e;rw[rx.ofInt];rfl
def EW:PN:=λxs Q=>match xs with
 | [.lst ys]=>(match PV.ints ys with
  |some ns=>Q (.int ns.sum)
  |none=>False)
 |_=>False
theorem C5{ns:List Int}{Q:PV->Prop}(q:Q (.int ns.sum)):EW [.lst (ns.map PV.int)] Q:=by unfold EW;simp only[PV.ints_map];exact q
theorem vG:SimC a22 [.bw] (.v .fl) EW:=⟨λB H0 W H vs xs Q K w r q k=>by
 obtain⟨v,x,rfl,rfl,r1⟩:=r.one
 clear r
 have r:=r1
 unfold EW at q
 cases x with
 | lst ys=>
  dsimp only at q
  cases h:PV.ints ys with
  |none=>rw[h] at q;exact q.elim
  | some ns=>
   rw[h] at q
   rw[PV.ints_of h] at r
   obtain⟨a,vs,rfl,_,e,rs⟩:=Rep.ofList r
   rw[rs.ints] at e
   exact⟨a,ns,rfl,e,k.atom w (.int _) q⟩
 |_=>exact q.elim⟩
def P9:List Int->List Int:=λns=>ns.mergeSort (λa b=>decide (a<=b))
theorem p7(ns:List Int):(P9 ns).Perm ns:=List.mergeSort_perm _ _
theorem BN(ns:List Int):(P9 ns).Pairwise (·<=·):=by
 have:=List.pairwise_mergeSort (le:=λ(a b:Int)=>decide (a<=b)) (λa b c=>by simp;omega) (λa b=>by simp;omega) ns
 exact this.imp λh=>by simpa using h
theorem zA:∀ {as bs:List Int},as.Perm bs->as.Pairwise (·<=·)->bs.Pairwise (·<=·)->as=bs:=λh1 h2 h3=>h1.eq_of_pairwise (λa b _ _ h1 h2=>Int.le_antisymm h1 h2) h2 h3
theorem tF{G:Addr->Prop}{H:Hp}(ns:List Int):Reps G H (ns.map V.int) (ns.map PV.int):=⟨by simp,λi v x e1 e2=>by
 rw[a0h] at e1 e2
 cases h:ns[i]? with
 |none=>rw[h] at e1;cases e1
 |some n=>rw[h] at e1 e2;cases e1;cases e2;exact .int _⟩
end
structure PEnds where
 nx:b9->Prop
 rt:PV->Prop
 bk:b9->Prop:=λ_=>False
 ct:b9->Prop:=λ_=>False
abbrev bJ:=PEnds->b9->Prop
structure Ex(W:Wd)(H:Hp)(W':Wd)(H':Hp):Prop where
 lF:∀a,W.F a->W'.F a
 kp:∀a o,W.F a->H a=some o->H' a=some o
 im:∀a o,o.imm=true->H a=some o->H' a=some o
section
variable{W W' W1 W2:Wd}{H H' H1 H2:Hp}
theorem Ex.refl:Ex W H W H:=⟨λ_ h=>h,λ_ _ _ h=>h,λ_ _ _ h=>h⟩
theorem Ex.trans(a:Ex W H W1 H1)(b:Ex W1 H1 W2 H2):Ex W H W2 H2:=⟨λx h=>b.lF x (a.lF x h),λx o h e=>b.kp x o (a.lF x h) (a.kp x o h e),λx o i e=>b.im x o i (a.im x o i e)⟩
theorem Go.ex(g:Go W H W' H')(w:Wok W H):Ex W H W' H':=⟨g.lF,λa o f e=>g.kp a o e (w.dj a f),λa o i e=>g.kp a o e (w.imm e i)⟩
theorem Ex.rep(x:Ex W H W' H'){G G':Ac->Prop}(hF:∀a,G a->W.F a)(hG:∀a,G a->G' a){v:V}{p:PV}(r:Rep G H v p):Rep G' H' v p:=r.mono hG λa o h e=>h.elim (λg=>x.kp a o (hF a g) e) λi=>x.im a o i e
end
structure Lnk(K:PySem.W.Frag)(mn lm:List Md)(rm:Md)(W0:Wd)(H0:Hp)(W:Wd)(H:Hp)(E:PEnds)(D:Ends):Prop where
 nx:∀(env:b9) (W':Wd) (σ:St) (H':Hp),Rl K mn W0 H0 W' σ env H'->Ex W H W' H'->E.nx env->D.nx σ H'
 rt:∀(x:PV) (v:V) (W':Wd) (H':Hp),Go W0 H0 W' H'->ResE H0 H0 W' H' rm v x->E.rt x->D.rt v H'
 bk:∀(env:b9) (W':Wd) (σ:St) (H':Hp),Rl K lm W0 H0 W' σ env H'->Ex W H W' H'->E.bk env->D.bk σ H'
 ct:∀(env:b9) (W':Wd) (σ:St) (H':Hp),Rl K lm W0 H0 W' σ env H'->Ex W H W' H'->E.ct env->D.ct σ H'
theorem Lnk.after{K:PySem.W.Frag}{mn lm:List Md}{rm:Md}{W0 W W1:Wd}{H0 H H1:Hp}{E:PEnds}{D:Ends}(l:Lnk K mn lm rm W0 H0 W H E D)(x:Ex W H W1 H1):Lnk K mn lm rm W0 H0 W1 H1 E D:=
 ⟨λe W' s H' r y=>l.nx e W' s H' r (x.trans y),l.rt,λe W' s H' r y=>l.bk e W' s H' r (x.trans y),λe W' s H' r y=>l.ct e W' s H' r (x.trans y)⟩
def JV(K:Aa)(md mn lm:List Md)(rm:Md)(p:bJ):TS:=λD σ H=>∃(env:b9) (W0:Wd) (H0:Hp) (W:Wd) (E:PEnds),Rl K md W0 H0 W σ env H/\p E env/\Lnk K mn lm rm W0 H0 W H E D
structure VS(X:Cx)(md mn lm:List Md)(rm:Md)(s:Stmt)(p:bJ):Prop where
 h:PS X s (JV X.K md mn lm rm p)
structure VSs(X:Cx)(md mn lm:List Md)(rm:Md)(s:List Stmt)(p:bJ):Prop where
 h:zH X s (JV X.K md mn lm rm p)
theorem PS.imp{X:Cx}{s:Stmt}{t t':TS}(h:PS X s t)(k:∀D σ H,t' D σ H->t D σ H):PS X s t':=λpins s σ H D I q=>h pins s σ H D I (k D σ H q)
theorem zH.imp{X:Cx}{s:List Stmt}{t t':TS}(h:zH X s t)(k:∀D σ H,t' D σ H->t D σ H):zH X s t':=λpins s σ H D I q=>h pins s σ H D I (k D σ H q)
def bG:bJ:=λE env=>E.nx env
def aN(p q:bJ):bJ:=λE env=>p {E with nx:=q E} env
def l7(c:gJ)(a b:bJ):bJ:=λE env=>c env λk=>Br k (a E env) (b E env)
def bS(a:b5):bJ:=λE env=>a env E.rt
def c4(i:Nat)(a:b5):bJ:=λE env=>a env λx=>E.nx (kS env i (some x))
section
variable{X:Cx}{md m1 mn lm:List Md}{rm m:Md}{el:El}{s:Stmt}{ss th el':List Stmt}{p q:bJ}{e c:Expr}{pe:b5}{pc:gJ}{pos:Pos}{i:Nat}
theorem aQ:VSs X md md lm rm [] bG:=⟨K6.imp λD σ H=>by
 rintro⟨env,W0,H0,W,E,R,q,l⟩
 exact l.nx env W σ H R .refl q⟩
theorem aC(h1:VS X md m1 lm rm s p)(h2:VSs X m1 mn lm rm ss q):VSs X md mn lm rm (s::ss) (aN p q):=⟨(F2 h1.h h2.h).imp λD σ H=>by
 rintro⟨env,W0,H0,W,E,R,q,l⟩
 exact⟨env,W0,H0,W,_,R,q,λe W' s H' r x z=>⟨e,W0,H0,W',E,r,z,l.after x⟩,l.rt,l.bk,l.ct⟩⟩
theorem aI(h1:VS X md mn lm rm s p):VSs X md mn lm rm [s] p:=⟨K7 h1.h⟩
theorem iX(hc:VT X md c pc)(ha:VSs X md mn lm rm th p)(hb:VSs X md mn lm rm el' q):VS X md mn lm rm (.If c th el' pos) (l7 pc p q):=⟨(Y5 hc.h ha.h hb.h).imp λD σ H=>by
 rintro⟨env,W0,H0,W,E,R,q,l⟩
 refine⟨env,W0,H0,W,_,R,q,λk W1 H1 g1 q1=>?_⟩
 cases k with
 |true=>rw[if_pos rfl];exact⟨env,W0,H0,W1,E,R.step g1,q1,l.after (g1.ex R.ok)⟩
 |false=>rw[if_neg a0m];exact⟨env,W0,H0,W1,E,R.step g1,q1,l.after (g1.ex R.ok)⟩⟩
theorem aS(he:VE X md e m pe)(hm:m.le rm=true):VS X md mn lm rm (.Return (some e) pos) (bS pe):=⟨(HZ he.h).imp λD σ H=>by
 rintro⟨env,W0,H0,W,E,R,q,l⟩
 exact⟨env,W0,H0,W,_,R,q,λx v W1 H1 g1 r1 q1=>l.rt x v W1 H1 (R.go.trans g1) ((ResE.base R.go r1).le g1.ok hm) q1⟩⟩
theorem sE {x:Str} {p:Pos} (he:QE X (.Name x p) (g8 i)) (hi:md.getD i .no= .o el) (hm:(Md.o el).le rm=true):VS X md mn lm rm (.Return (some (.Name x p)) pos) (bS (aA i)):=⟨(HZ he.h).imp λD σ H=>by
 rintro⟨env,W0,H0,W,E,R,q,l⟩
 unfold bS aA at q
 rw[nD] at q
 cases e:env[i]? with
 |none=>rw[e] at q;exact q.elim
 | some o=>
  cases o with
  |none=>rw[e] at q;exact q.elim
  | some x=>
   rw[e] at q
   obtain⟨v,s,r⟩:=R.slot i x e
   rw[hi] at r
   exact⟨v,s,l.rt x v W H R.go (r.le R.ok hm) q⟩⟩
theorem a2V {x:Str} {pos':Pos} (hN:X.N.Nodup) (hi:X.N[i]? =some x) (hx:KY X.env.scope x) (hs:swapsWith e (some (.Name x pos')) pos.line X.env=pure false) (hf:X.fn x=true\/X.env.scope.names.lookup x=some .local)
  (he:VE X md e m pe) (hm:iL (md.set i m)=true) (hl:i<md.length):VS X md (md.set i m) lm rm (.Assign [.Name x pos'] e pos) (c4 i pe):=⟨(R7 hN hi hx he.h hs hf).imp λD σ H=>by
 rintro⟨env,W0,H0,W,E,R,q,l⟩
 refine⟨env,W0,H0,W,_,R,q,λx v W1 H1 g1 r1 q1=>?_⟩
 rw[gH] at q1
 exact l.nx _ W1 _ H1 (R.set g1 r1 hm hl) (g1.ex R.ok) q1⟩
theorem CK {K:PySem.W.Frag} {W0 W:Wd} {H0 H:Hp} {σ:St} {env:b9} (R:Rl K md W0 H0 W σ env H) (hm:md.getD i .no= .o el):∃W2,Rl K (md.set i (.z el)) W0 H0 W2 σ env H/\Ex W H W2 H:=by
 have hil:i<md.length:=by
  refine a6h λh=>?_
  rw[a0c,a2g h] at hm
  cases hm
 by_cases hx:∃x,env[i]? =some (some x)
 ·obtain ⟨x,ev⟩:=hx
  obtain⟨a,o,sv,q⟩:=R.ownAt hm ev
  obtain⟨W2,R2⟩:=R.freeze hm
  obtain⟨w,r'⟩:=pE R.ok q q.new
  refine⟨{W with F:=λb=>W.F b\/b=a},⟨R.ok0,⟨λb hb=>.inl (R.go.lF b hb),R.go.lS,λb hb=>?_,R.go.nS,R.go.kp,w,R.go.kk,R.go.kl,R.go.lZ,R.go.nZ⟩,R.len,λj y ej=>?_,R2.sep,R2.bws,R.kk⟩,⟨λb h=>.inl h,λ_ _ _ e=>e,λ_ _ _ e=>e⟩⟩
  ·rcases hb with hb|rfl
   ·exact R.go.nF b hb
   ·exact .inr q.new
  ·by_cases hij:i=j
   ·subst hij
    rw[ev] at ej;cases ej
    refine⟨_,sv,?_⟩
    rw[eE,if_pos ⟨rfl,hil⟩]
    exact⟨a,o,rfl,r'⟩
   ·obtain ⟨u,su,ru⟩:=R.slot j y ej
    refine⟨u,su,?_⟩
    rw[eE,if_neg (λz=>hij z.1)]
    cases hmd:md.getD j .no with
    |no=>trivial
    |bw=>have:=j3 R.bws (i:=i) (j:=j) (by rw[hm];rfl);rw[hmd] at this;cases this
    |p e'=>have:=j3 R.bws (i:=i) (j:=j) (by rw[hm];rfl);rw[hmd] at this;cases this
    |c e'=>have:=j3 R.bws (i:=i) (j:=j) (by rw[hm];rfl);rw[hmd] at this;cases this
    |v e'=>rw[hmd] at ru;exact Rep.weak ru λ_ g=>El.up (λ_ h=>.inl h) (λ_ z=>z) g
    |st=>rw[hmd] at ru;exact ru
    |scr=>rw[hmd] at ru;exact ru
    |n=>rw[hmd] at ru;exact ru
    | o e'=>
     rw[hmd] at ru
     obtain⟨b,ob,z1,qb⟩:=ru
     refine⟨b,ob,z1,qb.new,λz=>?_,qb.nS,qb.at_,qb.its.mono (λ_ g=>El.up (λ_ h=>.inl h) (λ_ z=>z) g) (λ_ _ _ e=>e),qb.nZ⟩
     rcases z with z|z
     ·exact qb.nF z
     ·subst z z1
      exact R.sep i j _ _ _ hij (by rw[hm];rfl) (by rw[hmd];rfl) ev ej sv su
    | z e'=>
     rw[hmd] at ru
     obtain⟨b,ob,z1,qb⟩:=ru
     exact⟨b,ob,z1,qb.new,.inl qb.F,qb.at_,qb.its.mono (λ_ g=>El.up (λ_ h=>.inl h) (λ_ z=>z) g) λ_ _ _ e=>e⟩
 ·obtain⟨W2,R2⟩:=R.freeze hm
  refine⟨W,⟨R.ok0,R.go,R.len,λj y ej=>?_,R2.sep,R2.bws,R.kk⟩,.refl⟩
  have hij:¬i=j:=λz=>by subst z;exact hx ⟨y,ej⟩
  rw[eE,if_neg (λz=>hij z.1)]
  exact R.slot j y ej
theorem pY(i:Nat)(el:El)(hi:md.getD i .no= .o el)(h:VS X (md.set i (.z el)) mn lm rm s p):VS X md mn lm rm s p:=⟨h.h.imp λD σ H=>by
 rintro⟨env,W0,H0,W,E,R,q,l⟩
 obtain⟨W2,R2,x⟩:=CK R hi
 exact⟨env,W0,H0,W2,E,R2,q,l.after x⟩⟩
def jL(a b:List Md):Bool:=decide (a.length=b.length)&&(a.zip b).all (λp=>p.1.le p.2&&(!p.2.own||p.1.own))&&iL b
theorem BV {a b:List Md} (h:jL a b=true):(∀i,(a.getD i .no).le (b.getD i .no)=true)/\(∀i,(b.getD i .no).own=true->(a.getD i .no).own=true)/\iL b=true:=by
 unfold jL at h
 rw[a1d,a1d,a1a] at h
 have hl:a.length=b.length:=a3u h.1.1
 have key:∀i,(hi:i<a.length)->(a.getD i .no).le (b.getD i .no)=true/\((b.getD i .no).own=true->(a.getD i .no).own=true):=λi hi=>by
  have hb:i<b.length:=by omega
  have:=h.1.2 (a[i],b[i]) (by
   have e:(a.zip b)[i]? =some (a[i],b[i]):=by
    rw[a3f]
    exact⟨a0a hi,a0a hb⟩
   exact a0k e)
  rw[a1d,a2o] at this
  rw[a0c,a0c,a0a hi,a0a hb]
  refine⟨this.1,λz=>?_⟩
  rcases this.2 with q|q
  ·simp at q z;rw[z] at q;cases q
  ·exact q
 refine⟨λi=>?_,λi=>?_,h.2⟩
 ·by_cases hi:i<a.length
  ·exact (key i hi).1
  ·rw[a0c,a0c,a2g ∅,a2g ∅];rfl
 ·by_cases hi:i<a.length
  ·exact (key i hi).2
  ·rw[a0c,a0c,a2g ∅,a2g ∅];intro z;exact z
theorem Rl.less{K:Aa}{W0 W:Wd}{H0 H:Hp}{σ:St}{env:b9}(R:Rl K md W0 H0 W σ env H)(h:jL md m1=true):Rl K m1 W0 H0 W σ env H:=R.le (BV h).1 (BV h).2.1 (BV h).2.2
theorem eP(h:jL md m1=true)(hs:VSs X m1 mn lm rm ss p):VSs X md mn lm rm ss p:=⟨hs.h.imp λD σ H=>by
 rintro⟨env,W0,H0,W,E,R,q,l⟩
 exact⟨env,W0,H0,W,E,R.less h,q,l⟩⟩
theorem a5P(h:jL md m1=true)(hs:VS X m1 mn lm rm s p):VS X md mn lm rm s p:=⟨hs.h.imp λD σ H=>by
 rintro⟨env,W0,H0,W,E,R,q,l⟩
 exact⟨env,W0,H0,W,E,R.less h,q,l⟩⟩
end
abbrev iS:=PV->b9->(b9->Prop)->Prop
abbrev uQ:=List PV->b9->(b9->Prop)->Prop
def tX(K:Aa)(md mn:List Md)(el:El)(g:iS):TG:=λv σ H Q=>∃(env:b9) (W0:Wd) (H0:Hp) (W:Wd) (x:PV) (R:b9->Prop),Rl K md W0 H0 W σ env H/\Rep (el.G W.F H0) H v x/\g x env R/\∀env' σ',Rl K mn W0 H0 W σ' env' H->R env'->Q σ' H
def a0H(K:Aa)(md mn:List Md)(el:El)(g:uQ):T5:=λvs σ H Q=>∃(env:b9) (W0:Wd) (H0:Hp) (W:Wd) (xs:List PV) (R:b9->Prop),Rl K md W0 H0 W σ env H/\Reps (el.G W.F H0) H vs xs/\g xs env R/\∀env' σ',Rl K mn W0 H0 W σ' env' H->R env'->Q σ' H
structure VG(X:Cx)(md mn:List Md)(el:El)(tg:Expr)(g:iS):Prop where
 h:PG X tg (tX X.K md mn el g)
structure VGs(X:Cx)(md mn:List Md)(el:El)(tg:List Expr)(g:uQ):Prop where
 h:XN X tg (a0H X.K md mn el g)
theorem PG.imp{X:Cx}{e:Expr}{t t':TG}(h:PG X e t)(k:∀v σ H Q,t' v σ H Q->t v σ H Q):PG X e t':=λpins s σ H v u Q I r q=>h pins s σ H v u Q I r (k v σ H Q q)
theorem XN.imp{X:Cx}{e:List Expr}{t t':T5}(h:XN X e t)(k:∀v σ H Q,t' v σ H Q->t v σ H Q):XN X e t':=λpins s σ H v u Q I r q=>h pins s σ H v u Q I r (k v σ H Q q)
def aF(i:Nat):iS:=λx env R=>R (kS env i (some x))
def cL:uQ:=λxs env R=>match xs with
 |[]=>R env
 |_=>False
def aK(g:iS)(u:uQ):uQ:=λxs env R=>match xs with
 |x::r=>g x env λenv'=>u r env' R
 |[]=>False
def bU(n:Nat)(g:uQ):iS:=λx env R=>match x with
 |.tup xs=>xs.length=n/\g xs env R
 |_=>False
section
variable{X:Cx}{md m1 mn:List Md}{el:El}{e:Expr}{es:List Expr}{pos:Pos}{i:Nat}
theorem XF{x:Str}(hN:X.N.Nodup)(hi:X.N[i]? =some x)(hx:KY X.env.scope x)(hf:X.fn x=true\/X.env.scope.names.lookup x=some .local)(hm:iL (md.set i (.v el))=true)(hl:i<md.length):VG X md (md.set i (.v el)) el (.Name x pos) (aF i):=⟨(vD hN hi hx hf).imp λv σ H Q=>by
 rintro⟨env,W0,H0,W,x,R,Rr,r,q,k⟩
 unfold aF at q
 rw[gH] at q
 exact k _ _ (Rr.set (Go.refl Rr.ok) (m:=.v el) r hm hl) q⟩
theorem bP:VGs X md md el [] cL:=⟨K2.imp λvs σ H Q=>by
 rintro⟨env,W0,H0,W,xs,R,Rr,r,q,k⟩
 cases xs with
 | nil=>
  have:vs=[]:=a3l.mp r.len
  exact⟨this,k env σ Rr q⟩
 |cons _ _=>exact q.elim⟩
theorem aG {g:iS} {u:uQ} (h1:VG X md m1 el e g) (h2:VGs X m1 mn el es u) (hs:(assignEach (e::es) X.env).map (·.2)=assign e X.env::(assignEach es X.env).map (·.2):=by rfl):VGs X md mn el (e::es) (aK g u):=⟨(xB h1.h h2.h hs).imp λvs σ H Q=>by
 rintro⟨env,W0,H0,W,xs,R,Rr,r,q,k⟩
 cases xs with
 |nil=>exact q.elim
 | cons x xr=>
  cases vs with
  |nil=>have:=r.len;simp at this
  | cons v vr=>
   exact⟨v,vr,rfl,env,W0,H0,W,x,_,Rr,r.at_ 0 v x rfl rfl,q,λenv' σ' R' z=>⟨env',W0,H0,W,xr,R,R',⟨by have:=r.len;simpa using this,λi w y e1 e2=>r.at_ (i+1) w y (by simpa using e1) (by simpa using e2)⟩,z,k⟩⟩⟩
theorem cE {k:Nat} {g:uQ} {n:Nat} (hc:X.calm=true) (h:VGs X md mn el es g) (hn:(assignEach es X.env).length=n:=by rfl) (hst:(assignEach es X.env).findIdx? (·.1)=none:=by rfl):VG X md mn el (.Tuple es k pos) (bU n g):=⟨(QV hc h.h hn hst).imp λv σ H Q=>by
 rintro⟨env,W0,H0,W,x,R,Rr,r,q,k⟩
 cases x with
 | tup xs=>
  obtain⟨a,vs,rfl,e,rs⟩:=r.ofTup
  exact⟨a,vs,rfl,eQ.of e,by rw[rs.len];exact q.1,env,W0,H0,W,xs,R,Rr,rs,q.2,k⟩
 |_=>exact q.elim⟩
def qS(a:b5)(g:iS):bJ:=λE env=>a env λx=>g x env E.nx
theorem kW {lm:List Md} {rm:Md} {pe:b5} {g:iS} {tg:Expr} (he:VE X md e (.v el) pe) (hg:VG X md mn el tg g) (hs:swapsWithSole [tg] e pos.line X.env=pure false:=by rfl) (hw:swappedStores [tg] e X.env=pure none:=by rfl)
  (h1:(assignEach [tg] X.env).map (·.2)=[assign tg X.env]:=by rfl):VS X md mn lm rm (.Assign [tg] e pos) (qS pe g):=⟨(C9 he.h hg.h hs hw h1).imp λD σ H=>by
 rintro⟨env,W0,H0,W,E,R,q,l⟩
 refine⟨env,W0,H0,W,_,R,q,λx v W1 H1 g1 r1 q1=>?_⟩
 exact⟨env,W0,H0,W1,x,E.nx,R.step g1,r1,q1,λenv' σ' R' z=>l.nx env' W1 σ' H1 R' (g1.ex R.ok) z⟩⟩
end
structure Src(J:It)(el:El)(B:Hp)(W:Wd)(H:Hp)(items:List PV):Prop where
 go:∀(i:Nat) (W2:Wd) (H2:Hp),Ex W H W2 H2->i<items.length->J.go i H2
 stop:∀(W2:Wd) (H2:Hp),Ex W H W2 H2->J.stop items.length H2
 yld:∀(i:Nat) (W2:Wd) (H2:Hp) (v:V) (H3:Hp),Ex W H W2 H2->Wok W2 H2->i<items.length->J.yld i H2 v H3->Go W2 H2 W2 H3/\∃x,items[i]? =some x/\Rep (el.G W2.F B) H3 v x
abbrev mS:=b9->(List PV->Prop)->Prop
def wD(K:Aa)(md:List Md)(el:El)(p:mS):TI:=λσ H R=>∃(env:b9) (W0:Wd) (H0:Hp) (W:Wd) (Q:List PV->Prop),Rl K md W0 H0 W σ env H/\p env Q/\∀(items:List PV) (W':Wd) (H':Hp) (J:It),Go W H W' H'->Src J el H0 W' H' items->Q items->R J H'
structure VI(X:Cx)(md:List Md)(el:El)(tg iter:Expr)(p:mS):Prop where
 h:PI X tg iter (wD X.K md el p)
theorem PI.imp{X:Cx}{tg iter:Expr}{t t':TI}(h:PI X tg iter t)(k:∀σ H R,t' σ H R->t σ H R):PI X tg iter t':=λpins s σ H R I q=>h pins s σ H R I (k σ H R q)
def cW(a:b5):mS:=λenv Q=>a env λx=>match x with
 |.lst xs=>Q xs
 |_=>False
def F0(a:b5):mS:=λenv Q=>a env λx=>match x with
 |.tup xs=>Q xs
 |_=>False
def d4(lo:Int)(n:Nat):List PV:=(List.range n).map λ(i:Nat)=>PV.int (lo+i)
theorem c8(lo:Int)(n:Nat):(d4 lo n).length=n:=by simp[d4]
theorem zW{lo:Int}{n i:Nat}(h:i<n):(d4 lo n)[i]? =some (.int (lo+i)):=by simp[d4,h]
def iM(a:b5):mS:=λenv Q=>a env λx=>match x with
 |.int j=>-(2^62)<=j/\j<2^62/\Q (d4 0 j.toNat)
 |_=>False
section
variable{X:Cx}{md:List Md}{el:El}{a b e tg:Expr}{pa pb pe:b5}{p pos:Pos}
theorem FP {K:PySem.W.Frag} {B:Hp} {W:Wd} {H:Hp} {l:Addr} {vs:List V} {xs:List PV} (hF:W.F l) (e:H l=some (.lst vs)) (r:Reps (el.G W.F B) H vs xs):Src (a67 K l) el B W H xs where
 go:=λi W2 H2 x hi=>⟨vs,vs[i]'(by rw[r.len];exact hi),dO.of (x.kp l _ hF e),a0a _⟩
 stop:=λW2 H2 x=>⟨vs,dO.of (x.kp l _ hF e),by rw[r.len];exact a0o _⟩
 yld:=λi W2 H2 v H3 x w hi y=>by
  obtain⟨rfl,y⟩:=y
  have:=y vs (dO.of (x.kp l _ hF e))
  obtain⟨z,ez,rz⟩:=r.getV this
  exact⟨Go.refl w,z,ez,x.rep (λ_ g=>El.GF g) (λ_ g=>El.up x.lF (λ_ h=>h) g) rz⟩
theorem WV {K:PySem.W.Frag} {B:Hp} {W:Wd} {H:Hp} {l:Addr} {vs:List V} {xs:List PV} (e:H l=some (.tup vs)) (r:Reps (el.G W.F B) H vs xs):Src (a68 K l) el B W H xs where
 go:=λi W2 H2 x hi=>⟨vs,vs[i]'(by rw[r.len];exact hi),eQ.of (x.im l _ rfl e),a0a _⟩
 stop:=λW2 H2 x=>⟨vs,eQ.of (x.im l _ rfl e),by rw[r.len];exact a0o _⟩
 yld:=λi W2 H2 v H3 x w hi y=>by
  obtain⟨rfl,y⟩:=y
  have:=y vs (eQ.of (x.im l _ rfl e))
  obtain⟨z,ez,rz⟩:=r.getV this
  exact⟨Go.refl w,z,ez,x.rep (λ_ g=>El.GF g) (λ_ g=>El.up x.lF (λ_ h=>h) g) rz⟩
theorem WU {B:Hp} {W:Wd} {H:Hp} {lo:Int} {n:Nat}:Src (T1 lo n) el B W H (d4 lo n) where
 go:=λi W2 H2 x hi=>by rw[c8] at hi;exact hi
 stop:=λW2 H2 x=>by rw[c8];exact a0o n
 yld:=λi W2 H2 v H3 x w hi y=>by
  obtain⟨rfl,rfl⟩:=y
  rw[c8] at hi
  exact⟨Go.refl w,_,zW hi,.int _⟩
theorem fI (h:VE X md e (.v el) pe):VI X md el tg e (cW pe):=⟨(K4 h.h).imp λσ H R=>by
 rintro⟨env,W0,H0,W,Q,Rr,q,k⟩
 refine⟨env,W0,H0,W,_,Rr,q,λx v W1 H1 g1 r1 q1=>?_⟩
 cases x with
 | lst xs=>
  obtain⟨a,vs,rfl,g,e,rs⟩:=Rep.ofList r1
  exact⟨a,rfl,⟨vs,dO.of e⟩,k xs W1 H1 _ g1 (FP (El.GF g) e rs) q1⟩
 |_=>exact q1.elim⟩
theorem eO (h:VE X md e (.z el) pe):VI X md el tg e (cW pe):=⟨(K4 h.h).imp λσ H R=>by
 rintro⟨env,W0,H0,W,Q,Rr,q,k⟩
 refine⟨env,W0,H0,W,_,Rr,q,λx v W1 H1 g1 r1 q1=>?_⟩
 cases x with
 | lst xs=>
  obtain⟨a,o,rfl,z⟩:=r1
  have z2:=z.its
  have z3:=z.at_
  cases z2 with
  |lst rs=>exact⟨a,rfl,⟨_,dO.of z3⟩,k xs W1 H1 _ g1 (FP z.F z3 rs) q1⟩
 |_=>exact q1.elim⟩
theorem a2T (h:VE X md e (.v el) pe):VI X md el tg e (F0 pe):=⟨(a1F h.h).imp λσ H R=>by
 rintro⟨env,W0,H0,W,Q,Rr,q,k⟩
 refine⟨env,W0,H0,W,_,Rr,q,λx v W1 H1 g1 r1 q1=>?_⟩
 cases x with
 | tup xs=>
  obtain⟨a,vs,rfl,e,rs⟩:=Rep.ofTup r1
  exact⟨a,rfl,⟨vs,eQ.of e⟩,k xs W1 H1 _ g1 (WV e rs) q1⟩
 |_=>exact q1.elim⟩
theorem i5 (hg:X.env.scope.names.lookup (Str.ofString "range")=some NameKind.globalImplicit) (hm:X.mg "range"=none) (ha:VE X md a .bw pa) (hs:starEach [a] X.env=[(false,eval a X.env)]:=by rfl):VI X md .fl tg (.Call (.Name "range" p) [a] [] pos) (iM pa):=
 ⟨(AD hg hm (a7 ha a9 hs).h hs).imp λσ H R=>by
 rintro⟨env,W0,H0,W,Q,Rr,q,k⟩
 refine⟨env,W0,H0,W,λxs=>match xs with|[.int j]=>-(2^62)<=j/\j<2^62/\Q (d4 0 j.toNat)|_=>False,Rr,?_,λxs vs W1 H1 g1 r1 q1=>?_⟩
 ·show pa env _
  unfold iM at q
  refine (iff_of_eq (congrArg (pa env) (funext λx=>?_))).mp q
  cases x<;>rfl
 ·obtain⟨v,x,rfl,rfl,r⟩:=r1.one
  cases x with
  |int j=>exact⟨j,by rw[Rep.ofInt r],q1.1,q1.2.1,k _ W1 H1 _ g1 WU q1.2.2⟩
  |_=>exact q1.elim⟩
end
def qT(g:iS)(b:bJ)(E:PEnds):List PV->b9->Prop
 |[],env=>E.nx env
 |x::xs,env=>g x env λenv1=>b {E with nx:=qT g b E xs,ct:=qT g b E xs,bk:=E.nx} env1
def kL(s:mS)(g:iS)(b:bJ):bJ:=λE env=>s env λitems=>qT g b E items env
def HY(c:gJ)(b:bJ):bJ:=λE env=>∃I:Nat->b9->Prop,(∃m,I m env)/\∀m env,I m env->
 c env λk=>Br k (∃N:b9->Prop,(∀env',N env'->∃m',m'<m/\I m' env')/\b {E with nx:=N,ct:=N,bk:=E.nx} env) (E.nx env)
section
variable{X:Cx}{md m1 mn lm l2:List Md}{rm:Md}{el:El}{tg iter c:Expr}{body:List Stmt}{s:mS}{g:iS}{b:bJ}{pc:gJ}{pos:Pos}
theorem OW {K:PySem.W.Frag} (hlm:iL lm=true) {wi:TI} {σ:St} {H:Hp} {D:Ends} (h:JV K lm lm l2 rm (kL s g b) D σ H):S8 (wD K lm el s) (tX K lm m1 el g) (JV K m1 lm lm rm b) D σ H:=by
 obtain⟨env,W0,H0,W,E,R,q,l⟩:=h
 refine⟨env,W0,H0,W,_,R,q,λitems W1 H1 J g1 sr q1=>?_⟩
 refine⟨λi m σ H=>m=items.length-i/\i<=items.length/\∃env W',Rl K lm W0 H0 W' σ env H/\Ex W1 H1 W' H/\qT g b E (items.drop i) env,⟨items.length,by simp,a3c _,env,W1,R.step g1,.refl,by simpa using q1⟩,?_⟩
 rintro i m σ2 H2 ⟨rfl,hi,env2,W2,R2,x2,q2⟩
 by_cases hlt:i<items.length
 ·rw[a3g hlt] at q2
  refine .inr ⟨sr.go i W2 H2 x2 hlt,λσ' H'=>i+1<=items.length/\∃env W',Rl K lm W0 H0 W' σ' env H'/\Ex W1 H1 W' H'/\qT g b E (items.drop (i+1)) env,λσ' H' z=>⟨items.length-(i+1),by omega,rfl,z.1,z.2⟩,λv H3 y=>?_⟩
  obtain⟨g3,x,ex,rx⟩:=sr.yld i W2 H2 v H3 x2 R2.ok hlt y
  rw[a0a hlt] at ex
  cases ex
  refine⟨env2,W0,H0,W2,_,_,R2.step g3,rx,q2,λenv' σ' R' z=>⟨env',W0,H0,W2,_,R',z,?_,l.rt,?_,?_⟩⟩
  ·exact λenv4 W4 σ4 H4 R4 x4 z4=>⟨hlt,env4,W4,R4,(x2.trans (g3.ex R2.ok)).trans x4,z4⟩
  ·exact λenv4 W4 σ4 H4 R4 x4 z4=>l.nx env4 W4 σ4 H4 R4 ((((g1.ex R.ok).trans x2).trans (g3.ex R2.ok)).trans x4) z4
  ·exact λenv4 W4 σ4 H4 R4 x4 z4=>⟨hlt,env4,W4,R4,(x2.trans (g3.ex R2.ok)).trans x4,z4⟩
 ·have e:i=items.length:=by omega
  subst e
  rw[a5k] at q2
  exact .inl ⟨sr.stop W2 H2 x2,l.nx env2 W2 σ2 H2 R2 ((g1.ex R.ok).trans x2) q2⟩
theorem f9 (hp:PassesOwn (model X.prog X.w) X.A X.env X.xe) (hc:X.calm=true) (hlm:iL lm=true) (hi:VI X lm el tg iter s) (hg:VG X lm m1 el tg g) (hb:VSs X m1 lm lm rm body b)
  (hs:∀x,foldedSetIterable iter X.env x=pure x:=by intro _;rfl):VS X lm lm l2 rm (.For tg iter body [] pos) (kL s g b):=⟨(R0 hp hc hi.h hg.h hb.h hs).imp λD σ H h=>OW (wi:=wD X.K lm el s) hlm h⟩
theorem FV (hp:PassesOwn (model X.prog X.w) X.A X.env X.xe) (hc:VT X lm c pc) (hb:VSs X lm lm lm rm body b):VS X lm lm l2 rm (.While c body [] pos) (HY pc b):=⟨(R8 hp hc.h hb.h).imp λD σ H h=>by
 obtain⟨env,W0,H0,W,E,R,⟨I,⟨m,i0⟩,turn⟩,l⟩:=h
 refine⟨λm σ2 H2=>∃env W',Rl X.K lm W0 H0 W' σ2 env H2/\Ex W H W' H2/\I m env,⟨m,env,W,R,.refl,i0⟩,?_⟩
 rintro m σ2 H2 ⟨env2,W2,R2,x2,i2⟩
 refine⟨env2,W0,H0,W2,_,R2,turn m env2 i2,λk W3 H3 g3 q3=>?_⟩
 cases k with
 | true=>
  rw[if_pos rfl]
  obtain⟨N,hN,q3⟩:=q3
  refine⟨λσ' H'=>∃env W',Rl X.K lm W0 H0 W' σ' env H'/\Ex W H W' H'/\N env,λσ' H' z=>?_,env2,W0,H0,W3,_,R2.step g3,q3,?_,l.rt,?_,?_⟩
  ·obtain⟨env',W',R',x',n'⟩:=z
   obtain⟨m',hm,i'⟩:=hN env' n'
   exact⟨m',hm,env',W',R',x',i'⟩
  ·exact λenv4 W4 σ4 H4 R4 x4 z4=>⟨env4,W4,R4,(x2.trans (g3.ex R2.ok)).trans x4,z4⟩
  ·exact λenv4 W4 σ4 H4 R4 x4 z4=>l.nx env4 W4 σ4 H4 R4 ((x2.trans (g3.ex R2.ok)).trans x4) z4
  ·exact λenv4 W4 σ4 H4 R4 x4 z4=>⟨env4,W4,R4,(x2.trans (g3.ex R2.ok)).trans x4,z4⟩
 | false=>
  rw[if_neg a0m]
  exact l.nx env2 W3 σ2 H3 (R2.step g3) (x2.trans (g3.ex R2.ok)) q3⟩
end
def a6U:Md->Md
 |.bw=>.v .sh
 |m=>m
def iT:Md->Bool
 |.bw=>true
 |.st=>true
 |.scr=>true
 |_=>false
def jM:Md->Bool
 |.v .fl=>true
 |.v .sn=>true
 |.o .fl=>true
 |.o .sn=>true
 |.z .fl=>true
 |.z .sn=>true
 |.st=>true
 |_=>false
def DB(K:PySem.W.Frag)(ms:List Md)(rm:Md)(p:PN):Sp:=λvs H Q _=>∃(xs:List PV) (W:Wd) (R:PV->Prop),W.K=K/\Wok W H/\ResEs H H W H ms vs xs/\p xs R/\
 ∀(x:PV) (v:V) (W':Wd) (H':Hp),Go W H W' H'->ResE H H W' H' rm v x->R x->Q v H'
def c0(N:List Str)(xs:List PV):b9:=xs.map some++List.replicate (N.length-xs.length) none
def cC(N:List Str)(ms:List Md):List Md:=ms.map a6U++List.replicate (N.length-ms.length) .no
def fP(rm:Md)(R:PV->Prop):Prop:=match rm with
 |.v _=>R .non
 |_=>False
theorem ResEs.at {B H0 H:Hp} {W:Wd} {ms:List Md} {vs:List V} {xs:List PV} (r:ResEs B H0 W H ms vs xs) {i:Nat} {x:PV} (e:xs[i]? =some x):∃m v,ms[i]? =some m/\vs[i]? =some v/\ResE B H0 W H m v x:=by
 induction r generalizing i with
 |nil=>simp at e
 | cons h _ ih=>
  cases i with
  |zero=>simp at e;subst e;exact⟨_,_,rfl,rfl,h⟩
  |succ i=>simp at e;obtain⟨m,v,e1,e2,q⟩:=ih e;exact⟨m,v,by simpa using e1,by simpa using e2,q⟩
theorem ResE.arg{B H0 H B' H0':Hp}{W:Wd}{m:Md}{v:V}{x:PV}(r:ResE B H0 W H m v x)(h:iT m=true):ResE B' H0' W H m v x:=by
 cases m<;>first|exact r|cases h
theorem ResEs.arg {B H0 H B' H0':Hp} {W:Wd} {ms:List Md} {vs:List V} {xs:List PV} (r:ResEs B H0 W H ms vs xs) (h:ms.all iT=true):ResEs B' H0' W H ms vs xs:=by
 induction r with
 |nil=>exact .nil
 | cons q _ ih=>
  rw[List.all_cons,a1d] at h
  exact .cons (q.arg h.1) (ih h.2)
def B4(W:Wd)(H:Hp):Wd:={W with F:=λa=>(∃o,H a=some o)/\¬W.S a,Z:=λ_=>False}
theorem J2{W:Wd}{H:Hp}(w:Wok W H):Wok (B4 W H) H:=⟨λ_ h=>h.1,w.sS,λ_ h=>h.2,λ_ h=>h.elim,λ_ h=>h.elim,λ_ h=>h.elim⟩
theorem Rep.alloc{W:Wd}{H:Hp}{v:V}{x:PV}(r:Rep (λa=>¬W.S a) H v x):Rep (B4 W H).F H v x:=by
 induction r with
 |non=>exact .non
 |bl b=>exact .bl b
 |int i=>exact .int i
 |str x=>exact .str x
 |ty n=>exact .ty n
 |set e=>exact .set e
 |lst g e l _ ih=>exact .lst ⟨⟨_,e⟩,g⟩ e l ih
 |tup e l _ ih=>exact .tup e l ih
 |dic g e l1 l _ ih=>exact .dic ⟨⟨_,e⟩,g⟩ e l1 l ih
theorem FI {K:PySem.W.Frag} {N:List Str} {ms:List Md} {vs:List V} {xs:List PV} {W:Wd} {H:Hp} (hk:W.K=K) (w:Wok W H) (r:ResEs H H W H ms vs xs) (hm:ms.all iT=true):Rl K (cC N ms) (B4 W H) H (B4 W H) (start N vs) (c0 N xs) H:=by
 have hlen:=r.len
 have getm:∀i m,ms[i]? =some m->(cC N ms).getD i .no=a6U m:=λi m e=>by
  have hi:=(a0e.mp e).1
  unfold cC
  rw[a0c,a1f (by simpa using hi),a0h,e];rfl
 have none_:∀i,ms.length<=i->(cC N ms).getD i .no= .no:=λi hi=>by
  unfold cC
  rw[a0c,a1g (by simpa using hi),a2a]
  split<;>rfl
 have nown:∀i,((cC N ms).getD i .no).own=false:=λi=>by
  cases e:ms[i]? with
  |none=>rw[none_ i (a5z.mp e)];rfl
  | some m=>
   rw[getm i m e]
   have:=a1a.mp hm m (a0k e)
   cases m<;>first|rfl|cases this
 refine⟨J2 w,Go.refl (J2 w),?_,λi x e=>?_,λi j x y a hij oi=>(by rw[nown i] at oi;cases oi),?_,hk⟩
 ·simp[start,c0,hlen.1]
 ·unfold c0 at e
  by_cases hi:i<xs.length
  ·rw [a1f (by simpa using hi),a0h] at e
   cases ex:xs[i]? with
   |none=>rw[ex] at e;cases e
   | some y=>
    rw[ex] at e
    cases e
    obtain⟨m,v,e1,e2,q⟩:=r.at ex
    refine⟨v,?_,?_⟩
    ·unfold start
     rw[a1f (by simpa[hlen.1] using hi),a0h,e2];rfl
    ·rw[getm i m e1]
     have:=a1a.mp hm m (a0k e1)
     cases m with
     |bw=>exact Rep.alloc q
     |st=>exact q
     |scr=>exact q
     |_=>cases this
  ·rw[a1g (by simpa using hi),a2a] at e
   split at e<;>cases e
 ·unfold iL
  rw[a2o,a1a,a1a]
  refine .inr λm h=>?_
  unfold cC at h
  rcases a1c.mp h with z|z
  ·obtain⟨m',h1,rfl⟩:=a0s.mp z
   have:=a1a.mp hm m' h1
   cases m'<;>first|rfl|cases this
  ·rw[(a7b.mp z).2];rfl
theorem rQ {W W1:Wd} {H H1:Hp} {rm:Md} {v:V} {x:PV} (w:Wok W H) (hr:jM rm=true) (g:Go (B4 W H) H W1 H1) (r:ResE H H W1 H1 rm v x) :
  ∃W',Go W H W' H1/\ResE H H W' H1 rm v x:=by
 have nw:∀ {a:Ac},W.Z a->H a≠none:=λz e=>w.offZ e z
 refine⟨{W1 with F:=λa=>W.F a\/(W1.F a/\H a=none),Z:=W.Z},⟨λ_ h=>.inl h,g.lS,λa h=>h.elim .inl λz=>.inr z.2,g.nS,g.kp,⟨λa h=>?_,g.ok.sS,λa h=>?_,λa z=>by obtain⟨o,e⟩:=w.zZ a z;exact⟨o,g.kp a o e (w.zS a z)⟩,λa z f=>f.elim (w.zF a z) λq=>nw z q.2,λa z=>by obtain⟨o,e⟩:=w.zZ a z;exact g.nSS e (w.zS a z)⟩,g.kk,g.kl,λ_ h=>h,λ_ h=>.inl h⟩,?_⟩
 ·rcases h with h|h
  ·obtain⟨o,e⟩:=w.fF a h
   exact⟨o,g.kp a o e (w.dj a h)⟩
  ·exact g.ok.fF a h.1
 ·rcases h with h|h
  ·obtain⟨o,e⟩:=w.fF a h
   exact g.nSS e (w.dj a h)
  ·exact g.ok.dj a h.1
 ·have up:∀ {e:El} {a:Addr},e≠ .sh->e.G W1.F H a->e.G (λa=>W.F a\/(W1.F a/\H a=none)) H a:=fun {e a} he q=>by
   cases e with
   |fl=>exact q
   |sn=>exact⟨.inr q,q.2⟩
   |sh=>exact absurd rfl he
  have own:∀ {e:El},e≠ .sh->ResE H H W1 H1 (.o e) v x->ResE H H {W1 with F:=λa=>W.F a\/(W1.F a/\H a=none),Z:=W.Z} H1 (.o e) v x:=λhe q=>by
   obtain⟨a,o,rfl,q⟩:=q
   exact⟨a,o,rfl,q.new,λz=>z.elim (λz=>w.offF q.new z) λz=>q.nF z.1,q.nS,q.at_,q.its.mono (λ_ g=>up he g) (λ_ _ _ e=>e),λz=>w.offZ q.new z⟩
  have frz:∀ {e:El},e≠ .sh->ResE H H W1 H1 (.z e) v x->ResE H H {W1 with F:=λa=>W.F a\/(W1.F a/\H a=none),Z:=W.Z} H1 (.z e) v x:=λhe q=>by
   obtain⟨a,o,rfl,q⟩:=q
   exact⟨a,o,rfl,q.new,.inr ⟨q.F,q.new⟩,q.at_,q.its.mono (λ_ g=>up he g) λ_ _ _ e=>e⟩
  cases rm with
  | v e=>
   cases e with
   |fl=>exact r
   |sn=>exact Rep.weak r λ_ g=>up (by intro z;cases z) g
   |sh=>cases hr
  | o e=>
   cases e with
   |fl=>exact own (by intro z;cases z) r
   |sn=>exact own (by intro z;cases z) r
   |sh=>cases hr
  | z e=>
   cases e with
   |fl=>exact frz (by intro z;cases z) r
   |sn=>exact frz (by intro z;cases z) r
   |sh=>cases hr
  |st=>exact r
  |_=>cases hr
theorem XC {P:Program} {w:World} {K:PySem.W.Frag} {mg:Str->Option Value} {base:Heap} {x:Str} {st:Stmt} {N ps:List Str} {k:Nat} {ms mn:List Md} {rm:Md} {p:bJ} {d:PN} (hd:∀xs R,d xs R->p {nx:=λ_=>fP rm R,rt:=R} (c0 N xs)) (D:Df K mg x st) (S:FnScope N ps (aB st))
  (hb:∀(kV doc pm:Value) (an:Option Ac) (cdv ct:Value) (us:List Value),us.length=ps.length->bindArgs (PySem.W.fnOf x x (c5 st) (aW st) (aB st) .none kV doc pm an cdv ct) ⟨us,[]⟩=pure (ps.zip us))
  (hm:ms.all iT=true) (hr:jM rm=true)
  (hlen:ms.length=ps.length) (hbody:∀(f:Addr) (cdv:Value) (A:Around) (outer:List Env) (s:Shared) (H:Hp) (E:XK),Room k (A.deeper (envOfC x (aB st) s.heap.objs.size f cdv))->
   VSs (cX jV P w K mg base N x (aB st) f cdv A outer s H E).nox (cC N ms) mn [] rm (aW st) p) :
  Cal P w K mg base (k+1) x ps (DB K ms rm d):=by
 refine D.ok S hb (λvs H Q E h=>?_) (λf cdv A outer s H vs Q E hr' h=>?_)
 ·obtain⟨xs,W,R,_,_,r,_⟩:=h
  have:=r.len
  omega
 ·obtain ⟨xs,W,R,hk,wk,r,q,kk⟩:=h
  have q:=hd xs R q
  refine⟨_,(hbody f cdv A outer s H E hr').h,c0 N xs,B4 W H,H,B4 W H,{nx:=λ_=>fP rm R,rt:=R},FI hk wk r hm,q,?_,?_,λ_ _ _ _ _ _ z=>z.elim,λ_ _ _ _ _ _ z=>z.elim⟩
  ·intro env W' σ H' Rr _ z
   have z':fP rm R:=z
   unfold fP at z'
   cases rm with
   | v e=>
    obtain⟨W2,g2,r2⟩:=rQ (rm:=.v e) wk hr Rr.go (v:=.non) (x:=.non) .non
    exact kk .non .non W2 H' g2 r2 z'
   |_=>exact z'.elim
  ·intro y v W' H' g r1 z
   obtain⟨W2,g2,r2⟩:=rQ wk hr g r1
   exact kk y v W2 H' g2 r2 z
theorem ResE.ret{B H1 H2:Hp}{W0 W1 W2:Wd}{rm:Md}{v:V}{x:PV}(g:Go W0 B W1 H1)(hr:jM rm=true)(r:ResE H1 H1 W2 H2 rm v x):ResE B H1 W2 H2 rm v x:=by
 have up:∀ {e:El} {a:Ac},e.G W2.F H1 a->e.G W2.F B a:=λq=>El.up (λ_ h=>h) (λ_ z=>g.free z) q
 cases rm with
 |v e=>exact Rep.weak r λ_ q=>up q
 |o e=>obtain⟨a,o,rfl,q⟩:=r;exact⟨a,o,rfl,q.new,q.nF,q.nS,q.at_,q.its.mono (λ_ q=>up q) (λ_ _ _ e=>e),q.nZ⟩
 |z e=>obtain⟨a,o,rfl,q⟩:=r;exact⟨a,o,rfl,g.free q.new,q.F,q.at_,q.its.mono (λ_ q=>up q) λ_ _ _ e=>e⟩
 |st=>exact r
 |_=>cases hr
section
variable{X:Cx}{md:List Md}{e:Expr}{es:List Expr}{pt:qB}{p pos:Pos}{k:Nat}{x:Str}{ps:List Str}{ms:List Md}{rm:Md}{pn:PN}
theorem a2P (C:Cal X.prog X.w X.K X.mg X.base k x ps (DB X.K ms rm pn)) (hr:Room k X.A) (hm:ms.all iT=true) (hrm:jM rm=true) (ha:VA X md (e::es) ms pt) (hg:X.env.scope.names.lookup x=some .globalImplicit)
  (hdb:(x==("__debug__" : Str))=false) (he:starEach (e::es) X.env=(false,eval e X.env)::starEach es X.env:=by rfl) (hpl:(backTo pos (starEach es X.env)).any (·.1)=false:=by rfl) :
  VE X md (.Call (.Name x p) (e::es) [] pos) rm (bT pn pt):=⟨(QO C hr ha.h hg hdb he hpl).imp λσ H K=>by
 rintro⟨env,W0,H0,W,Q,R,q,k⟩
 refine⟨env,W0,H0,W,_,R,q,λxs vs W1 H1 g1 r1 q1=>?_⟩
 refine⟨xs,W1,Q,g1.kk.trans R.kk,g1.ok,by rw[a5r];exact r1.arg hm,q1,λy v W2 H2 g2 r2 q2=>?_⟩
 exact k y v W2 H2 (g1.trans g2) (ResE.base g1 (ResE.ret (R.go.trans g1) hrm r2)) q2⟩
end
structure SimM (r:V->List V->Hp->VK->Prop) (ms:List Md) (el:El) (pm:PV->List PV->(PV->Prop)->Prop):Prop where
 h:∀(B Hs:Hp) (W:Wd) (H:Hp) (a:Addr) (o:HO) (x:PV) (vs:List V) (ys:List PV) (R:PV->Prop) (K:VK),Wok W H->H a=some o->¬W.F a->¬W.S a->Body (el.G W.F B) H o x->ResEs B Hs W H ms vs ys->pm x ys R->
  (∀(o':HO) (x':PV) (v:V),o'.imm=false->Body (el.G W.F B) H o' x'->R x'->K v (bX H a o'))->r (.ref a) vs H K
theorem I0{K:PySem.W.Frag}{md:List Md}{W0 W:Wd}{H0 H:Hp}{σ:St}{env:b9}{i:Nat}{el:El}{a:Addr}{o o':HO}{x:PV}(q:OwnL el H0 H0 W H a o x):Ex W H W (bX H a o'):=⟨λ_ h=>h,λb u f e=>by rw[aL (λz=>by subst z;exact q.nF f)];exact e,λb u im e=>by
 rw[aL (λz=>?_)];exact e
 subst z
 have:=q.its
 rw[q.at_] at e;cases e
 cases this<;>cases im⟩
section
variable{X:Cx}{md lm:List Md}{rm:Md}{e o:Expr}{es:List Expr}{pt:qB}{pe pj:b5}{el:El}{i:Nat}{T id:String}{r:V->List V->Hp->VK->Prop}{ms:List Md}{pm:PV->List PV->(PV->Prop)->Prop}{name:Str}{apos cpos pos p:Pos}
theorem a10 {K:PySem.W.Frag} {H:Hp} {a:Addr} {o:HO} {x:PV} {G:Addr->Prop} (b:Body G H o x) (e:H a=some o) (hT:(∃xs,x= .lst xs/\T="list")\/∃ks xs,x= .dic ks xs/\T="dict"):a7E K T (.ref a) H:=by
 rcases hT with ⟨xs,rfl,rfl⟩|⟨ks,xs,rfl,rfl⟩
 ·cases b with
  |lst h=>exact .inl ⟨rfl,_,dO.of e⟩
 ·cases b with
  |dic l h=>exact .inr (.inr (.inl ⟨rfl,.inl ⟨_,e⟩⟩))
def a32(T:String)(x:PV):Prop:=match x with
 |.lst _=>T="list"
 |.dic _ _=>T="dict"
 |_=>False
def eH(T:String)(i:Nat)(pm:PV->List PV->(PV->Prop)->Prop)(t:qB):bJ:=λE env=>match oA env i with
 |some (some x)=>a32 T x/\t env λys=>pm x ys λx'=>E.nx (kS env i (some x'))
 |_=>False
theorem a2L{x:PV}(h:a32 T x):(∃xs,x= .lst xs/\T="list")\/∃ks xs,x= .dic ks xs/\T="dict":=by
 cases x<;>first|exact .inl ⟨_,rfl,h⟩|exact .inr ⟨_,_,rfl,h⟩|exact (show False from h).elim
theorem fJ (pa:PlainAttrs T) (slot:Slot T name id) (hty:typeOf (.builtin id)=pure (.type "method_descriptor")) (hm:QM X id r) (hs:SimM r ms el pm) (ho:QE X o (g8 i)) (hi:md.getD i .no= .o el) (ha:VA X md (e::es) ms pt)
  (hsw:swapsWith (.Call (.Attribute o name apos) (e::es) [] cpos) none pos.line X.env=pure false:=by rfl)
  (hbase:attributeBase o name X.env (eval o X.env)=eval o X.env:=by rfl)
  (hfew:((backTo cpos (starEach (e::es) X.env)).all (λx=>!x.1)&&(backToKw cpos (keywordEach [] X.env)).all (λx=>x.1.isSome)
   &&decide ((e::es).length+([]:List Keyword).length+(if ([]:List Keyword).isEmpty then 0 else 1)<30))=true:=by rfl)
  (hline:(apos.endLine==cpos.line)=true:=by rfl) (hse:starEach (e::es) X.env=(false,eval e X.env)::starEach es X.env:=by rfl) (hplain:(backTo cpos (starEach es X.env)).any (·.1)=false:=by rfl) :
  VS X md md lm rm (.Expr (.Call (.Attribute o name apos) (e::es) [] cpos) pos) (eH T i pm pt):=⟨(W7 (a4G pa slot hty hm.h ho.h ha.h hbase hfew hline hse hplain) hsw).imp λD σ H=>by
 rintro⟨env,W0,H0,W,E,R,q,l⟩
 unfold eH at q
 rw[nD] at q
 cases ev:env[i]? with
 |none=>rw[ev] at q;exact q.elim
 | some ox=>
  cases ox with
  |none=>rw[ev] at q;exact q.elim
  | some x=>
   rw[ev] at q
   obtain⟨a,ob,sv,oq⟩:=R.ownAt hi ev
   refine⟨.ref a,sv,a10 oq.its oq.at_ (a2L q.1),env,W0,H0,W,_,R,q.2,λys vs W1 H1 g1 r1 q1=>?_⟩
   have R1:=R.step g1
   obtain⟨a1,o1,sv1,oq1⟩:=R1.ownAt hi ev
   rw[sv] at sv1;cases sv1
   refine hs.h H0 H W1 H1 a o1 x vs ys _ _ g1.ok oq1.at_ oq1.nF oq1.nS oq1.its r1 q1 λo' x' v im b z=>?_
   rw[gH] at z
   exact l.nx _ W1 σ _ (R1.put hi ev sv b im) ((g1.ex R.ok).trans (I0 (K:=X.K) (md:=md) (W0:=W0) (σ:=σ) (env:=env) (i:=i) oq1)) z⟩
def cB:PV->List PV->(PV->Prop)->Prop:=λx ys R=>match x,ys with
 |.lst xs,[y]=>xs.length<sizeLine/\R (.lst (xs++[y]))
 |_,_=>False
theorem bV:SimM CH [.v el] el cB:=⟨λB Hs W H a o x vs ys R K w e nF nS b r q k=>by
 obtain⟨v,y,rfl,rfl,r1⟩:=r.one
 cases b with
 |lst h=>exact⟨a,_,v,rfl,rfl,e,by rw[h.len];exact q.1,k _ _ _ rfl (.lst (h.append (.cons r1 .nil))) q.2⟩
 |dic l h=>exact q.elim⟩
def QK (i:Nat) (pe pj:b5):bJ:=λE env=>pe env λy=>match oA env i with
 | some (some (.lst xs))=>pj env λj=>(match j with
  | .int k=>(match yD xs.length k with
   |some n=>E.nx (kS env i (some (.lst (xs.set n y))))
   |none=>False)
  |_=>False)
 |_=>False
theorem a2U {j:Expr} (ho:QE X o (g8 i)) (hi:md.getD i .no= .o el) (he:VE X md e (.v el) pe) (hj:VE X md j .bw pj)
  (ha:∀v,assign (.Subscript o j p) X.env v=(do
   let ov <- holding [v] (eval o X.env)
   let iv <- holding [v,ov] (eval j X.env)
   standAt p
   holding [v,ov,iv] (setItem ov iv v)
   release [v,ov,iv] []):=by intro _;rfl)
  (hs:swapsWithSole [.Subscript o j p] e pos.line X.env=pure false:=by rfl) (hw:swappedStores [.Subscript o j p] e X.env=pure none:=by rfl)
  (h1:(assignEach [.Subscript o j p] X.env).map (·.2)=[assign (.Subscript o j p) X.env]:=by rfl):VS X md md lm rm (.Assign [.Subscript o j p] e pos) (QK i pe pj):=⟨(C9 he.h (C7 ho.h hj.h rV ha) hs hw h1).imp λD σ H=>by
 rintro⟨env,W0,H0,W,E,R,q,l⟩
 refine⟨env,W0,H0,W,_,R,q,λy v W1 H1 g1 r1 q1=>?_⟩
 have R1:=R.step g1
 rw[nD] at q1
 cases ev:env[i]? with
 |none=>rw[ev] at q1;exact q1.elim
 | some ox=>
  cases ox with
  |none=>rw[ev] at q1;exact q1.elim
  | some x=>
   rw[ev] at q1
   cases x with
   | lst xs=>
    obtain⟨a,ob,sv,oq⟩:=R1.ownAt hi ev
    refine⟨.ref a,sv,env,W0,H0,W1,_,R1,q1,λjv u W2 H2 g2 r2 q2=>?_⟩
    have R2:=R1.step g2
    obtain⟨a2,o2,sv2,oq2⟩:=R2.ownAt hi ev
    rw[sv] at sv2;cases sv2
    cases jv with
    | int k=>
     dsimp only at q2
     cases hn:yD xs.length k with
     |none=>rw[hn] at q2;exact q2.elim
     | some n=>
      rw[hn] at q2
      have b:=oq2.its
      have oq3:=oq2
      have hat:=oq2.at_
      generalize o2=oo at b hat oq3
      cases b with
      | @lst us _ h=>
       have r1':Rep (el.G W2.F H0) H2 v y:=ResE.go (m:=.v el) r1 g1.ok g2
       refine⟨a,us,k,n,rfl,Rep.ofInt r2,hat,by rw[h.len];exact hn,?_⟩
       have q2:E.nx (kS env i (some (PV.lst (xs.set n y)))):=q2
       rw[gH] at q2
       exact l.nx _ W2 σ _ (R2.put hi ev sv (.lst (h.set r1' n)) rfl) (((g1.trans g2).ex R.ok).trans (I0 (K:=X.K) (md:=md) (W0:=W0) (σ:=σ) (env:=env) (i:=i) oq3)) q2
    |_=>exact q2.elim
   |_=>exact q1.elim⟩
end
def a6I:Md->Md
 |.o e=>.c e
 |.v e=>.v e
 |.z e=>.z e
 |.c e=>.c e
 |.st=>.st
 |.scr=>.scr
 |_=>.no
def f7(n:Nat)(cap:List Nat)(md:List Md):List Md:=List.replicate n .no++cap.map λi=>a6I (md.getD i .no)
abbrev jn:Option (Option PV)->Option PV
 |some o=>o
 |none=>none
def oC(n:Nat)(cap:List Nat)(env:b9):b9:=List.replicate n none++cap.map λi=>jn (oA env i)
def mD(md:List Md):Bool:=md.all λm=>match m with
 |.o _=>false
 |.bw=>false
 |.p _=>false
 |.n=>false
 |_=>true
theorem NQ {md:List Md} (h:mD md=true) (i:Nat):(∀e,md.getD i .no≠ .o e)/\md.getD i .no≠ .bw/\(∀e,md.getD i .no≠ .p e)/\md.getD i .no≠ .n:=by
 unfold mD at h
 rw[a1a] at h
 rw[a0c]
 cases e:md[i]? with
 |none=>exact⟨λ_ z=>(by cases z),λz=>(by cases z),λ_ z=>(by cases z),λz=>(by cases z)⟩
 | some m=>
  have:=h m (a0k e)
  cases m<;>first|(cases this;done)|exact⟨λ_ z=>(by cases z),λz=>(by cases z),λ_ z=>(by cases z),λz=>(by cases z)⟩
section
variable{K:Aa}{md:List Md}{W W0 W1 W2:Wd}{H H0 H1 H2:Hp}{σ:St}{env:b9}{a:Ac}
theorem Wok.tmp(w:Wok W H)(nF:¬W.F a)(nS:¬W.S a)(nZ:¬W.Z a){o':HO}:Wok W (bX H a o'):=⟨λb hb=>by
 rw[aL (λz=>by subst z;exact nF hb)];exact w.fF b hb,λb hb=>by
 obtain⟨x1,x2,x3,e1,e2⟩:=w.sS b hb
 exact⟨x1,x2,x3,by rw[aL (λz=>by subst z;exact nS hb)];exact e1,e2⟩,w.dj,λb hb=>by
 rw[aL (λz=>by subst z;exact nZ hb)];exact w.zZ b hb,w.zF,w.zS⟩
theorem Go.tmp(g:Go W H W2 H2)(ha:H a=none)(nF:¬W2.F a)(nS:¬W2.S a)(nZ:¬W2.Z a){o':HO}:Go W H W2 (bX H2 a o'):=
 ⟨g.lF,g.lS,g.nF,g.nS,λb o e s=>by rw[aL (λz=>by subst z;rw[ha] at e;cases e)];exact g.kp b o e s,g.ok.tmp nF nS nZ,g.kk,g.kl,g.lZ,g.nZ⟩
theorem Rl.tmp (R:Rl K md W0 H0 W σ env H) (hb:mD md=true) (h0:H0 a=none) (nF:¬W.F a) (nS:¬W.S a) (nL:¬W.L a) (nZ:¬W.Z a) {o o':HO} (e:H a=some o) (hi:o.imm=false) (hz:∀u q,o≠ .frz u q):Rl K md W0 H0 W σ env (bX H a o'):=by
 have ni:∀b u,H b=some u->u.imm=true->b≠a:=λb u e2 hu z=>by subst z;rw[e] at e2;cases e2;rw[hi] at hu;cases hu
 have nf:∀b,W.F b->b≠a:=λb f z=>by subst z;exact nF f
 have keep:∀ {G:Addr->Prop} {u:V} {y:PV},(∀a,G a->W.F a)->Rep G H u y->Rep G (bX H a o') u y:=λhG r=>r.mono (λ_ h=>h) λb u h e=>by
  rw[aL (h.elim (λg=>nf b (hG b g)) (ni b u e))];exact e
 have keepB:∀ {G:Addr->Prop} {u:HO} {y:PV},(∀a,G a->W.F a)->Body G H u y->Body G (bX H a o') u y:=λhG r=>r.mono (λ_ h=>h) λb u h e=>by
  rw[aL (h.elim (λg=>nf b (hG b g)) (ni b u e))];exact e
 refine⟨R.ok0,R.go.tmp h0 nF nS nZ,R.len,λj y ej=>?_,R.sep,R.bws,R.kk⟩
 obtain⟨u,su,ru⟩:=R.slot j y ej
 refine⟨u,su,?_⟩
 obtain⟨b1,b2,b3,b4⟩:=NQ hb j
 cases hmd:md.getD j .no with
 |no=>trivial
 |bw=>exact absurd hmd b2
 |n=>exact absurd hmd b4
 |p e'=>exact absurd hmd (b3 e')
 |o e'=>exact absurd hmd (b1 e')
 |v e'=>rw[hmd] at ru;exact keep (λ_ g=>El.GF g) ru
 |st=>rw[hmd] at ru;exact ru
 | scr=>
  rw[hmd] at ru
  obtain⟨b,ns,e1,e2,z⟩:=ru
  refine⟨b,ns,e1,e2,?_⟩
  rcases z with ⟨oo,z⟩|z
  ·refine .inl ⟨oo,?_⟩
   rw[aL (λy=>?_)];exact z
   subst y
   rw[e] at z;cases z;exact hz _ _ rfl
  ·exact .inr z
 | z e'=>
  rw[hmd] at ru;obtain⟨b,ob,z1,qb⟩:=ru
  exact⟨b,ob,z1,qb.new,qb.F,by rw[aL (nf b qb.F)];exact qb.at_,keepB (λ_ g=>El.GF g) qb.its⟩
 | c e'=>
  rw[hmd] at ru;obtain⟨b,ob,z1,l,s,h,bd⟩:=ru
  exact⟨b,ob,z1,l,s,by rw[aL (λz=>by subst z;exact nL l)];exact h,keepB (λ_ g=>El.GF g) bd⟩
end
theorem E5 {α:Type} (n:Nat) (cap:List Nat) (f:Nat->α) (d0 d:α) (i:Nat):(List.replicate n d0++cap.map f).getD i d=if i<n then d0 else match cap[i-n]? with|some c=>f c|none=>d:=by
 rw[a0c]
 by_cases h:i<n
 ·rw[if_pos h,a1f (by simpa using h),a2a,if_pos h];rfl
 ·rw[if_neg h,a1g (by simpa using h),a1w,a0h]
  cases cap[i-n]? <;>rfl
theorem CJ {K:PySem.W.Frag} {md:List Md} {W0 W:Wd} {H0 H:Hp} {σ:St} {env:b9} {n:Nat} {cap:List Nat} (R:Rl K md W0 H0 W σ env H) (L:Addr->Prop) (hL:∀a o,H a=some o->L a):Rl K (f7 n cap md) {W0 with L:=L} H0 {W with L:=L} (yO n cap σ) (oC n cap env) H:=by
 have nown:∀i,((f7 n cap md).getD i .no).own=false:=λi=>by
  unfold f7
  rw[E5]
  split
  ·rfl
  ·cases cap[i-n]? with
   |none=>rfl
   |some c=>dsimp only;cases md.getD c .no<;>rfl
 refine⟨⟨R.ok0.fF,R.ok0.sS,R.ok0.dj,R.ok0.zZ,R.ok0.zF,R.ok0.zS⟩,⟨R.go.lF,R.go.lS,R.go.nF,R.go.nS,R.go.kp,⟨R.go.ok.fF,R.go.ok.sS,R.go.ok.dj,R.go.ok.zZ,R.go.ok.zF,R.go.ok.zS⟩,R.go.kk,rfl,R.go.lZ,R.go.nZ⟩,by simp[yO,oC],λi x e=>?_,λi j x y a hij oi=>(by rw[nown i] at oi;cases oi),?_,R.kk⟩
 ·unfold oC at e
  by_cases hi:i<n
  ·rw[a1f (by simpa using hi),a2a] at e
   split at e<;>cases e
  ·rw [a1g (by simpa using hi),a1w,a0h] at e
   cases hc:cap[i-n]? with
   |none=>rw[hc] at e;cases e
   | some c=>
    rw[hc] at e
    have e':jn (oA env c)=some x:=a1i e
    rw[nD] at e'
    have ev:env[c]? =some (some x):=by
     cases q:env[c]? with
     |none=>rw[q] at e';cases e'
     |some o=>rw[q] at e';exact congrArg some e'
    obtain⟨v,sv,r⟩:=R.slot c x ev
    refine⟨v,?_,?_⟩
    ·unfold yO
     rw[a1g (by simpa using hi),a1w,a0h,hc,Option.map_some,a0c,sv];rfl
    ·unfold f7
     rw[E5,if_neg hi,hc]
     dsimp only
     cases hm:md.getD c .no with
     |o e=>rw[hm] at r;obtain⟨a,o,rfl,q⟩:=r;exact⟨a,o,rfl,hL a o q.at_,q.nS,q.at_,q.its⟩
     |v e=>rw[hm] at r;exact r
     |z e=>rw[hm] at r;obtain⟨a,o,rfl,q⟩:=r;exact⟨a,o,rfl,q.new,q.F,q.at_,q.its⟩
     |c e=>rw[hm] at r;obtain⟨a,o,rfl,_,q2,q3,q4⟩:=r;exact⟨a,o,rfl,hL a o q3,q2,q3,q4⟩
     |st=>rw[hm] at r;exact r
     |scr=>rw[hm] at r;exact r
     |_=>trivial
 ·unfold iL
  rw[a2o,a1a,a1a]
  refine .inr λm hm=>?_
  unfold f7 at hm
  rcases a1c.mp hm with z|z
  ·rw[(a7b.mp z).2];rfl
  ·obtain⟨c,_,rfl⟩:=a0s.mp z
   cases md.getD c .no<;>rfl
def oB(g:iS)(tt:gJ)(te:b5)(Q:PV->Prop):List PV->List PV->b9->Prop
 |[],acc,_=>Q (.lst acc)
 |x::xs,acc,env=>g x env λenv1=>tt env1 λk=>Br k (te env1 λv=>oB g tt te Q xs (acc++[v]) env1) (oB g tt te Q xs acc env1)
def yE(s:mS)(g:iS)(tt:gJ)(te:b5)(cp:b9->b9):b5:=λenv Q=>s env λitems=>items.length<=sizeLine/\oB g tt te Q items [] (cp env)
def gO:gJ:=λ_ Q=>Q true
structure VTs(X:Cx)(md:List Md)(ifs:List Expr)(p:gJ):Prop where
 h:N6 X ifs (tY X.K md p)
theorem N6.imp{X:Cx}{e:List Expr}{t t':TT}(h:N6 X e t)(k:∀σ H K,t' σ H K->t σ H K):N6 X e t':=λpins s σ H Q I q=>h pins s σ H Q I (k σ H Q q)
theorem fK{X:Cx}{md:List Md}:VTs X md [] gO:=⟨W8.imp λσ H K=>by
 rintro⟨env,W0,H0,W,Q,R,q,k⟩
 exact k true W H (Go.refl R.ok) q⟩
theorem sF{X:Cx}{md:List Md}{c:Expr}{p:gJ}(h:VT X md c p):VTs X md [c] p:=⟨W9 h.h⟩
theorem JQ {K:PySem.W.Frag} {md mb:List Md} {el eli:El} {s:mS} {g:iS} {tt:gJ} {te:b5} {n:Nat} {cap:List Nat} {σ:St} {H:Hp} {Q:VK} {cp:b9->b9} (hcp:∀env,cp env=oC n cap env) (hle:jL mb (f7 n cap md)=true) (hbl:mD mb=true)
  (h:fY K md (.o el) (yE s g tt te cp) σ H Q):a77 (wD K md eli s) (tX K (f7 n cap md) mb eli g) (tY K mb tt) (fY K mb (.v el) te) n cap σ H Q:=by
 obtain⟨env,W0,H0,W,Q',R,q,k⟩:=h
 refine⟨env,W0,H0,W,_,R,q,λitems W1 H1 J g1 sr q1=>?_⟩
 intro acc hacc
 obtain⟨hsz,q1⟩:=q1
 rw[hcp] at q1
 have h0acc:H0 acc=none:=R.go.free (g1.free hacc)
 have R1:=R.step g1
 have Rb:=CJ (n:=n) (cap:=cap) R1 (λa=>∃o,H1 a=some o) (λa o e=>⟨o,e⟩)
 generalize hW1b:({W1 with L:=λa=>∃o,H1 a=some o}:Wd)=W1b at Rb
 generalize hW0b:({W0 with L:=λa=>∃o,H1 a=some o}:Wd)=W0b at Rb
 have f1:W1b.F=W1.F:=by rw[<- hW1b]
 have s1:W1b.S=W1.S:=by rw[<- hW1b]
 have l1:¬W1b.L acc:=by rw[<- hW1b];rintro⟨o,e⟩;rw[hacc] at e;cases e
 have okb:Wok W1b H1:=Rb.ok
 have nF1:¬W1b.F acc:=λz=>okb.offF hacc z
 have nS1:¬W1b.S acc:=λz=>okb.offS hacc z
 have nZ1:¬W1b.Z acc:=λz=>okb.offZ hacc z
 have z1:W1b.Z=W1.Z:=by rw[<- hW1b]
 have gl:Go W1b H1 W1b (bX H1 acc (.lst [])):=Go.laid okb hacc
 have exW:∀ {Wb:Wd} {Hb:Hp},Go W1b H1 Wb Hb->Ex W1 H1 Wb Hb:=λgb=>by
  have x:=gb.ex okb
  exact⟨λa h=>x.lF a (by rw[f1];exact h),λa o h e=>x.kp a o (by rw[f1];exact h) e,x.im⟩
 refine ⟨λi m σb Hb=>m=items.length-i/\i<=items.length/\∃(envb:b9) (Wb:Wd) (vs:List V) (accx:List PV),Rl K (f7 n cap md) W0b H0 Wb σb envb Hb/\Go W1b H1 Wb Hb/\Hb acc=some (.lst vs)/\¬Wb.F acc/\¬Wb.S acc/\¬Wb.Z acc/\Reps (el.G Wb.F H0) Hb vs accx/\accx.length<=i/\oB g tt te Q' (items.drop i) accx envb,
  ⟨items.length,by simp,a3c _,oC n cap env,W1b,[],[],Rb.step gl,gl,bM,nF1,nS1,nZ1,.nil,a3c _,by simpa using q1⟩,?_⟩
 rintro i m σb Hb ⟨rfl,hi,envb,Wb,vs,accx,Rr,gb,hat,nF,nS,nZ,rs,hal,qb⟩
 by_cases hlt:i<items.length
 ·rw [a3g hlt] at qb
  refine .inr ⟨sr.go i Wb Hb (exW gb) hlt,λσ' H'=>i+1<=items.length/\∃(envb:b9) (Wb:Wd) (vs:List V) (accx:List PV),Rl K (f7 n cap md) W0b H0 Wb σ' envb H'/\Go W1b H1 Wb H'/\H' acc=some (.lst vs)/\¬Wb.F acc/\¬Wb.S acc/\¬Wb.Z acc/\Reps (el.G Wb.F H0) H' vs accx/\accx.length<=i+1/\oB g tt te Q' (items.drop (i+1)) accx envb,
   λσ' H' z=>⟨items.length-(i+1),by omega,rfl,z.1,z.2⟩,λv H3 y=>?_⟩
  obtain⟨g3,x,ex,rx⟩:=sr.yld i Wb Hb v H3 (exW gb) Rr.ok hlt y
  rw[a0a hlt] at ex
  cases ex
  refine⟨envb,W0b,H0,Wb,_,_,Rr.step g3,rx,qb,λenv' σ' R' z=>?_⟩
  refine⟨env',W0b,H0,Wb,_,R',z,λkk W4 H4 g4 q4=>?_⟩
  have g34:=g3.trans g4
  have hat4:=g34.kp acc _ hat nS
  have nF4:=g34.nFF hat nF
  have nS4:=g34.nSS hat nS
  have nZ4:=g34.nZZ hat nZ
  have rs4:Reps (el.G W4.F H0) H4 vs accx:=g34.reps Rr.ok (λ_ h=>El.nS Rr.ok h) (λ_ h=>El.up g34.lF (λ_ z=>z) h) rs
  cases kk with
  | false=>
   dsimp only
   rw[if_neg a0m]
   exact⟨hlt,env',W4,vs,accx,(R'.step g4).less hle,gb.trans g34,hat4,nF4,nS4,nZ4,rs4,by omega,q4⟩
  | true=>
   dsimp only
   rw[if_pos rfl]
   refine⟨env',W0b,H0,W4,_,R'.step g4,q4,λw u W5 H5 g5 r5 q5=>?_⟩
   have hat5:=g5.kp acc _ hat4 nS4
   have nF5:=g5.nFF hat4 nF4
   have nS5:=g5.nSS hat4 nS4
   have nZ5:=g5.nZZ hat4 nZ4
   have rs5:Reps (el.G W5.F H0) H5 vs accx:=g5.reps g4.ok (λ_ h=>El.nS g4.ok h) (λ_ h=>El.up g5.lF (λ_ z=>z) h) rs4
   have gb5:=gb.trans (g34.trans g5)
   have nL5:¬W5.L acc:=by rw[gb5.kl];exact l1
   refine⟨vs,hat5,?_,hlt,env',W5,vs++[u],accx++[w],?_,gb5.tmp hacc nF5 nS5 nZ5,bM,nF5,nS5,nZ5,?_,?_,q5⟩
   ·have:=rs5.len;omega
   ·exact (((R'.step g4).step g5).tmp hbl h0acc nF5 nS5 nL5 nZ5 hat5 rfl (λ_ _ z=>by cases z)).less hle
   ·have:=rs5.append (.cons r5 .nil)
    refine this.mono (λ_ h=>h) λb o hh e=>?_
    rw[aL (λz=>?_)];exact e
    subst z
    rcases hh with hh|hh
    ·exact nF5 (El.GF hh)
    ·rw[hat5] at e;cases e;cases hh
   ·simp;omega
 ·have e:i=items.length:=by omega
  subst e
  rw[a5k] at qb
  refine .inl ⟨sr.stop Wb Hb (exW gb),?_⟩
  have gf:Go W H {Wb with L:=W.L} Hb:=by
   have a:=g1
   refine⟨λb h=>gb.lF b (by rw[f1];exact a.lF b h),λb h=>gb.lS b (by rw[s1];exact a.lS b h),λb h=>?_,λb h=>?_,λb o e s=>?_,⟨gb.ok.fF,gb.ok.sS,gb.ok.dj,gb.ok.zZ,gb.ok.zF,gb.ok.zS⟩,?_,rfl,λb h=>gb.lZ b (by rw[z1];exact a.lZ b h),λb h=>?_⟩
   ·rcases gb.nF b h with z|z
    ·exact a.nF b (by rw[<- f1];exact z)
    ·exact .inr (a.free z)
   ·rcases gb.nS b h with z|z
    ·exact a.nS b (by rw[<- s1];exact z)
    ·exact .inr (a.free z)
   ·refine gb.kp b o (a.kp b o e s) ?_
    rw[s1];exact a.nSS e s
   ·show Wb.K=W.K
    rw[gb.kk,<- hW1b];exact a.kk
   ·rcases gb.nZ b h with z|z
    ·exact a.nZ b (by rw[<- z1];exact z)
    ·exact .inr (a.free z)
  exact k (.lst accx) (.ref acc) _ Hb gf ⟨acc,_,rfl,g1.free hacc,nF,nS,hat,.lst rs,nZ⟩ qb
section
variable{X:Cx}{elt target iter:Expr}{ifs:List Expr}{scope:Scope}{pos:Pos}{N':List Str}{n:Nat}{cap:List Nat}{md mb:List Md}{el eli:El}{s:mS}{g:iS}{tt:gJ}{te:b5}
theorem a5M {cp:b9->b9} (hcp:∀env,cp env=oC n cap env) (hc:X.calm=true) (S:LcOk X.N X.env.scope scope N' n cap) (hle:jL mb (f7 n cap md)=true) (hbl:mD mb=true) (hi:VI X md eli target iter s) (hg:∀C s H fp,VG (b6 X N' scope C s H fp) (f7 n cap md) mb eli target g)
  (ht:∀C s H fp,VTs (b6 X N' scope C s H fp) mb ifs tt) (he:∀C s H fp,VE (b6 X N' scope C s H fp) mb elt (.v el) te) (hs:∀x,foldedSetIterable iter X.env x=pure x:=by intro _;rfl) :
  VE X md (.ListComp elt [⟨target,iter,ifs,0⟩] scope pos) (.o el) (yE s g tt te cp):=
 ⟨(a4H hc S hi.h (λC s H fp=>(hg C s H fp).h) (λC s H fp=>(ht C s H fp).h) (λC s H fp=>(he C s H fp).h) hs).imp λσ H Q h=>JQ hcp hle hbl h⟩
end
theorem Cal.imp{P:Program}{w:World}{K:PySem.W.Frag}{mg:Str->Option Value}{base:Heap}{k:Nat}{x:Str}{ps:List Str}{sp sp':Sp}(C:Cal P w K mg base k x ps sp)(h:∀vs H Q E,sp' vs H Q E->sp vs H Q E):Cal P w K mg base k x ps sp':=by
 obtain⟨f,fd,a,b,c,l,d⟩:=C.ex
 exact⟨f,fd,a,b,c,l,d.imp h⟩
def JZ:PN:=λxs R=>match xs with
 |[.st,.int m]=>0<m/\m<2^250/\∀r:Int,0<=r->r<m->R (.int r)
 |_=>False
def HW:PN:=λxs R=>match xs with
 |[.scr _,.int k]=>0<=k/\k<1000000/\R .st
 |_=>False
theorem Go.state {W:Wd} {H:Hp} {p:Addr} {a b c:Int} (w:Wok W H) (hs:W.S p) (ok:StOk a b c):Go W H W (bX H p (D9 a b c)) where
 lF:=λ_ h=>h
 lS:=λ_ h=>h
 nF:=λ_ h=>.inl h
 nS:=λ_ h=>.inl h
 kp:=λq o e s=>by rw[aL (λz=>by subst z;exact s hs)];exact e
 ok:=⟨λq f=>by rw[aL (λz=>by subst z;exact w.dj q f hs)];exact w.fF q f,λq f=>by
  by_cases h:q=p
  ·subst h;exact⟨a,b,c,bM,ok⟩
  ·obtain⟨x1,x2,x3,e,z⟩:=w.sS q f
   exact⟨x1,x2,x3,by rw[aL h];exact e,z⟩,w.dj,λq f=>by rw[aL (λz=>by subst z;exact w.zS q f hs)];exact w.zZ q f,w.zF,w.zS⟩
 kk:=rfl
 kl:=rfl
 lZ:=λ_ h=>h
 nZ:=λ_ h=>.inl h
section
variable{P:Program}{w:World}{K:Aa}{mg:Str->Option Value}{base:Heap}{k:Nat}{x:Str}{ps:List Str}
theorem O1 (C:Cal P w K mg base k x ps S1):Cal P w K mg base k x ps (DB K [.st,.bw] (.v .fl) JZ):=C.imp λvs H Q E h=>by
 obtain⟨xs,W,R,hk,wk,r,q,kk⟩:=h
 obtain⟨v,x,u,y,rfl,rfl,r1,r2⟩:=r.two
 obtain⟨p,rfl,rfl,hs⟩:=r1
 unfold JZ at q
 cases y with
 | int m=>
  obtain⟨a,b,c,e,ok⟩:=wk.sS p hs
  rw[Rep.ofInt r2]
  exact⟨p,m,a,b,c,rfl,e,ok,q.1,q.2.1,λr a' b' c' h0 h1 ok'=>kk _ _ W _ (Go.state wk hs ok') (.int _) (q.2.2 r h0 h1)⟩
 |_=>exact q.elim
theorem LA (C:Cal P w K mg base k x ps (KG K)):Cal P w K mg base k x ps (DB K [.scr,.bw] .st HW):=C.imp λvs H Q E h=>by
 obtain⟨xs,W,R,hk,wk,r,q,kk⟩:=h
 obtain⟨v,x,u,y,rfl,rfl,r1,r2⟩:=r.two
 obtain⟨p,ns,rfl,rfl,hs⟩:=r1
 unfold HW at q
 cases y with
 | int m=>
  rw[Rep.ofInt r2]
  rw[hk] at hs
  refine⟨p,m,ns,rfl,hs.sq,q.1,q.2.1,λs a b c hn ok=>?_⟩
  have g0:Go W H W (bX H s (D9 a b c)):=Go.laid wk hn
  refine kk .st (.ref s) {W with S:=λb=>W.S b\/b=s} _ ⟨λ_ h=>h,λ_ h=>.inl h,λ_ h=>.inl h,λb h=>h.elim .inl λz=>.inr (by rw[z];exact hn),λb o e hb=>g0.kp b o e hb,⟨g0.ok.fF,λz h=>?_,λb f h=>?_,g0.ok.zZ,g0.ok.zF,λb f h=>h.elim (g0.ok.zS b f) λz=>by subst z;exact wk.offZ hn f⟩,rfl,rfl,λ_ h=>h,λ_ h=>.inl h⟩ ⟨s,rfl,rfl,.inr rfl⟩ q.2.2
  ·rcases h with h|h
   ·exact g0.ok.sS z h
   ·subst h;exact⟨a,b,c,bM,ok⟩
  ·rcases h with h|h
   ·exact wk.dj b f h
   ·subst h;exact wk.offF hn f
 |_=>exact q.elim
def CQ(K:Aa):Sp:=λvs H Q _=>∃(a:Ac) (ns:List Int),vs=[.ref a]/\ScrAt K H a ns/\ns.length<=63/\∀H',Q (.bl true) H'
theorem RV{H:Hp}{a:Addr}{ns:List Int}(h:dO K H a (ns.map V.int))(o:T3 H):ScrAt K H a ns:=by
 rcases h with (h|h)|h
 ·rcases o a with z|⟨u,q,z⟩|z<;>(rw[z] at h;cases h)
 ·exact .inl h
 ·exact .inr h
theorem TJ{p:PN}(C:Cal P w K mg base k x ps (DB K [.scr] (.v .fl) p))(h:∀ns:List Int,ns.length<=63->p [.scr ns] λr=>r= .bl true):Cal P w K mg base k x ps (CQ K):=C.imp λvs H Q E z=>by
 obtain⟨a,ns,rfl,hs,hl,q⟩:=z
 refine⟨[.scr ns],⟨K,λ_=>False,λ_=>False,λ_=>False,λ_=>False⟩,_,rfl,⟨λ_ z=>z.elim,λ_ z=>z.elim,λ_ z=>z.elim,λ_ z=>z.elim,λ_ z=>z.elim,λ_ z=>z.elim⟩,.cons ⟨a,ns,rfl,rfl,hs⟩ .nil,h ns hl,λx v W' H' _ r e=>?_⟩
 subst e
 rw[Rep.ofBl r]
 exact q H'
end
section
variable{X:Cx}{md:List Md}{el:El}{i:Nat}{tg:Expr}
theorem fD(h:QG X tg (l6 i))(hm:iL (md.set i (.v el))=true)(hl:i<md.length):VG X md (md.set i (.v el)) el tg (aF i):=⟨h.h.imp λv σ H Q=>by
 rintro⟨env,W0,H0,W,x,R,Rr,r,q,k⟩
 unfold aF at q
 rw[gH] at q
 exact k _ _ (Rr.set (Go.refl Rr.ok) (m:=.v el) r hm hl) q⟩
end
def C3:P2:=C4 λi j=>.bl (decide (i=j))
def QH:P2:=C4 λi j=>.bl (!decide (i=j))
theorem DU{i j:Int}:decide (V.int i=V.int j)=decide (i=j):=by
 by_cases h:i=j
 ·subst h;simp
 ·rw[a1y h,a1y (λz=>h (V.int.inj z))]
theorem rX:SimOp a6Y (.v .fl) C3:=⟨λB W H x y px py Q K w rx ry q k=>by
 cases px with
 | int i=>cases py with
  |int j=>refine⟨by rw[rx.ofInt,ry.ofInt];rfl,?_⟩;rw[rx.ofInt,ry.ofInt,DU];exact k.atom w (.bl _) q
  |_=>exact q.elim
 |_=>exact q.elim⟩
theorem WS:SimOp a71 (.v .fl) QH:=⟨λB W H x y px py Q K w rx ry q k=>by
 cases px with
 | int i=>cases py with
  |int j=>refine⟨by rw[rx.ofInt,ry.ofInt];rfl,?_⟩;rw[rx.ofInt,ry.ofInt,DU];exact k.atom w (.bl _) q
  |_=>exact q.elim
 |_=>exact q.elim⟩
def dA:P2:=C4 λi j=>.int (i+j)
def l8:P2:=C4 λi j=>.int (i-j)
def u7:P2:=pI yF λi j=>.int (i*j)
def A4:P2:=pI (λ_ j=>0<j) λi j=>.int (i % j)
def qY:P2:=pI yG λi j=>.int (i^j.toNat)
def MI:P2:=C4 λi j=>.bl (decide (i<j))
def ES:P2:=C4 λi j=>.bl (decide (i<=j))
def yW:P2:=C4 λi j=>.bl (decide (j<i))
def gM:PV->(PV->Prop)->Prop:=pU λi=>.int (-i)
section
variable{X:Cx}{md:List Md}{a:Expr}{pa:b5}{pos:Pos}
theorem gI(ha:VE X md a .bw pa):VE X md (.UnaryOp .USub a pos) (.v .fl) (C6 gM pa):=a5N KA (λB W H x px Q K w r q k=>by
 cases px with
 |int i=>exact⟨i,r.ofInt,k.atom w (.int _) q⟩
 |_=>exact q.elim) ha
theorem kO:SimOp (yY λi j=>.int (i+j)) (.v .fl) dA:=RX
theorem CL:SimOp (yY λi j=>.int (i-j)) (.v .fl) l8:=RX
theorem WO:SimOp (rI yF λi j=>.int (i*j)) (.v .fl) u7:=RW
theorem a53:SimOp (rI (λ_ j=>0<j) λi j=>.int (i % j)) (.v .fl) A4:=RW
theorem RU:SimOp (rI yG λi j=>.int (i^j.toNat)) (.v .fl) qY:=RW
theorem a7N:SimOp (yY λi j=>.bl (decide (i<j))) (.v .fl) MI:=IF
theorem a61:SimOp (yY λi j=>.bl (decide (i<=j))) (.v .fl) ES:=IF
theorem a31:SimOp (yY λi j=>.bl (decide (j<i))) (.v .fl) yW:=IF
end
theorem LZ{G:Addr->Prop}{H:Hp}(m:Nat):Reps G H (tV m) (d4 0 m):=by
 have:tV m=((List.range m).map λ(i:Nat)=>(i:Int)).map V.int:=by simp[tV]
 have h2:d4 0 m=((List.range m).map λ(i:Nat)=>(i:Int)).map PV.int:=by simp[d4]
 rw[this,h2];exact tF _
def wO(a:b5):b5:=λenv Q=>a env λx=>match x with
 |.int j=>0<=j/\j<=1000/\Q (.lst (d4 0 j.toNat))
 |_=>False
section
variable{X:Cx}{md:List Md}{a:Expr}{pa:b5}{p1 p2 pos1 pos2:Pos}
theorem SI (hc:X.calm=true) (hg:X.env.scope.names.lookup ("list" : Str)=some .globalImplicit) (hm:X.mg "list"=none) (hg2:X.env.scope.names.lookup ("range" : Str)=some .globalImplicit) (hm2:X.mg "range"=none) (ha:VE X md a .bw pa)
  (he:starEach [a] X.env=(false,eval a X.env)::starEach [] X.env:=by rfl) (hpl:(backTo pos2 (starEach [] X.env)).any (·.1)=false:=by rfl)
  (he1:starEach [.Call (.Name "range" p2) [a] [] pos2] X.env=(false,eval (.Call (.Name "range" p2) [a] [] pos2) X.env)::starEach [] X.env:=by rfl) (hpl1:(backTo pos1 (starEach [] X.env)).any (·.1)=false:=by rfl) :
  VE X md (.Call (.Name "list" p1) [.Call (.Name "range" p2) [a] [] pos2] [] pos1) (.o .fl) (wO pa):=
 ⟨(jB (TF hc) hg hm qE (iB (jB TH hg2 hm2 NU (iB ha.h lX he) (by decide) (by decide) he hpl) lX he1) (by decide) (by decide) he1 hpl1).imp λσ H K=>by
  rintro⟨env,W0,H0,W,Q,R,q,k⟩
  refine⟨env,W0,H0,W,_,R,q,λx v W1 H1 g1 r1 q1=>?_⟩
  cases x with
  | int j=>
   have hv:=Rep.ofInt r1
   subst hv
   refine⟨j,rfl,λp hp=>⟨p,j,rfl,bM,⟨q1.1,q1.2.1⟩,λl hl=>?_⟩⟩
   have g2:Go W1 H1 W1 (bX H1 p (.rng 0 j)):=Go.laid g1.ok hp
   exact (k.after (g1.trans g2)).newL g2.ok hl (LZ _) q1.2.2
  |_=>exact q1.elim⟩
end
open PySem
def B2(xs:Array Nat):Prop:=xs.toList.Pairwise (· < ·)
theorem B2.lt{xs:Array Nat}(h:B2 xs){i k:Nat}{a b:Nat}(hik:i<k)(ha:xs[i]? =some a)(hb:xs[k]? =some b):a<b:=by
 unfold B2 at h
 rw[a2c] at h
 rw[<- a3i] at ha hb
 obtain⟨h1,rfl⟩:=a0e.mp ha
 obtain⟨h2,rfl⟩:=a0e.mp hb
 exact h i k h1 h2 hik
theorem vN (xs:Array Nat) (j:Nat) (hr:B2 xs):∀(fuel lo hi:Nat),lo<=hi->hi<=xs.size->hi-lo<=fuel->(∀i a,i<lo->xs[i]? =some a->a<j)->(∀i a,hi<=i->xs[i]? =some a->j<=a)->
  SetTable.below.go xs j fuel lo hi<=xs.size/\(∀i a,i<SetTable.below.go xs j fuel lo hi->xs[i]? =some a->a<j)/\∀i a,SetTable.below.go xs j fuel lo hi<=i->xs[i]? =some a->j<=a
 | 0,lo,hi,h1,h2,h3,h4,h5=>by
  have:lo=hi:=by omega
  subst this
  rw[SetTable.below.go]
  exact⟨h2,h4,h5⟩
 | fuel+1,lo,hi,h1,h2,h3,h4,h5=>by
  rw[SetTable.below.go]
  by_cases hlt:lo<hi
  ·rw [if_pos hlt]
   dsimp only
   have hm:(lo+hi) / 2<xs.size:=by omega
   have hg:xs.getD ((lo+hi) / 2) j=xs[(lo+hi) / 2]:=by simp[Array.getD,hm]
   rw[hg]
   by_cases hc:xs[(lo+hi) / 2]<j
   ·rw [if_pos hc]
    refine vN xs j hr fuel ((lo+hi) / 2+1) hi ∅ h2 ∅ (λi a hi' ha=>?_) h5
    by_cases hi2:i=(lo+hi) / 2
    ·subst hi2
     rw[a0v hm] at ha
     cases ha;exact hc
    ·exact a2r (hr.lt (by omega:i<(lo+hi) / 2) ha (a0v hm)) hc
   ·rw [if_neg hc]
    refine vN xs j hr fuel lo ((lo+hi) / 2) ∅ ∅ ∅ h4 (λi a hi' ha=>?_)
    by_cases hi2:i=(lo+hi) / 2
    ·subst hi2
     rw[a0v hm] at ha
     cases ha;omega
    ·have:=hr.lt (by omega:(lo+hi) / 2<i) (a0v hm) ha
     omega
  ·rw[if_neg hlt]
   have:lo=hi:=by omega
   subst this
   exact⟨h2,h4,h5⟩
theorem vP {xs:Array Nat} (hr:B2 xs) (j:Nat):SetTable.below xs j<=xs.size/\(∀i a,i<SetTable.below xs j->xs[i]? =some a->a<j)/\∀i a,SetTable.below xs j<=i->xs[i]? =some a->j<=a:=
 vN xs j hr xs.size 0 xs.size (a3c _) (a0o _) ∅ (λi a h=>by omega) λi a h ha=>by
  have:=(Array.getElem?_eq_some_iff.mp ha).1
  omega
theorem vQ{xs:Array Nat}(hr:B2 xs):SetTable.below xs 0=0:=by
 obtain⟨h1,h2,_⟩:=vP hr 0
 refine Nat.eq_zero_of_not_pos λh=>?_
 have:=h2 0 xs[0] h (a0v ∅)
 omega
theorem vO {xs:Array Nat} (hr:B2 xs) {i j:Nat} (h:xs[i]? =some j):SetTable.below xs (j+1)=i+1:=by
 obtain⟨h1,h2,h3⟩:=vP hr (j+1)
 have hi:i<xs.size:=(Array.getElem?_eq_some_iff.mp h).1
 refine Nat.le_antisymm (a4b λhlt=>?_) (a4b λhlt=>?_)
 ·have hs:i+1<xs.size:=by omega
  have a1:=h2 (i+1) _ hlt (a0v hs)
  have a2:=hr.lt (a2p i) h (a0v hs)
  omega
 ·have:=h3 i j ∅ h
  omega
theorem IE {xs:Array Nat} (hr:B2 xs) {j:Nat} (hj:xs[SetTable.below xs j]? ≠some j):B2 (SetTable.insertAt xs (SetTable.below xs j) j):=by
 obtain⟨h1,h2,h3⟩:=vP hr j
 unfold B2 SetTable.insertAt
 have e1:(xs.extract 0 (SetTable.below xs j)).toList=xs.toList.take (SetTable.below xs j):=by simp
 have e2:(xs.extract (SetTable.below xs j) xs.size).toList=xs.toList.drop (SetTable.below xs j):=by
  simp[Array.toList_extract]
  apply a6k
  simp
 rw[a4s,a7m,e1,e2]
 have hp:xs.toList.Pairwise (· < ·):=hr
 have ha:∀a∈xs.toList.take (SetTable.below xs j),a<j:=λa ha=>by
  obtain⟨i,hi,rfl⟩:=a2d ha
  rw[a2h] at hi
  refine h2 i _ ∅ ?_
  rw[List.getElem_take,<- a3i]
  exact a0a _
 have hb:∀b∈xs.toList.drop (SetTable.below xs j),j<b:=λb hb=>by
  obtain⟨i,hi,rfl⟩:=a2d hb
  rw[a6j] at hi
  rw[List.getElem_drop]
  have hlt:SetTable.below xs j+i<xs.toList.length:=by omega
  have g:xs[SetTable.below xs j+i]? =some (xs.toList[SetTable.below xs j+i]):=by rw[<- a3i];exact a0a _
  have a1:=h3 _ _ (Nat.le_add_right _ _) g
  refine Nat.lt_of_le_of_ne a1 λz=>?_
  cases i with
  |zero=>exact hj ((show xs[SetTable.below xs j]? =_ from g).trans (congrArg some z.symm))
  | succ i=>
   have hs:SetTable.below xs j<xs.size:=by simp at hlt;omega
   have a2:=h3 _ _ (a0o _) (a0v hs)
   have a3:=hr.lt (by omega:SetTable.below xs j<SetTable.below xs j+(i+1)) (a0v hs) g
   omega
 rw[a4m,a4m]
 refine⟨⟨hp.sublist (List.take_sublist _ _),by simp,λa h b hb'=>by simp at hb';subst hb';exact ha a h⟩,hp.sublist (List.drop_sublist _ _),λa h b hb'=>?_⟩
 rcases a1c.mp h with z|z
 ·exact a2r (ha a z) (hb b hb')
 ·simp at z;subst z;exact hb b hb'
def N7(bt:Bool)(t:SetTable):Prop:=bt=true\/(t.led=true/\(t.plain=true->B2 t.place))
theorem FM{t:SetTable}{j:Nat}(h:∀i,t.slot j≠ .live i):t.place[SetTable.below t.place j]? ≠some j:=λe=>by
 refine h (SetTable.below t.place j) ?_
 unfold SetTable.slot
 dsimp only
 rw[if_pos (by rw[e];simp)]
theorem xE {t:SetTable} {f:Nat->Int} {h:Int}:∀(fuel:Nat) (p:SetTable.Probe) (j:Nat) (d:Option Nat),SetTable.probe.go t f h fuel p=some (.empty j d)->(∀x,p.dummy=some x->∀i,t.slot x≠ .live i)->
  (∀i,t.slot j≠ .live i)/\∀x,d=some x->∀i,t.slot x≠ .live i
 |0,p,j,d,e,_=>by rw[SetTable.probe.go] at e;cases e
 | fuel+1,p,j,d,e,hp=>by
  rw[SetTable.probe.go] at e
  cases hs:t.slot p.j with
  | empty=>
   rw[hs] at e
   simp only[a7j,SetTable.Met.empty.injEq] at e
   obtain⟨e1,e2⟩:=e
   subst e1 e2
   exact⟨λi z=>(by rw[hs] at z;cases z),hp⟩
  | dummy=>
   rw[hs] at e
   refine xE fuel _ j d e λx hx i=>?_
   have:(t.advance {p with dummy:=some p.j}).dummy=some p.j:=by
    unfold SetTable.advance
    split<;>rfl
   rw[this] at hx
   cases hx
   rw[hs];intro z;cases z
  | live k=>
   rw[hs] at e
   dsimp only at e
   split at e
   ·cases e
   ·refine xE fuel _ j d e λx hx=>hp x ?_
    have:(t.advance p).dummy=p.dummy:=by
     unfold SetTable.advance
     split<;>rfl
    rw[this] at hx;exact hx
theorem BL {t:SetTable} {h:Int} {j:Nat} {b:Bool} (e:t.freeSlot h=some (j,b)):t.place[SetTable.below t.place j]? ≠some j:=by
 unfold SetTable.freeSlot at e
 split at e
 ·rename_i j' d hp
  have:=xE _ _ _ _ (show SetTable.probe.go t _ h _ _=_ from hp) (λx hx=>by cases hx)
  simp only[a7j,Prod.mk.injEq] at e
  obtain⟨e1,e2⟩:=e
  cases d with
  |none=>simp at e1;subst e1;exact FM this.1
  |some x=>simp at e1;subst e1;exact FM (this.2 _ rfl)
 ·cases e
theorem M8 {bt:Bool} {t:SetTable} {es:Array (Int×Value)} {h:Int} {x:Value} (hw:N7 bt t):N7 bt (layNew t es h x).2.1:=by
 rcases hw with hw|⟨hl,hp⟩
 ·exact .inl hw
 ·refine .inr ?_
  unfold layNew
  cases e:t.freeSlot h with
  |none=>exact⟨hl,λz=>by cases z⟩
  | some q=>
   obtain⟨j,b⟩:=q
   dsimp only
   unfold SetTable.orStandIn
   split
   ·exact⟨hl,λz=>IE (hp z) (BL e)⟩
   ·exact⟨hl,λz=>by cases z⟩
theorem E8 {mask finger moves:Nat} {led plain:Bool} {hs:Array Int} {t:SetTable} {o:Array Nat} (e:SetTable.laid mask finger moves led plain hs=some (t,o)):t.led=led/\t.plain=plain/\B2 t.place:=by
 unfold SetTable.laid at e
 cases h:SetTable.layClean mask hs with
 |none=>rw[h] at e;cases e
 | some owner=>
  rw[h] at e
  simp only[Option.pure_def,Option.bind_eq_bind,Option.bind_some,a7j,Prod.mk.injEq] at e
  obtain⟨e1,e2⟩:=e
  subst e1
  refine⟨rfl,rfl,?_⟩
  unfold B2
  dsimp only
  show ((_:List Nat)).Pairwise _
  rw[a4k]
  rw[List.pairwise_filterMap]
  refine List.pairwise_lt_range.imp fun {a b} hab x hx y hy=>?_
  simp only[a0u] at hx hy
  obtain⟨_,_,rfl⟩:=hx
  obtain⟨_,_,rfl⟩:=hy
  exact hab
theorem FF {bt:Bool} {t:SetTable} {es:Array (Int×Value)} {n:Nat} (hw:N7 bt t):N7 bt (relayAll t es n).2.1:=by
 rcases hw with hw|⟨hl,hp⟩
 ·exact .inl hw
 ·refine .inr ?_
  unfold relayAll
  cases e:t.relaid (es.map (·.1)) n with
  |none=>exact⟨hl,λz=>by cases z⟩
  | some q=>
   obtain⟨t',order⟩:=q
   dsimp only
   obtain⟨a1,a2,a3⟩:=E8 (show SetTable.laid _ _ _ _ _ _=_ from e)
   split
   ·exact⟨a1.trans hl,λ_=>a3⟩
   ·exact⟨hl,λz=>by cases z⟩
def d3:Value->Int
 |.int k _=>k
 |_=>0
def bW (P:Program) (w:World) (a:Addr) (S:Int->Bool) (n:Nat) (h:Heap):Prop:=
 ∃ o es ep t,h.get? a=some o/\o.ExactSet/\o.data= .set es ep t/\ElemsOf (intKind P w) es.toList/\(∀k,S k=true↔∃e∈es.toList,(intKind P w).is k e.2=true)/\es.size<scanBound/\t.fits es.size=true/\es.size=n/\
  N7 (w.params.followText "set-order") t/\(es.toList.map λe=>d3 e.2).Nodup
section
variable{prog:Program}{w:World}{A:Around}{E:Value->Ab->Prop}{s:Ab}
theorem d5{k:Int}{v:Value}(h:(intKind prog w).is k v=true):∃t,v= .int k t:=Value.isInt_shape (k:=k) (v:=v) h
theorem zI {g:Bool->Sem Unit} (hg:∀(b:Bool) (s₁:Shared) (Q':Unit->Shared->Prop),Q' () s₁->wpAny (model prog w) A (g b) Q' E s₁)
  {a:Ac} {o:Obj} {es:Array (Int×Value)} {ep:Nat} {t:SetTable} (ho:s.heap.get? a=some o) (hex:o.ExactSet) (hd:o.data= .set es ep t)
  {es1:Array (Int×Value)} {t2:SetTable} {S':Int->Bool} (hel1:ElemsOf (intKind prog w) es1.toList) (hmem1:∀k',S' k'=true↔∃e∈es1.toList,(intKind prog w).is k' e.2=true)
  (hb1:es1.size<scanBound) (hf2:t2.fits es1.size=true) (hw2:N7 (w.params.followText "set-order") t2) (hnd:(es1.toList.map λe=>d3 e.2).Nodup) {wasDummy:Bool} {R:Option Bool->Ab->Prop}
  (h:∀h',Heap.SameBut a s.heap h'->bW prog w a S' es1.size h'->R (some true) {s with heap:=h'}) :
  wpAny (model prog w) A (do
    storeSet a es1 t2
    if (!wasDummy&&t2.tooFull)=true then do
      g (relayAll t2 es1 (SetTable.grown es1.size)).2.2
      storeSet a (relayAll t2 es1 (SetTable.grown es1.size)).1 (relayAll t2 es1 (SetTable.grown es1.size)).2.1
      pure (some true)
     else pure (some true)) R E s:=by
 refine a0b (a4o ho hd ?_ (a5m hb1))
 obtain⟨ho1,hS1⟩:=a6r (knd:=intKind prog w) ho hex hd hel1 hmem1 hb1 hf2
 have hsb1:=a2s s.heap a (Obj.putSet es1 t2)
 split
 ·have hp:=relayAll_perm t2 es1 (SetTable.grown es1.size)
  have hfr:=relayAll_fits t2 es1 (SetTable.grown es1.size)
  have hwr:N7 (w.params.followText "set-order") (relayAll t2 es1 (SetTable.grown es1.size)).2.1:=FF hw2
  generalize hRl:relayAll t2 es1 (SetTable.grown es1.size)=Rl at hp hfr hwr ⊢
  obtain⟨es2,t3,gave2⟩:=Rl
  dsimp only at hp hfr hwr ⊢
  have hel2:ElemsOf (intKind prog w) es2.toList:=hel1.perm hp
  have hmem2:∀k',S' k'=true↔∃e∈es2.toList,(intKind prog w).is k' e.2=true:=λk'=>(hmem1 k').trans ⟨λ⟨e,he,q⟩=>⟨e,hp.mem_iff.mpr he,q⟩,λ⟨e,he,q⟩=>⟨e,hp.mem_iff.mp he,q⟩⟩
  have hsz:es2.size=es1.size:=by rw[<- a0w,hp.length_eq,a0w]
  have hb2:es2.size<scanBound:=by rw[hsz];exact hb1
  refine a0b (hg _ _ _ ?_)
  refine a0b (a4o ho1 rfl ?_ (a5m hb2))
  obtain⟨ho2,_⟩:=a6r (knd:=intKind prog w) ho1 hex rfl hel2 hmem2 hb2 hfr
  exact a0d (h _ (hsb1.trans (a2s _ a _)) ⟨_,es2,_,t3,ho2,hex,rfl,hel2,hmem2,hb2,hfr,hsz,hwr,(hp.map _).nodup_iff.mpr hnd⟩)
 ·exact a0d (h _ hsb1 ⟨_,es1,_,t2,ho1,hex,rfl,hel1,hmem1,hb1,hf2,rfl,hw2,hnd⟩)
theorem n0 {a:Addr} {S:Int->Bool} {n:Nat} {k:Int} {x:Value} {Q:Bool->Shared->Prop} (hkey:(intKind prog w).is k x=true) (hsc:x.scannable=true) (hS:bW prog w a S n s.heap)
  (hroom:n+1<scanBound)
  (h:∀h',Heap.SameBut a s.heap h'->bW prog w a (λk'=>S k'||decide (k'=k)) (if S k then n else n+1) h'->Q (!S k) {s with heap:=h'}) :
  wpAny (model prog w) A (setAddHashed a x ((intKind prog w).hash k)) Q E s:=by
 obtain⟨o,es,ep,t,ho,hex,hd,hel,hmem,hb,hf,hn,hwk,hnd⟩:=hS
 have hb1:es.size+1<scanBound:=by rw[hn];exact hroom
 unfold setAddHashed setAddHashedIn
 refine a2e (a0b (a3p ho hd hf ?_))
 dsimp only
 rw[byScan_of hsc hb hel]
 simp only[↓reduceIte]
 unfold setAddByScan
 refine a0b ?_
 refine a0b (a3q ?_)
 refine a0b (wpAny_setScan_of hkey ho hd hf hel ?_)
 cases hr:List.findIdx? (λe=>(intKind prog w).is k e.2) es.toList with
 | some j=>
  dsimp only
  obtain⟨hj,hpj,_⟩:=a7g.mp hr
  have hSk:S k=true:=(hmem k).mpr ⟨es.toList[j],a1h hj,hpj⟩
  refine a0d (a0d ?_)
  have e:s={s with heap:=s.heap}:=by cases s;rfl
  have:=h s.heap (a4r a s.heap) ⟨o,es,ep,t,ho,hex,hd,hel,λk'=>by
   rw[a2o,a5c,<- hmem k']
   exact⟨λhk=>hk.elim id (λe=>e▸hSk),.inl⟩,hb,hf,by rw[hSk];exact hn,hwk,hnd⟩
  rw[hSk] at this;rw[e];exact this
 | none=>
  dsimp only
  have hSk:S k=false:=by
   cases hk:S k with
   |false=>rfl
   |true=>obtain⟨e,he,hp⟩:=(hmem k).mp hk;have:=List.findIdx?_eq_none_iff.mp hr e he;rw[hp] at this;exact Bool.noConfusion this
  have hgw:∀(b:Bool) {s₁:Shared} {Q':Unit->Shared->Prop},Q' () s₁->wpAny (model prog w) A (match b with|true=>rule "set.scan.the-table-gave-way" |false=>pure ()) Q' E s₁:=
   λb s₁ Q' hq=>by cases b<;>first|exact a0d hq|exact a3q hq
  have hperm:=layNew_perm t es ((intKind prog w).hash k) x
  have hfits:=layNew_fits t es ((intKind prog w).hash k) x
  have hwk1:N7 (w.params.followText "set-order") (layNew t es ((intKind prog w).hash k) x).2.1:=M8 hwk
  generalize hL:layNew t es ((intKind prog w).hash k) x=L at hperm hfits hwk1 ⊢
  obtain⟨es1,t1,wasDummy,gave⟩:=L
  dsimp only at hperm hfits hwk1 ⊢
  rw[a7m] at hperm
  have hel1:ElemsOf (intKind prog w) es1.toList:=(hel.push hkey hsc).perm hperm
  have hmem1:∀k',(S k'||decide (k'=k))=true↔∃e∈es1.toList,(intKind prog w).is k' e.2=true:=mem_push_iff hkey hmem hperm
  have hb1':es1.size<scanBound:=by rw[<- a0w,hperm.length_eq,a1l,a0w];simpa using hb1
  have hnd1:(es1.toList.map λe=>d3 e.2).Nodup:=by
   rw[(hperm.map λe=>d3 e.2).nodup_iff,a1k,List.nodup_append]
   refine⟨hnd,by simp,λa ha b hb'=>?_⟩
   simp only[a0i,a5u,a5t] at hb'
   subst hb'
   obtain⟨tx,rfl⟩:=d5 hkey
   obtain⟨e,he,rfl⟩:=a0s.mp ha
   obtain⟨⟨k2,hk2,_⟩,_⟩:=hel e he
   obtain⟨t2,e2⟩:=d5 hk2
   rw[e2]
   intro z
   have z':k2=k:=z
   subst z'
   have:=(hmem k2).mpr ⟨e,he,hk2⟩
   rw[hSk] at this;cases this
  refine a0b (hgw _ ?_)
  have hsz1:es1.size=n+1:=by rw[<- a0w,hperm.length_eq,a1l,a0w,hn];rfl
  have hend:∀h',Heap.SameBut a s.heap h'->bW prog w a (λk'=>S k'||decide (k'=k)) es1.size h'->Q true {s with heap:=h'}:=by
   intro h' hsb hS';have:=h h' hsb;rw[hSk] at this;rw[hsz1] at hS';exact this hS'
  split
  ·refine a0b ?_
   rw[hashByValue_scannable 8 hsc]
   refine a0d ?_
   refine zI ?_ ho hex hd hel1 hmem1 hb1' ?_ ?_ hnd1 ?_
   ·intro b s₁ Q' hq;cases b<;>first|exact a0d hq|exact a3q hq
   ·split
    ·exact hfits
    ·exact SetTable.fits_plain_off hfits
   ·split
    ·exact hwk1
    ·exact hwk1.imp id λz=>⟨z.1,λq=>by cases q⟩
   ·intro h' hsb hS';dsimp only;exact a0d (hend h' hsb hS')
  ·refine a0b (a0d ?_)
   simp only[↓reduceIte]
   refine zI ?_ ho hex hd hel1 hmem1 hb1' hfits hwk1 hnd1 ?_
   ·intro b s₁ Q' hq;cases b<;>first|exact a0d hq|exact a3q hq
   ·intro h' hsb hS';dsimp only;exact a0d (hend h' hsb hS')
theorem Q5 {Q:Value->Shared->Prop}
  (h:∀o:Obj,bW prog w s.heap.objs.size (λ_=>false) 0 (s.heap.push o)->Q (.ref s.heap.objs.size) {s with heap:=s.heap.push o}) :
  wpAny (model prog w) A (newSet (.type "set")) Q E s:=by
 unfold newSet setsByText
 refine a0b (a0b (a3t (a0d ?_)))
 dsimp only
 simp only[newObj]
 refine a0b (wpAny_alloc (a0d (h _ ⟨_,#[],0,_,a1e _ rfl,⟨rfl,rfl,rfl⟩,rfl,λe he=>by simp at he,λk=>by simp,by decide,by rfl,rfl,?_,by simp⟩)))
 show N7 (w.params.followText "set-order") (SetTable.fresh 0 0 (!w.params.followText "set-order"))
 cases w.params.followText "set-order" with
 |true=>exact .inl rfl
 |false=>exact .inr ⟨rfl,λ_=>List.Pairwise.nil⟩
end
open PySem
theorem aX:Slot "set_iterator" "__next__" "set_iterator.__next__":=
 .of (owner:="set_iterator") (n:="__next__") (by rw[typeLookup_type,a6z];kernel_rfl) ⋯ ⋯ ⋯
  (by first|exact .inl ⋯|exact .inr ⋯) (by rw[a7n];kernel_rfl)
theorem dG:entryFor table "set_iterator.__next__"=some Builtin.«set_iterator.__next__»:=entryFor_of_fast (by kernel_rfl)
theorem dX(a:Value):argsOk "set_iterator.__next__" ⟨[a],[]⟩:=by unfold argsOk;kernel_rfl
theorem vY:entryFor table "set.__iter__"=some Builtin.«frozenset.__iter__»:=entryFor_alias (id':="frozenset.__iter__") (by kernel_rfl) rfl ⋯ (by kernel_rfl)
section
variable{prog:Program}{w:World}{A:Around}{E:Value->Ab->Prop}{s:Ab}
theorem o4{it:Addr}{o:Obj}{vs:Array Value}{Q:Array Value->Shared->Prop}(ho:s.heap.get? it=some o)(hd:o.data= .fields vs)(h:Q vs s):wpAny (model prog w) A (fieldsOf (.ref it)) Q E s:=by
 unfold fieldsOf
 refine a0b (wpAny_load ho ?_)
 rw[hd]
 exact a0d h
structure SetAt(h:Heap)(a:Addr)(es:Array (Int×Value))(ep:Nat)(t:SetTable):Prop where
 ex:∃o,h.get? a=some o/\o.ExactSet/\o.data= .set es ep t
 fit:t.fits es.size=true
theorem SetAt.state{a:Addr}{es:Array (Int×Value)}{ep:Nat}{t:SetTable}{Q:(Array (Int×Value)×Nat×SetTable)->Shared->Prop}(x:SetAt s.heap a es ep t)(h:Q (es,ep,t) s):wpAny (model prog w) A (setState a) Q E s:=by
 obtain⟨o,ho,_,hd⟩:=x.ex
 exact a3p ho hd x.fit h
theorem SetAt.keeps{h h':Heap}{a:Addr}{es:Array (Int×Value)}{ep:Nat}{t:SetTable}(x:SetAt h a es ep t)(k:∀o,h.get? a=some o->h'.get? a=some o):SetAt h' a es ep t:=by
 obtain⟨o,ho,q⟩:=x.ex
 exact⟨⟨o,k o ho,q⟩,x.fit⟩
def D8(first:Value)(i:Nat)(a:Ac)(n ep:Nat):Obj:={cls:=.type "set_iterator",data:=.fields #[first,.int i 0,.ref a,.int n 0,.int ep 0]}
theorem rW {it a:Addr} {es:Array (Int×Value)} {ep slot nx i:Nat} {t:SetTable} {x:Value} {Q:Option Value->Shared->Prop} (ho:s.heap.get? it=some (D8 (.int slot 0) i a es.size ep)) (hS:SetAt s.heap a es ep t)
  (hn:∀(E':Value->Ab->Prop) (Q:Option (Value×Nat)->Ab->Prop),Q (some (x,nx)) s->wpAny (model prog w) A.in1 (setNext a slot i ep) Q E' s)
  (hQ:∀h',Heap.SameBut it s.heap h'->h'.get? it=some (D8 (.int nx 0) (i+1) a es.size ep)->Q (some x) {s with heap:=h'}):wpAny (model prog w) A (pyNext (.ref it)) Q E s:=by
 unfold pyNext
 have hT:s.TypeIs (.ref it) "set_iterator":=⟨_,ho,rfl⟩
 refine a0b (wpAny_attempt (a4g (name:=Str.ofString "__next__") hT aX
  (a3e aX hT dG ?_ (dX _))))
 unfold Builtin.«set_iterator.__next__»
 show wpAny _ A.in1 (fieldsOf (.ref it) >>=_) _ _ s
 refine a0b (o4 ho rfl ?_)
 show wpAny _ A.in1 (setEntries a >>=_) _ _ s
 unfold setEntries
 refine a0b (a0b (hS.state (a0d ?_)))
 dsimp only
 rw[if_neg (by simp)]
 show wpAny _ A.in1 (setNext a _ _ _ >>=_) _ _ s
 refine a0b (hn _ _ ?_)
 dsimp only
 refine a0b (a5o ho rfl (by simp) ?_)
 have ho1:=a2m (Obj.mapFields (·.setIfInBounds 0 (rawInt nx))) ho (a5p (a3w (o:=D8 (.int slot 0) i a es.size ep) rfl _))
 refine a0b (a5o ho1 (a3w (o:=D8 (.int slot 0) i a es.size ep) rfl _) (by simp) ?_)
 have ho2:=a2m (Obj.mapFields (·.setIfInBounds 1 (rawInt (i+1)))) ho1 (a5p (a3w (a3w (o:=D8 (.int slot 0) i a es.size ep) rfl _) _))
 exact a0d ⟨x,rfl,a0d (hQ _ ((a2s ..).trans (a2s ..)) (ho2.trans rfl))⟩
theorem xT {it:Addr} {s0:Shared} {Q:Option Value->Shared->Prop} (hh:A.handled=none) (hQ:∀h',(∀b o,s.heap.get? b=some o->h'.get? b=some o)->Q none {s with heap:=h'}) :
  wpAny (model prog w) A.in1 (newExc (.type "StopIteration") [] >>=λe=>raiseNew e) (λ(fin:Fin) s'=>∃v,fin= .done (.ret v)/\wpAny (model prog w) A (pure (some v)) Q E s')
   (λe s'=>wpAny (model prog w) A (do if <- isInstance e (.type "StopIteration") then pure none else throw e) Q E s') s:=by
 refine a0b ?_
 simp only[newExc,newTuple]
 refine a0b (a2b ?_ (by size_fits))
 refine a0b (m:=firstArgMember _ _) (a6b (a:=Value.none) (by first|rfl|(simp only[firstArgMember];rfl)) ?_)
 refine a2b ?_ (by size_fits)
 simp only[raiseNew]
 refine a0b (wpAny_handled ?_)
 rw[show A.in1.handled=none from hh]
 refine a0b (a0d (wpAny_throw ?_))
 refine a0b (a6s (T:="StopIteration") (b:=true) ⟨_,a1e _ rfl,rfl⟩ isSubtype_stop ?_)
 exact a0d (hQ _ λb o e=>a0f _ (a0f _ e))
theorem uJ {it a:Addr} {es:Array (Int×Value)} {ep slot i:Nat} {t:SetTable} {Q:Option Value->Shared->Prop} (hh:A.handled=none) (ho:s.heap.get? it=some (D8 (.int slot 0) i a es.size ep)) (hS:SetAt s.heap a es ep t)
  (hn:∀(E':Value->Ab->Prop) (Q:Option (Value×Nat)->Ab->Prop),Q none s->wpAny (model prog w) A.in1 (setNext a slot i ep) Q E' s)
  (hQ:∀h',(∀b o,b≠it->s.heap.get? b=some o->h'.get? b=some o)->Q none {s with heap:=h'}):wpAny (model prog w) A (pyNext (.ref it)) Q E s:=by
 unfold pyNext
 have hT:s.TypeIs (.ref it) "set_iterator":=⟨_,ho,rfl⟩
 refine a0b (wpAny_attempt (a4g (name:=Str.ofString "__next__") hT aX
  (a3e aX hT dG ?_ (dX _))))
 unfold Builtin.«set_iterator.__next__»
 show wpAny _ A.in1 (fieldsOf (.ref it) >>=_) _ _ s
 refine a0b (o4 ho rfl ?_)
 show wpAny _ A.in1 (setEntries a >>=_) _ _ s
 unfold setEntries
 refine a0b (a0b (hS.state (a0d ?_)))
 dsimp only
 rw[if_neg (by simp)]
 show wpAny _ A.in1 (setNext a _ _ _ >>=_) _ _ s
 refine a0b (hn _ _ ?_)
 dsimp only
 refine a0b (a5o ho rfl (by simp) ?_)
 refine xT (it:=it) (s0:=s) hh λh' k=>hQ h' λb o hb e=>k b o ((a2j _ _ (a3b hb)).trans e)
theorem z8 {it a tp:Addr} {es:Array (Int×Value)} {ep i pl:Nat} {t:SetTable} {hx:Int} {x:Value} {ps:Array Value} {tk:Tok} {Q:Option Value->Shared->Prop} (ho:s.heap.get? it=some (D8 (.ref tp) i a es.size ep)) (hS:SetAt s.heap a es ep t)
  (htp:∃o n,s.heap.get? tp=some o/\o.data= .seq ps n) (hp:ps[i]? =some (.int pl tk)) (hx':es[pl]? =some (hx,x))
  (hQ:∀h',Heap.SameBut it s.heap h'->h'.get? it=some (D8 (.ref tp) (i+1) a es.size ep)->Q (some x) {s with heap:=h'}):wpAny (model prog w) A (pyNext (.ref it)) Q E s:=by
 unfold pyNext
 have hT:s.TypeIs (.ref it) "set_iterator":=⟨_,ho,rfl⟩
 refine a0b (wpAny_attempt (a4g (name:=Str.ofString "__next__") hT aX
  (a3e aX hT dG ?_ (dX _))))
 unfold Builtin.«set_iterator.__next__»
 show wpAny _ A.in1 (fieldsOf (.ref it) >>=_) _ _ s
 refine a0b (o4 ho rfl ?_)
 show wpAny _ A.in1 (setEntries a >>=_) _ _ s
 unfold setEntries
 refine a0b (a0b (hS.state (a0d ?_)))
 dsimp only
 rw[if_neg (by simp)]
 obtain⟨otp,ntp,h1,h2⟩:=htp
 show wpAny _ A.in1 (seqItems? (.ref tp) >>=_) _ _ s
 refine a0b (wpAny_seqItems h1 h2 ?_)
 simp only[a1v,hp]
 show wpAny _ A.in1 (setNextDrawn a _ _ >>=_) _ _ s
 unfold setNextDrawn
 refine a0b (a0b (hS.state ?_))
 dsimp only
 rw[if_neg (by simp)]
 simp only[a1v,hx']
 refine a0d ?_
 refine a0b (a5o ho rfl (by simp) ?_)
 have ho1:=a2m (Obj.mapFields (·.setIfInBounds 1 (rawInt (i+1)))) ho (a5p (a3w (o:=D8 (.ref tp) i a es.size ep) rfl _))
 exact a0d ⟨x,rfl,a0d (hQ _ (a2s ..) (ho1.trans rfl))⟩
theorem CN {it a tp:Addr} {es:Array (Int×Value)} {ep i:Nat} {t:SetTable} {ps:Array Value} {Q:Option Value->Shared->Prop} (hh:A.handled=none) (ho:s.heap.get? it=some (D8 (.ref tp) i a es.size ep)) (hS:SetAt s.heap a es ep t)
  (htp:∃o n,s.heap.get? tp=some o/\o.data= .seq ps n) (hp:ps[i]? =none)
  (hQ:∀h',(∀b o,b≠it->s.heap.get? b=some o->h'.get? b=some o)->Q none {s with heap:=h'}):wpAny (model prog w) A (pyNext (.ref it)) Q E s:=by
 unfold pyNext
 have hT:s.TypeIs (.ref it) "set_iterator":=⟨_,ho,rfl⟩
 refine a0b (wpAny_attempt (a4g (name:=Str.ofString "__next__") hT aX
  (a3e aX hT dG ?_ (dX _))))
 unfold Builtin.«set_iterator.__next__»
 show wpAny _ A.in1 (fieldsOf (.ref it) >>=_) _ _ s
 refine a0b (o4 ho rfl ?_)
 show wpAny _ A.in1 (setEntries a >>=_) _ _ s
 unfold setEntries
 refine a0b (a0b (hS.state (a0d ?_)))
 dsimp only
 rw[if_neg (by simp)]
 obtain⟨otp,ntp,h1,h2⟩:=htp
 show wpAny _ A.in1 (seqItems? (.ref tp) >>=_) _ _ s
 refine a0b (wpAny_seqItems h1 h2 ?_)
 simp only[a1v,hp]
 refine a0b (a5o ho rfl (by simp) ?_)
 have ho1:=a2m (Obj.mapFields (·.setIfInBounds 0 (rawInt 0))) ho (a5p (a3w (o:=D8 (.ref tp) i a es.size ep) rfl _))
 refine a0b (a5o ho1 (a3w (o:=D8 (.ref tp) i a es.size ep) rfl _) (by simp) ?_)
 refine xT (it:=it) (s0:=s) hh λh' k=>hQ h' λb o hb e=>k b o ((a2j _ _ (a3b hb)).trans ((a2j _ _ (a3b hb)).trans e))
end
open PySem
theorem jK {α:Type}:∀ {l:List α} {i:Nat} (h:i<l.length),(l[i]::l.eraseIdx i).Perm l
 |x::xs,0,h=>.refl _
 | x::xs,i+1,h=>by
  have:=jK (l:=xs) (i:=i) (by simpa using h)
  simp only[List.getElem_cons_succ,List.eraseIdx_cons_succ]
  exact (List.Perm.swap _ _ _).trans (this.cons x)
section
variable{prog:Program}{w:World}{A:Around}{E:Value->Ab->Prop}{s:Ab}
theorem j6{Q:Bool->Shared->Prop}(h:Q (w.params.followText "set-order") s):wpAny (model prog w) A setsByText Q E s:=by
 unfold setsByText
 exact a0b (a3t (a0d h))
theorem oT {a:Addr} {es:Array (Int×Value)} {ep slot i:Nat} {t:SetTable} {Q:Option (Value×Nat)->Shared->Prop} (hS:SetAt s.heap a es ep t) (hb:w.params.followText "set-order"=false) (hd:(!t.plain&&decide (es.size>1))=false) (hl:t.led=true)
  (h:Q (match es[SetTable.below t.place slot]?,t.place[SetTable.below t.place slot]? with|some (_,x),some j=>some (x,j+1)|_,_=>none) s):wpAny (model prog w) A (setNext a slot i ep) Q E s:=by
 unfold setNext
 refine a0b (hS.state ?_)
 dsimp only
 refine a0b (j6 ?_)
 rw[hb]
 rw[if_neg a0m]
 rw[if_neg (by show ¬((!t.plain&&decide (es.size>1))=true);rw[hd];exact a0m)]
 refine a0b ?_
 show wpAny _ _ (if (!t.led&& !es.isEmpty)=true then unsupported "set:maker-not-led" else pure ()) _ _ _
 rw[if_neg (by rw[hl];simp)]
 exact a0d (a0d h)
theorem rT {a:Addr} {es:Array (Int×Value)} {ep slot i:Nat} {t:SetTable} {Q:Option (Value×Nat)->Shared->Prop} (hS:SetAt s.heap a es ep t) (hb:w.params.followText "set-order"=true)
  (h:Q (((pickOrder (w.params.setOrder a ep) es)[i]?).map λe=>(e.2,slot)) s):wpAny (model prog w) A (setNext a slot i ep) Q E s:=by
 unfold setNext
 refine a0b (hS.state ?_)
 dsimp only
 refine a0b (j6 ?_)
 rw[hb]
 rw[if_pos rfl,if_neg (by simp)]
 unfold setWalk
 refine a0b (a0b (hS.state ?_))
 dsimp only
 refine a0b (j6 ?_)
 rw[hb]
 rw[if_pos rfl]
 refine a0b (a3t (a0d (a0d h)))
theorem CZ{src:Source}{n:Nat}{Q:Nat->Shared->Prop}(hn:n≠0)(h:∀(i:Nat) (d:Drawn),i<n->Q i {s with drawn:=d}):wpAny (model prog w) A (choose src n) Q E s:=λΓ p hΓ=>by
 show Sem.wp _ Γ (.choose src n .pure) _ _ p s
 rw[Sem.wp]
 exact⟨hn,h _ _ (Nat.mod_lt _ (Nat.pos_of_ne_zero hn))⟩
theorem qI {α:Type}:∀(n:Nat) (xs:List α) {Q:List α->Shared->Prop} {s:Shared},xs.length=n->(∀(ys:List α) (d:Drawn),ys.Perm xs->Q ys {s with drawn:=d})->wpAny (model prog w) A (drawOrder n xs) Q E s
 | 0,xs,Q,s,hl,h=>by
  have:xs=[]:=a3l.mp hl
  subst this
  unfold drawOrder
  exact a0d (h [] s.drawn (.refl _))
 |n+1,[],Q,s,hl,h=>by cases hl
 | n+1,x::xs,Q,s,hl,h=>by
  unfold drawOrder
  refine a0b (CZ (by simp) λi d hi=>?_)
  have e:(x::xs)[i]? =some (x::xs)[i]:=a0a hi
  rw[e]
  refine a0b (qI n _ (by rw[List.length_eraseIdx_of_lt hi,hl];rfl) λys d' hp=>a0d (h _ d' ?_))
  exact (hp.cons _).trans (jK hi)
end
theorem K5 {α:Type} (next:Nat->Nat):∀(fuel k:Nat) (n6:List α) (out:Array α),n6.length=fuel->(pickOrder.go next fuel k n6 out).toList.Perm (out.toList++n6)
 | 0,k,n6,out,h=>by
  have:n6=[]:=a3l.mp h
  subst this
  rw[pickOrder.go];simp
 | fuel+1,k,n6,out,h=>by
  rw[pickOrder.go]
  have hi:next k % n6.length<n6.length:=Nat.mod_lt _ ∅
  rw[a0a hi]
  dsimp only
  refine (K5 next fuel (k+1) _ _ (by rw[List.length_eraseIdx_of_lt hi];omega)).trans ?_
  rw[a7m,a7l]
  exact List.Perm.append_left _ (by simpa using jK hi)
theorem gC{α:Type}(next:Nat->Nat)(xs:Array α):(pickOrder next xs).toList.Perm xs.toList:=by
 unfold pickOrder
 simpa using K5 next xs.size 0 xs.toList #[] (by simp)
def kT(t:SetTable)(i:Nat):Nat:=if i=0 then 0 else t.place.getD (i-1) 0+1
inductive WMode(w:World)(a:Addr)(es:Array (Int×Value))(ep:Nat)(t:SetTable)(vs:List Value):(Nat->Value)->Heap->Prop where
 |plain {h:Heap}:w.params.followText "set-order"=false->(!t.plain&&decide (es.size>1))=false->t.led=true->B2 t.place->vs=es.toList.map (·.2)->WMode w a es ep t vs (λi=>.int (kT t i) 0) h
 |text {h:Heap}:w.params.followText "set-order"=true->vs=(pickOrder (w.params.setOrder a ep) es).toList.map (·.2)->WMode w a es ep t vs (λ_=>.int 0 0) h
 |drawn {h:Heap} {tp:Ac} {o:Obj} {m:Nat} {ks:List Nat}:h.get? tp=some o->o.data= .seq (ks.map λ(k:Nat)=>Value.int k 0).toArray m->ks.length=es.size->vs=ks.map (λk=>(es.getD k (0,.none)).2)->(∀k∈ks,k<es.size)->WMode w a es ep t vs (λ_=>.ref tp) h
theorem WMode.keeps{w:World}{a:Addr}{es:Array (Int×Value)}{ep:Nat}{t:SetTable}{vs:List Value}{f:Nat->Value}{h h':Heap}(m:WMode w a es ep t vs f h)(k:∀tp o,f 0= .ref tp->h.get? tp=some o->h'.get? tp=some o):WMode w a es ep t vs f h':=by
 cases m with
 |plain a1 a2 a3 a4 a5=>exact .plain a1 a2 a3 a4 a5
 |text a1 a2=>exact .text a1 a2
 |drawn a1 a2 a3 a4 a5=>exact .drawn (k _ _ rfl a1) a2 a3 a4 a5
structure WSt(w:World)(I a:Addr)(es:Array (Int×Value))(ep:Nat)(t:SetTable)(vs:List Value)(f:Nat->Value)(i:Nat)(h:Heap):Prop where
 set:SetAt h a es ep t
 ne:a≠I
 ne2:∀tp,f 0= .ref tp->tp≠I
 mode:WMode w a es ep t vs f h
 it:h.get? I=some (D8 (f i) i a es.size ep)
theorem WMode.len{w:World}{a:Addr}{es:Array (Int×Value)}{ep:Nat}{t:SetTable}{vs:List Value}{f:Nat->Value}{h:Heap}(m:WMode w a es ep t vs f h):vs.length=es.size:=by
 cases m with
 |plain a1 a2 a3 a4 a5=>rw[a5];simp
 |text a1 a2=>rw[a2,a0g,(gC _ _).length_eq,a0w]
 |drawn a1 a2 a3 a4 a5=>rw[a4,a0g,a3]
section
variable{prog:Program}{w:World}{A:Around}{E:Value->Ab->Prop}{s:Ab}{I a:Ac}{es:Array (Int×Value)}{ep:Nat}{t:SetTable}{vs:List Value}{f:Nat->Value}
theorem WSt.item {i:Nat} {x:Value} {Q:Option Value->Shared->Prop} (st:WSt w I a es ep t vs f i s.heap) (hx:vs[i]? =some x)
  (hQ:∀h',Heap.SameBut I s.heap h'->WSt w I a es ep t vs f (i+1) h'->Q (some x) {s with heap:=h'}):wpAny (model prog w) A (pyNext (.ref I)) Q E s:=by
 have next:∀h',Heap.SameBut I s.heap h'->h'.get? I=some (D8 (f (i+1)) (i+1) a es.size ep)->WSt w I a es ep t vs f (i+1) h':=λh' sb e=>
  ⟨st.set.keeps λo ho=>(sb.2 a st.ne).trans ho,st.ne,st.ne2,st.mode.keeps λtp o e ho=>(sb.2 tp (st.ne2 tp e)).trans ho,e⟩
 have hi:i<es.size:=by rw[<- st.mode.len];exact (a0e.mp hx).1
 cases m:st.mode with
 | plain a1 a2 a3 a4 a5=>
  rw[a5,a0h] at hx
  have hes:es.toList[i]? =some es[i]:=by rw[a3i];exact a0v hi
  rw[hes] at hx
  have hx:es[i].2=x:=a1i hx
  have hps:t.place.size=es.size:=by
   have:=st.set.fit
   simp only[SetTable.fits,a1d,a3v] at this
   exact this.1
  have hbe:SetTable.below t.place (kT t i)=i:=by
   unfold kT
   by_cases h0:i=0
   ·subst h0;rw[if_pos rfl];exact vQ a4
   ·rw [if_neg h0]
    have hj:t.place[i-1]? =some (t.place.getD (i-1) 0):=by
     have:i-1<t.place.size:=by omega
     simp[Array.getD,this]
    rw[vO a4 hj];omega
  have hsl:kT t (i+1)=t.place[i]'∅+1:=by
   unfold kT
   rw[if_neg ∅]
   have:i<t.place.size:=by omega
   simp[Array.getD,this]
  refine rW (nx:=kT t (i+1)) (x:=x) st.it st.set (λE' Q' q=>oT st.set a1 a2 a3 ?_) λh' sb e=>hQ h' sb (next h' sb e)
  rw[hbe,a0v hi,a0v (by omega:i<t.place.size)]
  dsimp only
  rw[<- hsl,hx];exact q
 | text a1 a2=>
  rw[a2,a0h] at hx
  refine rW (nx:=0) (x:=x) st.it st.set (λE' Q' q=>rT st.set a1 ?_) λh' sb e=>hQ h' sb (next h' sb e)
  rw[<- a3i]
  cases hp:(pickOrder (w.params.setOrder a ep) es).toList[i]? with
  |none=>rw[hp] at hx;cases hx
  |some y=>rw[hp] at hx;cases hx;exact q
 | @drawn _ tp o mm ks a1 a2 a3 a4 a5=>
  rw[a4,a0h] at hx
  cases hk:ks[i]? with
  |none=>rw[hk] at hx;cases hx
  | some k=>
   rw[hk] at hx
   have hx:(es.getD k (0,.none)).2=x:=a1i hx
   have hkl:=a5 k (a0k hk)
   refine z8 (pl:=k) (tk:=0) (hx:=es[k].1) (x:=x) st.it st.set ⟨o,mm,a1,a2⟩ ?_ ?_ λh' sb e=>hQ h' sb (next h' sb e)
   ·rw[List.getElem?_toArray,a0h,hk];rfl
   ·rw[a0v hkl]
    rw[<- hx]
    simp[Array.getD,hkl]
theorem WSt.done {Q:Option Value->Shared->Prop} (hh:A.handled=none) (st:WSt w I a es ep t vs f vs.length s.heap)
  (hQ:∀h',(∀b o,b≠I->s.heap.get? b=some o->h'.get? b=some o)->Q none {s with heap:=h'}):wpAny (model prog w) A (pyNext (.ref I)) Q E s:=by
 have hl:=st.mode.len
 have hit:=st.it
 have hset:=st.set
 cases m:st.mode with
 | plain a1 a2 a3 a4 a5=>
  have hps:t.place.size=es.size:=by
   have:=st.set.fit
   simp only[SetTable.fits,a1d,a3v] at this
   exact this.1
  have hbe:es[SetTable.below t.place (kT t vs.length)]? =none:=by
   have:SetTable.below t.place (kT t vs.length)=vs.length:=by
    unfold kT
    by_cases h0:vs.length=0
    ·rw[if_pos h0,h0];exact vQ a4
    ·rw [if_neg h0]
     have hj:t.place[vs.length-1]? =some (t.place.getD (vs.length-1) 0):=by
      have:vs.length-1<t.place.size:=by omega
      simp[Array.getD,this]
     rw[vO a4 hj];omega
   rw[this];exact a3a ∅
  refine uJ hh hit hset (λE' Q' q=>oT hset a1 a2 a3 ?_) hQ
  rw[hbe];exact q
 | text a1 a2=>
  refine uJ hh hit hset (λE' Q' q=>rT hset a1 ?_) hQ
  rw[a3a (by rw[<- a0w,(gC _ _).length_eq,a0w];omega)]
  exact q
 | @drawn _ tp o mm ks a1 a2 a3 a4 a5=>
  refine CN hh hit hset ⟨o,mm,a1,a2⟩ ?_ hQ
  rw[List.getElem?_toArray,a0h,a2g ∅];rfl
end
open PySem PyProof.Rows
theorem kB:Slot "set_iterator" "__iter__" "set_iterator.__iter__":=
 .of (owner:="set_iterator") (n:="__iter__") (by rw[typeLookup_type,a6z];kernel_rfl) ⋯ ⋯ ⋯
  (by first|exact .inl ⋯|exact .inr ⋯) (by rw[a7n];kernel_rfl)
theorem oZ:entryFor table "set_iterator.__iter__"=some Builtin.«dict_keyiterator.__iter__»:=entryFor_alias (id':="dict_keyiterator.__iter__") (by kernel_rfl) rfl ⋯ (by kernel_rfl)
theorem qD(a:Value):argsOk "set_iterator.__iter__" ⟨[a],[]⟩:=by unfold argsOk;kernel_rfl
theorem CP:Slot "set" "__len__" "set.__len__":=
 .of (owner:="set") (n:="__len__") (by rw[typeLookup_type,a6z];kernel_rfl) ⋯ ⋯ ⋯
  (by first|exact .inl ⋯|exact .inr ⋯) (by rw[a7n];kernel_rfl)
theorem tW:∀ {vs:List Value},(∀v∈vs,∃t,v= .int (d3 v) t)->IntsAre vs (vs.map d3)
 |[],_=>.nil
 | v::vs,h=>by
  obtain⟨t,e⟩:=h v a0n
  have ih:=tW λu hu=>h u (a0j _ hu)
  rw[a0i]
  generalize d3 v=k at e ⊢
  subst e
  exact .cons _ _ ih
section
variable{prog:Program}{w:World}{A:Around}{E:Value->Ab->Prop}{s:Ab}{I a:Ac}{es:Array (Int×Value)}{ep:Nat}{t:SetTable}{vs:List Value}{f:Nat->Value}
theorem M4{Q:Value->Shared->Prop}{x:Value}{i n:Nat}(ho:s.heap.get? I=some (D8 x i a n ep))(h:Q (.ref I) s):wpAny (model prog w) A (pyIter (.ref I)) Q E s:=by
 have hT:s.TypeIs (.ref I) "set_iterator":=⟨_,ho,rfl⟩
 refine wpAny_pyIter_slot hT kB (a3e kB hT oZ ?_ (qD _))
 show wpAny _ _ (ret (.ref I)) _ _ s
 exact a0d ⟨_,rfl, "set_iterator",_,hT,aX.lookup,h⟩
def HC(I a:Ac)(f:Nat->Value):List Ac:=I::a::(match f 0 with|.ref tp=>[tp]|_=>[])
theorem MX(hh:A.handled=none):WalksS prog w A I (HC I a f) [I] (λg g'=>g'=g) vs.length (λi v=>vs[i]? =some v) (λi s=>WSt w I a es ep t vs f i s.heap) where
 sub:=λb hb=>by simp at hb;subst hb;simp[HC]
 grefl:=λ_=>rfl
 gtrans:=λ_ _ _ h1 h2=>h2.trans h1
 frame:=λi s h' tk st _ k=>⟨st.set.keeps λo=>k a (by simp[HC]) o,st.ne,st.ne2,st.mode.keeps λtp o e=>k tp (by simp[HC,e]) o,k I (by simp[HC]) _ st.it⟩
 item:=λi s Q E hi st h=>st.item (a0a hi) λh' sb st'=>h _ _ (a0a hi) st' ⟨λb o hb e=>(sb.2 b (by simpa using hb)).trans e,rfl,rfl,rfl,a0o _⟩
 done:=λs Q E st h=>st.done hh λh' k=>h _ ⟨λb o hb e=>k b o (by simpa using hb) e,rfl,rfl,rfl,a0o _⟩
 self:=λi s Q E st h=>M4 st.it h
theorem PD {S:Int->Bool} {n:Nat} {Q:Value->Shared->Prop} (hX:bW prog w a S n s.heap)
  (h:∀(I:Addr) (es:Array (Int×Value)) (ep:Nat) (t:SetTable) (vs:List Value) (f:Nat->Value) (s':Shared),s'.gens=s.gens->s'.os=s.os->s'.toks=s.toks->s.heap.objs.size<=I->(∀tp,f 0= .ref tp->s.heap.objs.size<=tp/\tp<I)->I<s'.heap.objs.size->(∀b o,s.heap.get? b=some o->s'.heap.get? b=some o)->WSt w I a es ep t vs f 0 s'.heap->
   vs.Perm (es.toList.map (·.2))->ElemsOf (intKind prog w) es.toList->(∀k,S k=true↔∃e∈es.toList,(intKind prog w).is k e.2=true)->(es.toList.map λe=>d3 e.2).Nodup->es.size=n->Q (.ref I) s'):wpAny (model prog w) A (pyIter (.ref a)) Q E s:=by
 obtain⟨o,es,ep,t,ho,hex,hd,hel,hmem,hb,hf,hn,hwk,hnd⟩:=hX
 have hS:SetAt s.heap a es ep t:=⟨⟨o,ho,hex,hd⟩,hf⟩
 have hT:s.TypeIs (.ref a) "set":=⟨o,ho,hex.1⟩
 refine wpAny_pyIter_slot hT F.slot_set_iter (a3e F.slot_set_iter hT vY ?_ (F.args_set_iter_1 _))
 unfold Builtin.«frozenset.__iter__»
 show wpAny _ A.in1 (Builtin.Frozenset.sizeOf a >>=_) _ _ s
 unfold Builtin.Frozenset.sizeOf setEntries
 refine a0b (a0b (a0b (hS.state (a0d (a0d ?_)))))
 dsimp only
 refine a0b ?_
 unfold setDrawn
 refine a0b (hS.state ?_)
 dsimp only
 refine a0b (j6 (a0d ?_))
 show wpAny _ _ (if (!w.params.followText "set-order"&&(!t.plain&&decide (es.size>1)))=true then _ else _) _ _ _
 have fin:∀(s1:Shared) (x:Value),s1.gens=s.gens->s1.os=s.os->s1.toks=s.toks->s.heap.objs.size<=s1.heap.objs.size->(∀b o,s.heap.get? b=some o->s1.heap.get? b=some o)->∀(vs:List Value) (f:Nat->Value),f 0=x->(∀tp,f 0= .ref tp->s.heap.objs.size<=tp/\tp<s1.heap.objs.size)->
   (∀h',(∀b o,s1.heap.get? b=some o->h'.get? b=some o)->WMode w a es ep t vs f h')->vs.Perm (es.toList.map (·.2))->
   wpAny (model prog w) A.in1 (setEpoch a >>=λe=>newFields "set_iterator" [x,rawInt 0,.ref a,rawInt es.size,rawInt e] >>=λr=>ret r) (λ(fin:Fin) s'=>∃v,fin= .done (.ret v)/\∃T' r,s'.TypeIs v T'/\typeLookup (.type T') "__next__"=pure (some r)/\Q v s') E s1:=by
  intro s1 x g1 g2 g3 g4 g5 vs f hf0 htp hm hp
  have hS1:=hS.keeps λo=>g5 a o
  unfold setEpoch
  refine a0b (a0b (hS1.state (a0d ?_)))
  dsimp only
  refine a0b (a2b ?_)
  have hI:(s1.heap.push (D8 x 0 a es.size ep)).get? s1.heap.objs.size=some (D8 x 0 a es.size ep):=a1e _ rfl
  refine a0d ⟨_,rfl, "set_iterator",_,⟨_,hI,rfl⟩,aX.lookup,?_⟩
  refine h s1.heap.objs.size es ep t vs f {s1 with heap:=s1.heap.push (D8 x 0 a es.size ep)} g1 g2 g3 g4 htp (by show _<(s1.heap.push _).objs.size;rw[a2x];exact a2p _) (λb o e=>a0f _ (g5 b o e)) ⟨hS1.keeps λo e=>a0f _ e,?_,λtp e=>a0x (htp tp e).2,hm _ λb o e=>a0f _ e,?_⟩ hp hel hmem hnd hn
  ·exact a0x (a0z (a0q ho) g4)
  ·rw[hf0];exact hI
 by_cases hc:(!w.params.followText "set-order"&&(!t.plain&&decide (es.size>1)))=true
 ·rw [if_pos hc]
  refine a0b (qI es.size _ (by simp) λks d hp=>?_)
  have hkl:ks.length=es.size:=by rw[hp.length_eq];simp
  unfold newTuple
  refine a0b (a2b ?_ (by show (List.map (λ(i:Nat)=>rawInt i) ks).toArray.size<=sizeLine;rw[a0r,a0g,hkl];exact a1b (a3r hb) (by decide)))
  have hkm:∀k∈ks,k<es.size:=λk hk=>by simpa using hp.mem_iff.mp hk
  refine fin _ (.ref s.heap.objs.size) rfl rfl rfl (by show _<=(s.heap.push _).objs.size;rw[a2x];exact Nat.le_succ _) (λb o e=>a0f _ e) (ks.map λk=>(es.getD k (0,.none)).2) (λ_=>.ref s.heap.objs.size) rfl (λtp e=>?_) (λh' k=>?_) ?_
  ·cases e
   exact⟨a0o _,by show _<(s.heap.push _).objs.size;rw[a2x];exact a2p _⟩
  ·exact .drawn (k _ _ (a1e _ rfl)) rfl hkl rfl hkm
  ·have:(List.range es.size).map (λk=>(es.getD k (0,.none)).2)=es.toList.map (·.2):=by
    refine a4c (by simp) λi h1 h2=>?_
    have hi:i<es.size:=by simpa using h1
    simp[Array.getD,hi]
   rw[<- this]
   exact hp.map _
 ·rw [if_neg hc]
  refine a0b (a0d ?_)
  have e:s={s with heap:=s.heap}:=by cases s;rfl
  cases hbt:w.params.followText "set-order" with
  | true=>
   refine fin s (rawInt 0) rfl rfl rfl (a0o _) (λ_ _ e=>e) ((pickOrder (w.params.setOrder a ep) es).toList.map (·.2)) (λ_=>.int 0 0) rfl (λtp e=>by cases e) (λh' k=>.text hbt rfl) ((gC _ _).map _)
  | false=>
   have hc':(!t.plain&&decide (es.size>1))=false:=by
    cases hq:(!t.plain&&decide (es.size>1)) with
    |false=>rfl
    |true=>rw[hbt,hq] at hc;exact absurd rfl hc
   rcases hwk with z|⟨hled,hris⟩
   ·rw[hbt] at z;cases z
   ·have hr:B2 t.place:=by
     cases hp:t.plain with
     |true=>exact hris hp
     | false=>
      rw[hp] at hc'
      have hsz:¬es.size>1:=by simpa using hc'
      have hps:t.place.size=es.size:=by
       have:=hf
       simp only[SetTable.fits,a1d,a3v] at this
       exact this.1
      unfold B2
      have:t.place.toList.length<=1:=by rw[a0w];omega
      match hl:t.place.toList,this with
      |[],_=>exact .nil
      |[x],_=>simp
    refine fin s (rawInt 0) rfl rfl rfl (a0o _) (λ_ _ e=>e) (es.toList.map (·.2)) (λi=>.int (kT t i) 0) rfl (λtp e=>by cases e) (λh' k=>.plain hbt hc' hled hr rfl) (.refl _)
theorem DS {S:Int->Bool} {n:Nat} {Q:List Value->Shared->Prop} (hh:A.handled=none) (hX:bW prog w a S n s.heap)
  (h:∀(us:List Value) (ks:List Int) (s':Ab),s'.gens=s.gens->s'.os=s.os->s.toks<=s'.toks->(∀b o,s.heap.get? b=some o->s'.heap.get? b=some o)->IntsAre us ks->ks.Nodup->(∀k,S k=true↔k∈ks)->ks.length=n->s.heap.objs.size<=s'.heap.objs.size->Q us s'):wpAny (model prog w) A (collect (.ref a)) Q E s:=by
 have hX0:=hX
 obtain⟨o,es,ep,t,ho,hex,hd,hel,hmem,hb,hf,hn,hwk,hnd⟩:=hX
 have hSI:s.heap.objs.size≠a:=a3b (a0x (a0q ho))
 have hk1:∀b o,s.heap.get? b=some o->(s.heap.push {cls:=.type "list",data:=.seq ([]:List Value).toArray}).get? b=some o:=λb o e=>a0f _ e
 unfold collect
 refine a0b (wpAny_runValue (a4a F.entry_proto_collect ?_))
 rw[a3n F.plain_proto_collect _]
 show wpAny _ A.in1 (newList [] >>=λl=>again (.builtin "list.__iadd__" ⟨[l,.ref a],[]⟩)) _ _ s
 refine a0b (a2b ?_)
 refine a0d ⟨a5x F.plain_list_iadd _,a4a F.entry_list_iadd ?_⟩
 rw[a3n F.plain_list_iadd _]
 show wpAny _ A.in1 (Builtin.List.listExtendWith (.ref s.heap.objs.size) (.ref a) (.ref s.heap.objs.size)) _ _ _
 unfold Builtin.List.listExtendWith
 have hT1:({s with heap:=s.heap.push {cls:=.type "list",data:=.seq ([]:List Value).toArray} }:Ab).TypeIs (.ref a) "set":=⟨o,hk1 a o ho,hex.1⟩
 refine a0b (wpAny_typeOf hT1 ?_)
 have h1:Builtin.List.listSameRef (.ref s.heap.objs.size) (.ref a)=false:=by simp[Builtin.List.listSameRef,hSI]
 have h2:(Value.type "set"==Value.type "list")=false:=by decide
 have h3:(Value.type "set"==Value.type "tuple")=false:=by decide
 simp only[h1,h2,h3,Bool.or_false,a5w,a6q]
 have hX1:bW prog w a S n (s.heap.push {cls:=.type "list",data:=.seq ([]:List Value).toArray}):=⟨o,es,ep,t,hk1 a o ho,hex,hd,hel,hmem,hb,hf,hn,hwk,hnd⟩
 refine a0b (PD (s:={s with heap:=s.heap.push {cls:=.type "list",data:=.seq ([]:List Value).toArray} }) hX1 λI es2 ep2 t2 vs f s2 g1 g2 g3 g4 g5 g6 g7 st hperm hel2 hmem2 hnd2 hn2=>?_)
 refine a0b (a2e ?_)
 unfold Builtin.List.listLengthHint
 have hT2:s2.TypeIs (.ref a) "set":=⟨o,g7 a o (hk1 a o ho),hex.1⟩
 refine a0b (wpAny_specialOf hT2 CP.lookup ?_)
 wp_delta
 refine a0b (a6s (T:="set") (b:=true) hT2 (by rw[a7n];kernel_rfl) ?_)
 show wpAny _ A.in1 (typeOf (Value.ref a) >>=_) _ _ _
 refine a0b (wpAny_typeOf hT2 ?_)
 refine a0d ?_
 rw[if_pos (by decide)]
 refine a0b (a3q ?_)
 have hS₁:s2.heap.get? s.heap.objs.size=some {cls:=.type "list",data:=.seq ([]:List Value).toArray}:=g7 _ _ (a1e _ rfl)
 refine a0b ?_
 show wpAny _ A.in1 (updateSeq s.heap.objs.size (·.push .none) >>=λ_=>updateSeq s.heap.objs.size (·.pop)) _ _ _
 refine a0b (wpAny_updateSeq hS₁ rfl ?_)
 have hS₂:=a2m (Obj.mapSeq (·.push Value.none)) hS₁ rfl
 refine wpAny_updateSeq hS₂ rfl ?_
 have hS₃:=a2m (Obj.mapSeq (·.pop)) hS₂ rfl
 have hlt:s.heap.objs.size<(s.heap.push {cls:=.type "list",data:=.seq ([]:List Value).toArray}).objs.size:=by rw[a2x];exact a2p _
 have oth:∀b o,b≠s.heap.objs.size->s2.heap.get? b=some o->
   ((s2.heap.update s.heap.objs.size (Obj.mapSeq (·.push Value.none))).update s.heap.objs.size (Obj.mapSeq (·.pop))).get? b=some o:=
  λb o hb e=>(a2j _ _ (a3b hb)).trans ((a2j _ _ (a3b hb)).trans e)
 have hSf:s.heap.objs.size∉HC I a f:=by
  unfold HC
  intro hm
  rcases a0l.mp hm with z|z
  ·exact a0x (a0z hlt g4) z
  ·rcases a0l.mp z with z|z
   ·exact hSI z
   ·cases hf0:f 0 with
    | ref tp=>
     rw[hf0] at z
     have:s.heap.objs.size=tp:=by simpa using z
     exact a0x (a0z hlt (g5 tp hf0).1) this
    |_=>rw[hf0] at z;cases z
 have hvl:vs.length=n:=by rw[hperm.length_eq,a0g,a0w,hn2]
 have hbn:n<scanBound:=by rw[<- hn];exact hb
 have W:=MX (prog:=prog) (w:=w) (A:=A.in1) (I:=I) (a:=a) (es:=es2) (ep:=ep2) (t:=t2) (vs:=vs) (f:=f) hh
 refine a0d ⟨a5x F.plain_extend_loop _,codeAny_extend_loopS W (by rw[hvl];exact a1b (a3r hbn) (by decide)) _ hSf _ vs.length 0 _ _ _ rfl (a3c _)
  (W.frame 0 s2 _ s2.toks st (a0o _) λb hb o e=>oth b o (λz=>hSf (z▸hb)) e) hS₃ (ItemsOf.nil _) λs' acc' c' hm hS' hacc=>?_⟩
 show wpAny _ A (load s.heap.objs.size >>=_) _ _ s'
 refine a0b (wpAny_load hS' ?_)
 refine a0d (h acc'.toList (vs.map d3) s' (hm.gens.trans g1) (hm.os.trans g2) (a1b (Nat.le_of_eq g3.symm) hm.toks) (λb o e=>?_) ?_ ?_ (λk=>?_) (by rw[a0g,hvl]) (a3r (a0q hS')))
 ·have hb':b<s.heap.objs.size:=a0q e
  refine hm.heap b o (λz=>?_) (oth b o (a0x hb') (g7 b o (hk1 b o e)))
  rcases a0l.mp z with z|z
  ·exact a0x hb' z
  ·have:b=I:=by simpa using z
   exact a0x (a0z (a2r hb' hlt) g4) this
 ·have hav:acc'.toList=vs:=by
   refine List.ext_getElem? λi=>?_
   by_cases hi:i<acc'.size
   ·have:=hacc.2 i acc'[i] (a0v hi)
    rw[this,a3i];exact a0v hi
   ·rw[a2g (by rw[a0w];omega),a2g (by have:=hacc.1;omega)]
  rw[hav]
  have all:∀v∈vs,∃t,v= .int (d3 v) t:=λv hv=>by
   obtain⟨e,he,rfl⟩:=a0s.mp (hperm.mem_iff.mp hv)
   obtain⟨⟨k,hk,_⟩,_⟩:=hel2 e he
   obtain⟨tk,e2⟩:=d5 hk
   rw[e2];exact⟨tk,rfl⟩
  exact tW all
 ·have:(vs.map d3).Perm (es2.toList.map λe=>d3 e.2):=by
   have:=hperm.map d3
   rwa [a5v] at this
  exact this.nodup_iff.mpr hnd2
 ·rw [hmem2 k]
  constructor
  ·rintro⟨e,he,hk⟩
   obtain⟨tk,e2⟩:=d5 hk
   exact a0s.mpr ⟨e.2,hperm.mem_iff.mpr (a0s.mpr ⟨e,he,rfl⟩),by rw[e2];rfl⟩
  ·intro hk
   obtain⟨v,hv,rfl⟩:=a0s.mp hk
   obtain⟨e,he,rfl⟩:=a0s.mp (hperm.mem_iff.mp hv)
   obtain⟨⟨k,hk,_⟩,_⟩:=hel2 e he
   obtain⟨tk,e2⟩:=d5 hk
   refine⟨e,he,?_⟩
   rw[e2] at hk ⊢;exact hk
theorem IH {S:Int->Bool} {n:Nat} {Q:Value->Shared->Prop} (hh:A.handled=none) (hX:bW prog w a S n s.heap) (h64:n<64)
  (h:∀(out:Array Value) (ns:List Int) (l:Ac) (m:Nat) (s':Ab),s'.gens=s.gens->s'.os=s.os->s.toks<=s'.toks->(∀b o,s.heap.get? b=some o->s'.heap.get? b=some o)->s.heap.objs.size<=l->s'.heap.get? l=some {cls:=.type "list",data:=.seq out m}->IntsAre out.toList ns->ns.Pairwise (· < ·)->(∀k,S k=true↔k∈ns)->ns.length=n->Q (.ref l) s') :
  wpAny (model prog w) A (call (.builtin "sorted") [.ref a]) Q E s:=by
 refine Calls.call_function_entry kind_sorted plain_sorted entry_sorted (args_sorted1 _) ?_
 unfold Builtin.«sorted»
 refine a0b (m:=checkCount "sorted" 1 1 _) (a0d ?_)
 refine a0b (DS hh hX λus ks s1 g1 g2 g3 g4 hI hnd hmem hkn hsz=>?_)
 have hul:us.length=n:=by rw[<- hkn];exact hI.length
 refine a0b (a2b ?_ ?_)
 ·have hoL:(s1.heap.push (seqObj "list" us.toArray 0)).get? s1.heap.objs.size=some (seqObj "list" us.toArray 0):=a1e _ rfl
  refine a0b (a2e (a3e slot_list_sort ⟨_,hoL,rfl⟩ entry_list_sort (list_sort_tree hoL hI ∅ λout ns' a1 a2 a3=>⟨_,rfl,?_⟩) (args_list_sort _)))
  have e1:=a2m (Obj.mapSeq λ_=>#[]) hoL rfl
  have e2:=a0f (seqObj "list" #[] 0) (a0f (seqObj "tuple" us.toArray 0) e1)
  have e3:=a2m (Obj.mapSeq λ_=>out) e2 rfl
  have hlt:ks.Nodup->ns'.Pairwise (· < ·):=λhn=>by
   have hn':ns'.Nodup:=a2.nodup_iff.mpr hn
   exact (a3.and hn').imp fun {x y} ⟨h1,h2⟩=>by omega
  refine a0d ⟨_,rfl,h out ns' s1.heap.objs.size _ _ g1 g2 g3 (λb o e=>?_) hsz (e3.trans rfl) a1 (hlt hnd) (λk=>(hmem k).trans a2.mem_iff.symm) (a2.length_eq.trans hkn)⟩
  have hb:b≠s1.heap.objs.size:=a0x (a0q (g4 b o e))
  unfold sortedHeap
  refine (a2j _ _ (a3b hb)).trans (a0f _ (a0f _ ((a2j _ _ (a3b hb)).trans (a0f _ (g4 b o e)))))
 ·show us.toArray.size<=sizeLine
  rw[a0r,hul];exact a1b (a3r h64) (by decide)
end
def f6(P:Program)(w:World)(a:Ac)(S:Int->Bool)(n:Nat):HO:=.ext (bW P w a S n)
theorem bW.mono{P:Program}{w:World}{a:Addr}{S:Int->Bool}{n:Nat}{h1 h2:Heap}(x:bW P w a S n h1)(k:∀o,h1.get? a=some o->h2.get? a=some o):bW P w a S n h2:=by
 obtain⟨o,es,ep,t,ho,r⟩:=x
 exact⟨o,es,ep,t,k o ho,r⟩
theorem bW.ok{P:Program}{w:World}{H:Hp}{h:Heap}{a:Addr}{S:Int->Bool}{n:Nat}(x:bW P w a S n h):cI P w H h a (f6 P w a S n):=by
 refine⟨x,?_,λh1 h2 x1 k=>x1.mono k⟩
 obtain⟨o,es,ep,t,ho,r⟩:=x
 exact⟨o,ho⟩
section
variable{X:Cx}
theorem Inv.laidS{pins:List (Addr×Obj)}{σ:St}{H:Hp}{s s':Shared}{a:Addr}{o:HO}(I:Inv X pins σ H s)(hos:s'.os=s.os)(hg:s'.gens=s.gens)(k:∀b u,s.heap.get? b=some u->s'.heap.get? b=some u)(hp:s.heap.objs.size<=a)(new:cI X.prog X.w (bX H a o) s'.heap a o):Inv X pins σ (bX H a o) s':=
 I.call' (s':=s') (ch:=[]) hos (Un.laid k hp (I.hok.fresh hp)) (I.hok.laid k hp new) (by rw[hg];exact⟨I.bare.1,λ_ _ e=>e⟩) (by simp)
def FD(P:Program)(w:World):List V->Hp->VK->Prop:=λxs H Q=>∃a S n,xs=[.ref a]/\H a=some (f6 P w a S n)/\n<64/\
 ∀(l:Ac) (ms:List Int),H l=none->ms.Pairwise (· < ·)->(∀k,S k=true↔k∈ms)->Q (.ref l) (bX H l (.lst (List.map V.int ms)))
theorem zR(hc:X.calm=true):eY X (.builtin "sorted") (FD X.prog X.w):=by
 intro pins s σ H xs us Q I r h
 obtain⟨p,S,n,rfl,hp,h64,q⟩:=h
 obtain⟨u,rfl,ru⟩:=nW r
 cases ru
 obtain⟨hX,_,_⟩ : bW X.prog X.w p S n s.heap/\(∃o,s.heap.get? p=some o)/\(∀h1 h2:Heap,bW X.prog X.w p S n h1->(∀o,h1.get? p=some o->h2.get? p=some o)->bW X.prog X.w p S n h2):=I.hok p _ hp
 refine IH (I.ok.hd hc) hX h64 λout ns l m s' g1 g2 g3 g4 g5 g6 hI hlt hmem hl=>?_
 refine⟨.ref l,bX H l (.lst (List.map V.int ns)),I.laidS g2 g1 g4 g5 ⟨?_,out.toList,m,tO hI,by simpa using g6⟩,rfl,q l ns (I.hok.fresh g5) hlt hmem⟩
 rw[a0g,hl]
 exact a1b (a3r h64) (by decide)
end
def gT (p0:Pos) (target:Expr) (ifs:List Expr) (act:Sem Unit) (e:Expr) (d:Nat) (it acc:Value) (env:Env):Sem Fin:=do
 standAt p0
 match <- pyNext it with
 |none=>pure (.done .next)
 | some v=>
  letOwnedTupleGo target it v
  assign target env v
  let mut ok:=true
  for c in ifs do
   if ok then ok <- isTrue c env (eval c env)
  if ok then
   act
  again (.compLoop e d it acc env)
def PB(Y:Cx)(m:Sem Unit)(t:TS):Prop:=∀(pins:List (Addr×Obj)) (s:Shared) (σ:St) (H:Hp) (D:Ends),Inv Y pins σ H s->t D σ H->
 wpAny (model Y.prog Y.w) Y.A m (λ_ s'=>∃σ' H',Inv Y pins σ' H' s'/\D.nx σ' H') (λ_ _=>False) s
def MT(tt:TT)(ta:TS):TS:=λD σ H=>tt σ H λb H1=>if b=true then ta D σ H1 else D.nx σ H1
inductive CompKind:Expr->Prop where
 |list (elt:Expr) (gens:List Comprehension) (scope:Scope) (pos:Pos):CompKind (.ListComp elt gens scope pos)
 |set (elt:Expr) (gens:List Comprehension) (scope:Scope) (pos:Pos):CompKind (.SetComp elt gens scope pos)
 |dict (k v:Expr) (gens:List Comprehension) (scope:Scope) (pos:Pos):CompKind (.DictComp k v gens scope pos)
theorem LG {prog:Program} {w:World} {A:Around} {R:Result->Shared->Prop} {s:Shared} {e:Expr} {d:Nat} {it acc:Value} {env:Env} {p0:Pos} {target:Expr} {ifs:List Expr} {act:Sem Unit} (heq:compTurn e d it acc env=gT p0 target ifs act e d it acc env) (hk:CompKind e) (I:Nat->Shared->Prop)
  (turn:∀n s,I n s->wpAny (model prog w) A (pyNext it) (λr s1=>match r with
   |none=>R (.ok .next) s1
   | some v=>wpAny (model prog w) A (letOwnedTupleGo target it v) (λ_ s2=>wpAny (model prog w) A (assign target env v) (λ_ s3=>
     wpAny (model prog w) A (forIn ifs true λc r=>if r=true then do let ok <- isTrue c env (eval c env);pure (ForInStep.yield ok) else pure (ForInStep.yield r)) (λok s4=>
      if ok=true then wpAny (model prog w) A act (λ_ s5=>∃m,m<n/\I m s5) (λ_ _=>False) s4
      else ∃m,m<n/\I m s4) (λ_ _=>False) s3) (λ_ _=>False) s2) (λ_ _=>False) s1) (λ_ _=>False) s)
  (n:Nat) (h:I n s):codeAny (model prog w) A (.compLoop e d it acc env) R s:=by
 refine codeAny_loop (by cases hk<;>rfl) I (λn s hI=>?_) n h
 have go:wpAny (model prog w) A ((compTurn e d it acc env).onRaise λx=>do noteFrame x env;theTreesLotGoes x) (λfin s'=>match fin with|.done f=>R (.ok f) s'|.again c'=>c'= .compLoop e d it acc env/\∃m,m<n/\I m s') (λe s'=>R (.error e) s') s:=?_
 ·cases hk<;>exact go
 refine wpAny_noted (env:=env) (m:=compTurn e d it acc env) ?_
 rw[heq]
 unfold gT
 refine a0b (a2y (a0b (a1j (turn n s hI) (λr s1 h1=>?_) λ_ _ z=>z.elim)))
 cases r with
 |none=>exact a0d h1
 | some v=>
  refine a0b (a1j h1 (λ_ s2 h2=>?_) λ_ _ z=>z.elim)
  refine a0b (a1j h2 (λ_ s3 h3=>?_) λ_ _ z=>z.elim)
  refine a0b (a1j h3 (λok s4 h4=>?_) λ_ _ z=>z.elim)
  cases ok with
  |false=>exact a0d ⟨rfl,h4⟩
  |true=>exact a0b (a1j h4 (λ_ s5 h5=>a0d ⟨rfl,h5⟩) λ_ _ z=>z.elim)
theorem vX {Y:Cx} {e:Expr} (hk:CompKind e) (hc:Y.calm=true) (hx:Y.xe=λ_ _=>False) {d:Nat} {acc:Value} {p0:Pos} {target:Expr} {ifs:List Expr} {act:Sem Unit} {it:Addr} (heq:compTurn e d (.ref it) acc Y.env=gT p0 target ifs act e d (.ref it) acc Y.env)
  {g:TG} {tt:TT} {ta:TS} (hg:PG Y target g) (ht:N6 Y ifs tt) (ha:PB Y act ta) {pins:List (Ac×Obj)} {fp:List Ac} {tn:Nat->Heap->Prop} {J:It} {σ:St} {H:Hp} {s:Ab} {D:Ends} {R:Result->Ab->Prop}
  (T:Turn Y.prog Y.w Y.K target J fp it tn) (I:Inv Y pins σ H s) (st:tn 0 s.heap) (hf:∀b∈fp,iY Y pins H b) (body:pZ J g (MT tt ta) D σ H)
  (hR:∀(i:Nat) (σ':St) (H':Hp) (s':Ab),Inv Y pins σ' H' s'->D.nx σ' H'->R (.ok .next) s'):codeAny (model Y.prog Y.w) Y.A (.compLoop e d (.ref it) acc Y.env) R s:=by
 obtain⟨W,⟨m0,w0⟩,turn⟩:=body
 have stat:∀ {H':Hp},(∀b∈fp,H' b=none)->∀b∈fp,iY Y pins H' b:=λhn b hb=>⟨hn b hb,(hf b hb).2⟩
 refine LG heq hk (λk s'=>∃i σ' H',Inv Y pins σ' H' s'/\tn i s'.heap/\(∀b∈fp,H' b=none)/\W i k σ' H') ?_ m0 ⟨0,_,_,I,st,λb hb=>(hf b hb).1,w0⟩
 rintro k s5 ⟨i,σ5,H5,I5,st5,fr5,w5⟩
 rcases turn i k σ5 H5 w5 with ⟨stop,qn⟩|⟨go,Nn,hN,step⟩
 ·refine a1j (T.done Y rfl rfl rfl hc i pins s5 σ5 H5 (λ_ _=>False) I5 (stat fr5) st5 stop) (λr s6 hr=>?_) (λ_ _ z=>z)
  obtain⟨rfl,I6⟩:=hr
  exact hR i σ5 H5 s6 I6 qn
 ·refine a1j (T.item Y rfl rfl rfl hc i pins s5 σ5 H5 (λ_ _=>False) I5 (stat fr5) st5 go) (λr s6 h6=>?_) (λ_ _ z=>z)
  obtain⟨u,rfl,h6⟩:=h6
  refine a1j h6 (λ_ s7 h7=>?_) (λ_ _ z=>z)
  obtain⟨x,H7,I7,r7,y7,st7,fr7⟩:=h7
  have I7':=I7.pinned (stat fr7) (T.obj _ _ st7)
  have again:∀ {σ':St} {H':Hp} {s':Shared},Inv Y (pins++pK fp s7.heap) σ' H' s'->Nn σ' H'->∃m,m<k/\∃i σ' H',Inv Y pins σ' H' s'/\tn i s'.heap/\(∀b∈fp,H' b=none)/\W i m σ' H':=fun {σ' H' s'} J7 n7=>by
   obtain⟨m',hm,w7⟩:=hN σ' H' n7
   have pin:∀b∈fp,∀o,s7.heap.get? b=some o->s'.heap.get? b=some o/\H' b=none:=λb hb o e=>by
    have z:=J7.pin (b,o) (a0t _ (a0t _ (eG hb e)))
    exact⟨z.1,z.2.1⟩
   refine⟨m',hm,i+1,σ',H',J7.unpinned,T.keep _ _ _ st7 λb hb o e=>(pin b hb o e).1,λb hb=>?_,w7⟩
   obtain⟨o,e,_⟩:=T.obj _ _ st7 b hb
   exact (pin b hb o e).2
  have hg':=hg _ s7 σ5 H7 x u _ I7' r7 (step x H7 y7)
  rw[hx] at hg'
  refine a1j hg' (λ_ s8 h8=>?_) λ_ _ z=>z
  obtain⟨σ8,H8,I8,q8⟩:=h8
  have ht':=ht _ s8 σ8 H8 _ I8 q8
  rw[hx] at ht'
  refine a1j ht' (λok s9 h9=>?_) λ_ _ z=>z
  obtain⟨H9,I9,q9⟩:=h9
  cases ok with
  | false=>
   rw[if_neg a0m] at q9 ⊢
   exact again I9 q9
  | true=>
   rw[if_pos rfl] at q9 ⊢
   refine a1j (ha _ s9 σ8 H9 _ I9 q9) (λ_ s10 h10=>?_) λ_ _ z=>z
   obtain⟨σ10,H10,I10,q10⟩:=h10
   exact again I10 q10
theorem kH {prog:Program} {w:World} {A:Around} {R:Result->Shared->Prop} {s:Shared} {e:Expr} {d:Nat} {it acc:Value} {env:Env} {target iter:Expr} {ifs:List Expr} (hk:CompKind e) (hcl:(clausesOf e)[d]? =some ⟨target,iter,ifs,0⟩)
  (h0:codeAny (model prog w) A (.compLoop e d it acc env) R s) (h:wpAny (model prog w) A (pyIter it) (λit' s'=>codeAny (model prog w) A (.compLoop e d it' acc env) R s') (λ_ _=>False) s):codeAny (model prog w) A (.compStart e d it acc env) R s:=by
 have hq:(Code.compLoop e d it acc env).quiet=true:=by cases hk<;>rfl
 have hq':∀it',(Code.compLoop e d it' acc env).quiet=true:=λit'=>by cases hk<;>rfl
 have go:wpAny (model prog w) A ((compStart e d it acc env).onRaise λx=>do noteFrame x env;standAt theWindowsPlace) (λfin s'=>match fin with|.done f=>R (.ok f) s'|.again c'=>c'.quiet=true/\codeAny (model prog w) A c' R s') (λe s'=>R (.error e) s') s:=?_
 ·refine codeAny_of_tree ?_
  cases hk<;>exact go
 refine wpAny_notedAt ?_
 unfold compStart
 rw[hcl]
 rw[if_neg (by show ¬((0:Nat) !=0)=true;decide)]
 show wpAny _ _ (ask >>=_) _ _ s
 refine a0b (a3t (wpAny_ite ?_))
 split
 ·first
   |exact a0b (a0d (a0d (And.intro hq h0)))
   |exact a0d (And.intro hq h0)
 ·refine a0b (a3q ?_)
  show wpAny _ _ (standAt iter.pos >>=_) _ _ s
  exact a0b (a2y (a0b (a1j h (λit' s' h'=>a0d (And.intro (hq' it') h')) λ_ _ x=>x.elim)))
def a7Z(wi:TI)(g:TG)(tt:TT)(ta:TS):TS:=λD σ H=>wi σ H λJ H1=>pZ J g (MT tt ta) D σ H1
theorem a4E {Y:Cx} {e:Expr} (hk:CompKind e) (hc:Y.calm=true) (hx:Y.xe=λ_ _=>False) {acc:Value} {g0:Comprehension} {target iter:Expr} {ifs:List Expr} {act:Sem Unit} (hcl:clausesOf e=[g0,⟨target,iter,ifs,0⟩]) (heq:∀it:Value,compTurn e 1 it acc Y.env=gT iter.pos target ifs act e 1 it acc Y.env)
  {wi:TI} {g:TG} {tt:TT} {ta:TS} (hi:PI Y target iter wi) (hg:PG Y target g) (ht:N6 Y ifs tt) (ha:PB Y act ta) (hs:∀x,foldedSetIterable iter Y.env x=pure x) :
  PB Y (do let x <- eval iter Y.env;standAt iter.pos;let x <- foldedSetIterable iter Y.env x;let _ <- runOwn (.compStart e 1 (<- holding [x] (pyIter x)) acc Y.env) Y.env) (a7Z wi g tt ta):=by
 intro pins s σ H D I h
 have h0:=hi pins s σ H _ I h
 rw[hx] at h0
 refine a0b (a1j h0 (λv s1 h1=>?_) λ_ _ z=>z)
 refine a0b (a2y (a0b (a6b (hs v) ?_)))
 refine a0b (a2e (a1j h1 (λitv s2 h2=>?_) λ_ _ z=>z))
 obtain⟨it,fp,tn,J,H2,rfl,I2,T,st2,f2,body⟩:=h2
 have run:∀(R:Result->Ab->Prop),(∀(i:Nat) (σ':St) (H':Hp) (s':Ab),Inv Y pins σ' H' s'->D.nx σ' H'->R (.ok .next) s')->codeAny (model Y.prog Y.w) Y.A (.compLoop e 1 (.ref it) acc Y.env) R s2:=λR hR=>vX hk hc hx (heq _) hg ht ha T I2 st2 f2 body hR
 refine a0b (wpAny_runOwn (h:=none) ?_)
 refine kH (A:=Y.A) hk (by rw[hcl];rfl) (run _ λi σ' H' s' I' q=>?_) (T.self _ 0 _ _ _ st2 (run _ λi σ' H' s' I' q=>?_))
 ·exact a0d ⟨σ',H',I',q⟩
 ·exact a0d ⟨σ',H',I',q⟩
theorem GW {prog:Program} {w:World} {A:Around} {E:Value->Shared->Prop} {s:Shared} {a:Addr} {S:Int->Bool} {n:Nat} {k:Int} {key:Value} {Q:Value->Shared->Prop} (hkey:(intKind prog w).is k key=true) (hsc:key.scannable=true) (hS:bW prog w a S n s.heap) (hroom:n+1<scanBound)
  (h:∀h',Heap.SameBut a s.heap h'->bW prog w a (λk'=>S k'||decide (k'=k)) (if S k then n else n+1) h'->Q .none {s with heap:=h',toks:=s.toks+1}) :
  wpAny (model prog w) A (call (.builtin "set.add") [.ref a,key]) Q E s:=by
 have hT:s.TypeIs (.ref a) "set":=by
  obtain⟨o,es,ep,t,ho,hex,_⟩:=hS
  exact⟨o,ho,hex.1⟩
 refine a3e F.slot_set_add hT F.entry_set_add ?_ (F.args_set_add_2 _ _)
 unfold Builtin.«set.add» Builtin.Frozenset.oneOther
 simp only[List.isEmpty_nil,bind_assoc]
 unfold Builtin.Frozenset.addrOf setAdd
 refine a0b (a0d ?_)
 try dsimp only
 refine a0b (a0d ?_)
 try dsimp only
 refine a0b ?_
 refine a2e ?_
 refine a0b ((intKind prog w).pyHash hkey ?_)
 refine n0 (s:={s with toks:=s.toks+1}) hkey hsc hS hroom λh' hsb hS'=>?_
 show wpAny _ _ (ret Value.none) _ _ _
 exact a0d ⟨_,rfl,h h' hsb hS'⟩
def a56(P:Program)(w:World)(te:TE)(acc:Ac):TS:=λD σ H=>te σ H λv H1=>∃i S n,v= .int i/\H1 acc=some (f6 P w acc S n)/\n<1000/\D.nx σ (bX H1 acc (f6 P w acc (λk=>S k||decide (k=i)) (if S i then n else n+1)))
theorem a13{Y:Cx}(hx:Y.xe=λ_ _=>False){elt:Expr}{te:TE}{acc:Addr}(he:PE Y elt te):PB Y (do let v <- eval elt Y.env;standAt elt.pos;let _ <- call (.builtin "set.add") [.ref acc,v]) (a56 Y.prog Y.w te acc):=by
 intro pins s σ H D I h
 have h0:=he pins s σ H _ I h
 rw[hx] at h0
 refine a0b (a1j h0 (λv s1 h1=>?_) λ_ _ z=>z)
 obtain⟨x,H1,I1,r1,i,S,n,rfl,ha,hn,q⟩:=h1
 obtain⟨tk,rfl⟩:=r1
 obtain⟨hX,_,_⟩ : bW Y.prog Y.w acc S n s1.heap/\(∃o,s1.heap.get? acc=some o)/\(∀h1 h2:Heap,bW Y.prog Y.w acc S n h1->(∀o,h1.get? acc=some o->h2.get? acc=some o)->bW Y.prog Y.w acc S n h2):=I1.hok acc _ ha
 refine a0b (a2y (a0b (GW (k:=i) (by simp[intKind,Value.isInt]) rfl hX (a2u (Nat.succ_le_of_lt hn) (by decide)) λh' sb hX'=>a0d ⟨σ,_,?_,q⟩)))
 refine I1.write (t':=s1.toks+1) (x:=acc) (e:=acc) (by rw[ha];trivial) (.inl rfl) (λb u hb e=>(sb.2 b hb).trans e) ?_ hX'.ok
 obtain⟨o,_,_,_,ho,_⟩:=hX'
 exact⟨o,ho⟩
def a7P(P:Program)(w:World)(wi:TI)(g:TG)(tt:TT)(ta:Addr->TS)(n:Nat)(cap:List Nat):TE:=λσ H Q=>wi σ H λJ H1=>∀acc,H1 acc=none->
 pZ J g (MT tt (ta acc)) {nx:=λ_ H'=>Q (.ref acc) H',rt:=λ_ _=>False} (yO n cap σ) (bX H1 acc (f6 P w acc (λ_=>false) 0))
section
variable{X:Cx}{elt target iter:Expr}{ifs:List Expr}{scope:Scope}{pos:Pos}{N':List Str}{n:Nat}{cap:List Nat}{wi:TI}{g:TG}{tt:TT}{ta:Ac->TS}{gs:List Comprehension}{act:Value->Env->Sem Unit}
theorem a4I (hc:X.calm=true) (S:LcOk X.N X.env.scope scope N' n cap) (heq:∀it acc env,compTurn (.SetComp elt (⟨target,iter,ifs,0⟩::gs) scope pos) 0 it acc env=gT iter.pos target ifs (act acc env) (.SetComp elt (⟨target,iter,ifs,0⟩::gs) scope pos) 0 it acc env)
  (hi:PI X target iter wi) (hg:∀C s H fp,PG (b6 X N' scope C s H fp) target g)
  (ht:∀C s H fp,N6 (b6 X N' scope C s H fp) ifs tt) (ha:∀acc C s H fp,PB (b6 X N' scope C s H fp) (act (.ref acc) (b6 X N' scope C s H fp).env) (ta acc)) (hs:∀x,foldedSetIterable iter X.env x=pure x:=by intro _;rfl) :
  PE X (.SetComp elt (⟨target,iter,ifs,0⟩::gs) scope pos) (a7P X.prog X.w wi g tt ta n cap):=by
 intro pins s σ H Q I h
 have hfree:∀y∈scope.names,y.2= .free->∃c,X.env.cells.lookup y.1=some c:=λy hy e=>I.ok.has y.1 (.inl (S.frees y hy e))
 show wpAny _ _ (comprehension (.SetComp elt (⟨target,iter,ifs,0⟩::gs) scope pos) scope X.env (firstIterPos (⟨target,iter,ifs,0⟩::gs) pos) (newSet (.type "set")) (firstAsync (⟨target,iter,ifs,0⟩::gs)) (firstIter (⟨target,iter,ifs,0⟩::gs) X.env)) _ _ s
 refine a5a (use:=none) rfl hs (jI hfree) S.kind S.names ?_
 refine d8 (hi pins s σ H _ I h) λv s1 h1=>d8 h1 λitv s2 h2=>?_
 obtain⟨it,fp,tn,J,H2,rfl,I2,T,st2,f2,body⟩:=h2
 refine Q5 λo hX=>?_
 have hacc:H2 s2.heap.objs.size=none:=I2.fresh
 have kp:∀b u,s2.heap.get? b=some u->(s2.heap.push o).get? b=some u:=λb u e=>a0f _ e
 have I3:Inv X pins σ (bX H2 s2.heap.objs.size (f6 X.prog X.w s2.heap.objs.size (λ_=>false) 0)) {s2 with heap:=s2.heap.push o}:=I2.laid (t':=s2.toks) kp (a0o _) hX.ok
 have body:=body _ hacc
 have hlt:∀b∈fp,b<s2.heap.objs.size:=λb hb=>by
  obtain⟨o,e,_⟩:=T.obj 0 _ st2 b hb
  exact a0q e
 have hf3:∀b∈fp,iY X pins (bX H2 s2.heap.objs.size (f6 X.prog X.w s2.heap.objs.size (λ_=>false) 0)) b:=λb hb=>
  ⟨by rw[aL (a0x (hlt b hb))];exact (f2 b hb).1,(f2 b hb).2⟩
 refine a5s S.nocell (by intro y hy;cases hy) (λh4 ns4 sb4=>?_) S.kind
 generalize hs3:({s2 with heap:=s2.heap.push o}:Ab)=s3 at*
 have hsz:s2.heap.objs.size<s3.heap.objs.size:=by rw[<- hs3,a2x];exact a2p _
 have k4:∀b o,s3.heap.get? b=some o->h4.get? b=some o:=λb o e=>(sb4.2 b (a0x (a0q e))).trans (a0f _ e)
 generalize hH3:bX H2 s2.heap.objs.size (f6 X.prog X.w s2.heap.objs.size (λ_=>false) 0)=H3 at*
 have IY:=qN (tk:=s3.toks+([]:List (Str×Value)).length) S I3 hf3 (λb hb=>a2r (hlt b hb) hsz) ns4 k4
 have fpY:∀b∈fp,iY (b6 X N' scope s3.heap.objs.size s3 H3 fp) [] H3 b:=λb hb=>by
  obtain⟨f0,f1,f2',f3,f4,f5⟩:=hf3 b hb
  refine⟨f0,a0x (a2r (hlt b hb) hsz),λz=>?_,.inl hb,λx c e=>f4 x c (jH hfree e),λp hp=>absurd hp (by simp[b6])⟩
  rcases a0l.mp (I3.stkSub b z) with z|z
  ·exact f1 z
  ·exact f2' z
 have tn4:tn 0 h4:=T.keep 0 _ _ st2 λb hb o e=>k4 b o (by rw[<- hs3];exact a0f _ e)
 have loop:codeAny (model X.prog X.w) X.A (.compLoop (.SetComp elt (⟨target,iter,ifs,0⟩::gs) scope pos) 0 (.ref it) (.ref s2.heap.objs.size) (b6 X N' scope s3.heap.objs.size s3 H3 fp).env)
   (compPost (model X.prog X.w) X.A X.xe none (EP X pins σ Q) (.ref s2.heap.objs.size) s3.heap.objs.size) {s3 with heap:=h4,toks:=s3.toks+([]:List (Str×Value)).length}:=by
  refine vX (Y:=b6 X N' scope s3.heap.objs.size s3 H3 fp) (.set _ _ _ _) hc rfl (heq _ _ _) (hg _ _ _ _) (ht _ _ _ _) (ha _ _ _ _ _) T IY tn4 fpY body λi σ5 H5 s6 I6 qn=>?_
  obtain⟨m,hn,_⟩:=I6.loc
  refine⟨m,hn,λh' hs'=>⟨.ref s2.heap.objs.size,H5,?_,rfl,qn⟩⟩
  have ub:=I6.base
  have ne:∀b o,s3.heap.get? b=some o->b≠s3.heap.objs.size:=λb o e=>a0x (a0q e)
  refine I3.call' (s':={s6 with heap:=h'}) (ch:=fp) I6.os ⟨λb o e z1 z2 z3=>(hs'.2 b (ne b o e)).trans (ub.keep b o e z1 z2 z3),λb o e z1 z2 z3=>?_,ub.free,λb o e z=>?_,ub.tups,ub.frzs,ub.tbls⟩ (vB I6.hok I6.free hs') I6.bare λb hb=>⟨(hf3 b hb).2.2.2.1,(hf3 b hb).2.1,(hf3 b hb).2.2.2.2.1,(hf3 b hb).2.2.2.2.2⟩
  ·obtain⟨sl,e'⟩:=ub.slot b o e z1 z2 z3
   exact⟨sl,(hs'.2 b (ne b o e)).trans e'⟩
  ·obtain⟨o',e'⟩:=ub.there b o e z
   exact⟨o',(hs'.2 b (ne b o e)).trans e'⟩
 exact kH (.set _ _ _ _) rfl loop (T.self _ 0 _ _ _ tn4 loop)
end
def aV(ks:List Int):List Int:=P9 ks.eraseDups
theorem bZ{ks:List Int}{k:Int}:k∈aV ks↔k∈ks:=by
 unfold aV
 rw[(p7 _).mem_iff,List.mem_eraseDups]
theorem SF(ks:List Int):(aV ks).Pairwise (·<=·):=BN _
theorem mF:∀(n:Nat) (ks:List Int),ks.length<=n->ks.eraseDups.Nodup
 | 0,ks,h=>by
  have:ks=[]:=a3l.mp ∅
  subst this;simp
 |n+1,[],h=>by simp
 | n+1,k::ks,h=>by
  rw[List.eraseDups_cons,a2k]
  refine⟨λz=>?_,mF n _ ?_⟩
  ·rw[List.mem_eraseDups,a2l] at z
   simp at z
  ·have:=a4j (λb=>!b==k) ks
   simp at h;omega
theorem iI(ks:List Int):(aV ks).Pairwise (· < ·):=by
 have h2:(aV ks).Nodup:=(p7 _).nodup_iff.mpr (mF _ ks (a0o _))
 exact ((SF ks).and h2).imp fun {x y} ⟨h1,h2⟩=>by omega
theorem MB{as bs:List Int}(ha:as.Pairwise (· < ·))(hb:bs.Pairwise (· < ·))(h:∀k,k∈as↔k∈bs):as=bs:=by
 refine zA ?_ (ha.imp λh=>by omega) (hb.imp λh=>by omega)
 exact (List.perm_ext_iff_of_nodup (ha.imp λh=>by omega) (hb.imp λh=>by omega)).mpr h
theorem FT{ks ms:List Int}(hm:ms.Pairwise (· < ·))(h:∀k,k∈ms↔k∈ks):ms=aV ks:=MB hm (iI ks) λk=>(h k).trans bZ.symm
abbrev G3:=List Int->b9->(List Int->b9->Prop)->Prop
def wM(te:b5):G3:=λacc env K=>te env λv=>match v with
 |.int i=>acc.length<63/\K (acc++[i]) env
 |_=>False
def mR(g:iS)(tt:gJ)(a:G3)(K:List Int->b9->Prop):List PV->List Int->b9->Prop
 |[],acc,env=>K acc env
 |x::xs,acc,env=>g x env λenv1=>tt env1 λk=>Br k (a acc env1 λacc' env2=>mR g tt a K xs acc' env2) (mR g tt a K xs acc env1)
def ER(s:mS)(g:iS)(tt:gJ)(a:G3):G3:=λacc env K=>s env λitems=>mR g tt a K items acc env
def o7(s:mS)(g:iS)(tt:gJ)(a:G3)(cp:b9->b9):b5:=λenv Q=>s env λitems=>mR g tt a (λacc _=>Q (.lst ((aV acc).map PV.int))) items [] (cp env)
structure SetIn(P:Program)(w:World)(acc:Addr)(H0:Hp)(W:Wd)(H:Hp)(ks:List Int):Prop where
 ex:∃S n,H acc=some (f6 P w acc S n)/\(∀k,S k=true↔k∈ks)/\n<=ks.length
 few:ks.length<=63
 new:H0 acc=none
 nF:¬W.F acc
 nS:¬W.S acc
 nL:¬W.L acc
 nZ:¬W.Z acc
structure Ga(acc:Addr)(W:Wd)(H:Hp)(W':Wd)(H':Hp):Prop where
 ga:∀W1 H1,H1 acc=none->Go W1 H1 W H->Go W1 H1 W' H'
 ex:Ex W H W' H'
theorem Ga.refl{acc:Ac}{W:Wd}{H:Hp}:Ga acc W H W H:=⟨λ_ _ _ g=>g,.refl⟩
theorem Ga.trans{acc:Ac}{W W1 W2:Wd}{H H1 H2:Hp}(a:Ga acc W H W1 H1)(b:Ga acc W1 H1 W2 H2):Ga acc W H W2 H2:=⟨λV G h g=>b.ga V G h (a.ga V G h g),a.ex.trans b.ex⟩
theorem Go.toGa{acc:Ac}{W W':Wd}{H H':Hp}(g:Go W H W' H')(w:Wok W H):Ga acc W H W' H':=⟨λ_ _ _ k=>k.trans g,g.ex w⟩
theorem SetIn.go{P:Program}{w:World}{acc:Addr}{H0:Hp}{W W':Wd}{H H':Hp}{ks:List Int}(x:SetIn P w acc H0 W H ks)(g:Go W H W' H'):SetIn P w acc H0 W' H' ks:=by
 obtain⟨S,n,h1,h2,h3⟩:=x.ex
 exact⟨⟨S,n,g.kp acc _ h1 x.nS,h2,h3⟩,x.few,x.new,g.nFF h1 x.nF,g.nSS h1 x.nS,by rw[g.kl];exact x.nL,g.nZZ h1 x.nZ⟩
def PZ(P:Program)(w:World)(K:PySem.W.Frag)(mb mn:List Md)(a:G3)(acc:Addr):TS:=λD σ H=>∃(env:b9) (W0:Wd) (H0:Hp) (W:Wd) (ks:List Int) (Kp:List Int->b9->Prop),Rl K mb W0 H0 W σ env H/\SetIn P w acc H0 W H ks/\a ks env Kp/\
 ∀(env':b9) (W':Wd) (σ':St) (H':Hp) (ks':List Int),Rl K mn W0 H0 W' σ' env' H'->Ga acc W H W' H'->SetIn P w acc H0 W' H' ks'->Kp ks' env'->D.nx σ' H'
structure VB(Y:Cx)(mb mn:List Md)(m:Addr->Sem Unit)(a:G3):Prop where
 h:∀acc,PB Y (m acc) (PZ Y.prog Y.w Y.K mb mn a acc)
theorem PB.imp{Y:Cx}{m:Sem Unit}{t t':TS}(h:PB Y m t)(k:∀D σ H,t' D σ H->t D σ H):PB Y m t':=λpins s σ H D I q=>h pins s σ H D I (k D σ H q)
theorem a2O {Y:Cx} (hx:Y.xe=λ_ _=>False) {mb:List Md} {elt:Expr} {te:b5} (hb:mD mb=true) (he:VE Y mb elt .bw te):VB Y mb mb (λacc=>do let v <- eval elt Y.env;standAt elt.pos;let _ <- call (.builtin "set.add") [.ref acc,v]) (wM te):=⟨λacc=>(a13 hx he.h).imp λD σ H h=>by
 obtain⟨env,W0,H0,W,ks,Kp,R,x,q,k⟩:=h
 refine⟨env,W0,H0,W,_,R,q,λv u W1 H1 g1 r1 q1=>?_⟩
 have x1:=x.go g1
 obtain⟨S,n,h1,h2,h3⟩:=x1.ex
 cases v with
 | int i=>
  have:=Rep.ofInt r1
  subst this
  have hfew:=x1.few
  refine⟨i,S,n,rfl,h1,by omega,?_⟩
  refine k env W1 σ _ (ks++[i]) ((R.step g1).tmp hb x1.new x1.nF x1.nS x1.nL x1.nZ h1 rfl (λ_ _ z=>by cases z)) ?_ ⟨⟨_,_,bM,λj=>?_,?_⟩,by have:=q1.1;simp;omega,x1.new,x1.nF,x1.nS,x1.nL,x1.nZ⟩ q1.2
  ·refine (g1.toGa R.ok).trans ⟨λV G hG g=>g.tmp hG x1.nF x1.nS x1.nZ,⟨λ_ h=>h,λb o f e=>by rw[aL (λz=>by subst z;exact x1.nF f)];exact e,λb o im e=>by rw[aL (λz=>by subst z;rw[h1] at e;cases e;cases im)];exact e⟩⟩
  ·rw[a2o,h2 j,a5c,a1c,a5t]
  ·rw[a1l]
   split
   ·exact a1b h3 (Nat.le_add_right _ _)
   ·exact Nat.succ_le_succ h3
 |_=>exact q1.elim⟩
theorem JF {P:Program} {w:World} {K:PySem.W.Frag} {mb m1 m2:List Md} {eli:El} {g:iS} {tt:gJ} {a:G3} {acc:Addr} {J:It} {items:List PV} {W0 W1:Wd} {H0 H1:Hp} {Kp:List Int->b9->Prop} {D:Ends} (hle:jL m1 mb=true) (hle2:jL m2 mb=true) (sr:Src J eli H0 W1 H1 items)
  {σ:St} {env:b9} {ks:List Int} (q:mR g tt a Kp items ks env) {W2:Wd} {H2:Hp} (R:Rl K mb W0 H0 W2 σ env H2) (x12:Ex W1 H1 W2 H2) (x:SetIn P w acc H0 W2 H2 ks)
  (k:∀(env':b9) (W':Wd) (σ':St) (H':Hp) (ks':List Int),Rl K mb W0 H0 W' σ' env' H'->Ga acc W2 H2 W' H'->SetIn P w acc H0 W' H' ks'->Kp ks' env'->D.nx σ' H') :
  pZ J (tX K mb m1 eli g) (MT (tY K m1 tt) (PZ P w K m1 m2 a acc)) D σ H2:=by
 refine ⟨λi m σb Hb=>m=items.length-i/\i<=items.length/\∃(envb:b9) (Wb:Wd) (kb:List Int),Rl K mb W0 H0 Wb σb envb Hb/\Ga acc W2 H2 Wb Hb/\SetIn P w acc H0 Wb Hb kb/\mR g tt a Kp (items.drop i) kb envb,
  ⟨items.length,by simp,a3c _,env,W2,ks,R,.refl,x,by simpa using q⟩,?_⟩
 rintro i m σb Hb ⟨rfl,hi,envb,Wb,kb,Rb,gab,xb,qb⟩
 have exb:Ex W1 H1 Wb Hb:=x12.trans gab.ex
 by_cases hlt:i<items.length
 ·rw [a3g hlt] at qb
  refine .inr ⟨sr.go i Wb Hb exb hlt,λσ' H'=>i+1<=items.length/\∃(envb:b9) (Wb:Wd) (kb:List Int),Rl K mb W0 H0 Wb σ' envb H'/\Ga acc W2 H2 Wb H'/\SetIn P w acc H0 Wb H' kb/\mR g tt a Kp (items.drop (i+1)) kb envb,λσ' H' z=>⟨items.length-(i+1),by omega,rfl,z.1,z.2⟩,λv H3 y=>?_⟩
  obtain⟨g3,xx,ex,rx⟩:=sr.yld i Wb Hb v H3 exb Rb.ok hlt y
  rw[a0a hlt] at ex
  cases ex
  refine⟨envb,W0,H0,Wb,_,_,Rb.step g3,rx,qb,λenv' σ' R' z=>?_⟩
  refine⟨env',W0,H0,Wb,_,R',z,λkk W4 H4 g4 q4=>?_⟩
  have x4:=(xb.go g3).go g4
  have ga4:Ga acc W2 H2 W4 H4:=(gab.trans (g3.toGa Rb.ok)).trans (g4.toGa g3.ok)
  cases kk with
  | false=>
   dsimp only
   rw[if_neg a0m]
   exact⟨hlt,env',W4,kb,(R'.step g4).less hle,ga4,x4,q4⟩
  | true=>
   dsimp only
   rw[if_pos rfl]
   exact⟨env',W0,H0,W4,kb,_,R'.step g4,x4,q4,λenv5 W5 σ5 H5 k5 R5 ga5 x5 q5=>⟨hlt,env5,W5,k5,R5.less hle2,ga4.trans ga5,x5,q5⟩⟩
 ·have e:i=items.length:=by omega
  subst e
  rw[a5k] at qb
  exact .inl ⟨sr.stop Wb Hb exb,k envb Wb σb Hb kb Rb gab xb qb⟩
theorem a5K {Y:Cx} (hc:Y.calm=true) (hx:Y.xe=λ_ _=>False) {elt target0 iter0 target iter:Expr} {ifs0 ifs:List Expr} {scope:Scope} {pos:Pos} {mb m1 m2:List Md} {eli:El} {s:mS} {g:iS} {tt:gJ} {a:G3}
  (hle:jL m1 mb=true) (hle2:jL m2 mb=true) (hi:VI Y mb eli target iter s) (hg:VG Y mb m1 eli target g) (ht:VTs Y m1 ifs tt) (ha:VB Y m1 m2 (λacc=>do let v <- eval elt Y.env;standAt elt.pos;let _ <- call (.builtin "set.add") [.ref acc,v]) a)
  (hs:∀x,foldedSetIterable iter Y.env x=pure x:=by intro _;rfl) :
  VB Y mb mb (λacc=>do let x <- eval iter Y.env;standAt iter.pos;let x <- foldedSetIterable iter Y.env x;let _ <- runOwn (.compStart (.SetComp elt [⟨target0,iter0,ifs0,0⟩,⟨target,iter,ifs,0⟩] scope pos) 1 (<- holding [x] (pyIter x)) (.ref acc) Y.env) Y.env) (ER s g tt a):=
 ⟨λacc=>(a4E (e:=.SetComp elt [⟨target0,iter0,ifs0,0⟩,⟨target,iter,ifs,0⟩] scope pos) (.set _ _ _ _) hc hx (act:=do let v <- eval elt Y.env;standAt elt.pos;let _ <- call (.builtin "set.add") [.ref acc,v]) rfl (λit=>rfl) hi.h hg.h ht.h (ha.h acc) hs).imp λD σ H h=>by
 obtain⟨env,W0,H0,W,ks,Kp,R,x,q,k⟩:=h
 refine⟨env,W0,H0,W,_,R,q,λitems W1 H1 J g1 sr q1=>?_⟩
 exact JF hle hle2 sr q1 (R.step g1) .refl (x.go g1) λenv' W' σ' H' ks' R' ga x' q'=>k env' W' σ' H' ks' R' ((g1.toGa R.ok).trans ga) x' q'⟩
theorem WP {P:Program} {w:World} {K:PySem.W.Frag} {md mb m2:List Md} {eli:El} {s:mS} {g:iS} {tt:gJ} {a:G3} {n:Nat} {cap:List Nat} {σ:St} {H:Hp} {Q:VK} {cp:b9->b9} (hcp:∀env,cp env=oC n cap env) (hle:jL mb (f7 n cap md)=true) (hle2:jL m2 (f7 n cap md)=true)
  (h:fY K md (.o .fl) (o7 s g tt a cp) σ H Q):Y9 (FD P w) (FS (a7P P w (wD K md eli s) (tX K (f7 n cap md) mb eli g) (tY K mb tt) (λacc=>PZ P w K mb m2 a acc) n cap) S9) σ H Q:=by
 obtain⟨env,W0,H0,W,Q',R,q,k⟩:=h
 refine⟨env,W0,H0,W,_,R,q,λitems W1 H1 J g1 sr q1=>?_⟩
 intro acc hacc
 rw[hcp] at q1
 have h0acc:H0 acc=none:=R.go.free (g1.free hacc)
 have R1:=R.step g1
 have Rb:=CJ (n:=n) (cap:=cap) R1 (λa=>∃o,H1 a=some o) (λa o e=>⟨o,e⟩)
 generalize hW1b:({W1 with L:=λa=>∃o,H1 a=some o}:Wd)=W1b at Rb
 generalize hW0b:({W0 with L:=λa=>∃o,H1 a=some o}:Wd)=W0b at Rb
 have f1:W1b.F=W1.F:=by rw[<- hW1b]
 have s1:W1b.S=W1.S:=by rw[<- hW1b]
 have l1:¬W1b.L acc:=by rw[<- hW1b];rintro⟨o,e⟩;rw[hacc] at e;cases e
 have okb:Wok W1b H1:=Rb.ok
 have nF1:¬W1b.F acc:=λz=>okb.offF hacc z
 have nS1:¬W1b.S acc:=λz=>okb.offS hacc z
 have nZ1:¬W1b.Z acc:=λz=>okb.offZ hacc z
 have z1:W1b.Z=W1.Z:=by rw[<- hW1b]
 have gl:Go W1b H1 W1b (bX H1 acc (f6 P w acc (λ_=>false) 0)):=Go.laid okb hacc
 have exW:Ex W1 H1 W1b (bX H1 acc (f6 P w acc (λ_=>false) 0)):=by
  have x:=gl.ex okb
  exact⟨λa h=>by rw[f1];exact h,λa o h e=>x.kp a o (by rw[f1];exact h) e,x.im⟩
 refine JF hle hle2 sr q1 (Rb.step gl) exW ⟨⟨_,_,bM,λk=>by simp,a0o 0⟩,a3c _,h0acc,nF1,nS1,l1,nZ1⟩ λenvb Wb σb Hb kb Rr ga x qb=>?_
 have gb:Go W1b H1 Wb Hb:=ga.ga W1b H1 hacc gl
 have gf:Go W H {Wb with L:=W.L} Hb:=by
  have a:=g1
  refine⟨λb h=>gb.lF b (by rw[f1];exact a.lF b h),λb h=>gb.lS b (by rw[s1];exact a.lS b h),λb h=>?_,λb h=>?_,λb o e s=>?_,⟨gb.ok.fF,gb.ok.sS,gb.ok.dj,gb.ok.zZ,gb.ok.zF,gb.ok.zS⟩,?_,rfl,λb h=>gb.lZ b (by rw[z1];exact a.lZ b h),λb h=>?_⟩
  ·rcases gb.nF b h with z|z
   ·exact a.nF b (by rw[<- f1];exact z)
   ·exact .inr (a.free z)
  ·rcases gb.nS b h with z|z
   ·exact a.nS b (by rw[<- s1];exact z)
   ·exact .inr (a.free z)
  ·refine gb.kp b o (a.kp b o e s) ?_
   rw[s1];exact a.nSS e s
  ·show Wb.K=W.K
   rw[gb.kk,<- hW1b];exact a.kk
  ·rcases gb.nZ b h with z|z
   ·exact a.nZ b (by rw[<- z1];exact z)
   ·exact .inr (a.free z)
 obtain⟨S,m,h1,h2,h3⟩:=x.ex
 refine⟨acc,S,m,rfl,h1,by have:=x.few;omega,λl ms hl hlt hms=>?_⟩
 have:ms=aV kb:=FT hlt λj=>(hms j).symm.trans (h2 j)
 subst this
 exact (k.after gf).newL gf.ok hl (tF _) qb
theorem a5I (elt target iter target2 iter2 : Expr) (ifs ifs2 : List Expr) (scope : Scope) (pos : Pos) (it acc : Value) (env : Env) :
   compTurn (.SetComp elt [⟨target,iter,ifs,0⟩,⟨target2,iter2,ifs2,0⟩] scope pos) 0 it acc env=gT iter.pos target ifs (do let x <- eval iter2 env;standAt iter2.pos;let x <- foldedSetIterable iter2 env x;let _ <- runOwn (.compStart (.SetComp elt [⟨target,iter,ifs,0⟩,⟨target2,iter2,ifs2,0⟩] scope pos) 1 (<- holding [x] (pyIter x)) acc env) env) (.SetComp elt [⟨target,iter,ifs,0⟩,⟨target2,iter2,ifs2,0⟩] scope pos) 0 it acc env:=by
  have e:compTurn (.SetComp elt [⟨target,iter,ifs,0⟩,⟨target2,iter2,ifs2,0⟩] scope pos) 0 it acc env=(do
      standAt iter.pos
      match <- pyNext it with
      |none=>pure (.done .next)
      | some v=>
        letOwnedTupleGo target it v
        assign target env v
        let mut ok:=true
        for c in ifs do
          if ok then ok <- isTrue c env (eval c env)
        if ok then
          let x <- eval iter2 env
          standAt iter2.pos
          let x <- foldedSetIterable iter2 env x
          let _ <- runOwn (.compStart (.SetComp elt [⟨target,iter,ifs,0⟩,⟨target2,iter2,ifs2,0⟩] scope pos) 1 (<- holding [x] (pyIter x)) acc env) env
        again (.compLoop (.SetComp elt [⟨target,iter,ifs,0⟩,⟨target2,iter2,ifs2,0⟩] scope pos) 0 it acc env)):=by rfl
  rw[e]
  unfold gT
  refine a7i λ_=>?_
  refine a7i λo=>?_
  cases o with
  |none=>rfl
  | some v=>
    refine a7i λ_=>?_
    refine a7i λ_=>?_
    refine a7i λok=>?_
    cases ok with
    |false=>rfl
    | true=>
      simp only[a6e,bind_assoc,pure_bind]
section
variable{X:Cx}{elt target iter target2 iter2:Expr}{ifs ifs2:List Expr}{scope:Scope}{pos p cpos:Pos}{N':List Str}{n:Nat}{cap:List Nat}{md mb m2:List Md}{el eli:El}{s:mS}{g:iS}{tt:gJ}{a:G3}
theorem IN {cp:b9->b9} (hcp:∀env,cp env=oC n cap env) (hc:X.calm=true) (S:LcOk X.N X.env.scope scope N' n cap) (hle:jL mb (f7 n cap md)=true) (hle2:jL m2 (f7 n cap md)=true)
  (hg0:X.env.scope.names.lookup ("sorted" : Str)=some .globalImplicit) (hm0:X.mg "sorted"=none) (hi:VI X md eli target iter s) (hg:∀C s H fp,VG (b6 X N' scope C s H fp) (f7 n cap md) mb eli target g)
  (ht:∀C s H fp,VTs (b6 X N' scope C s H fp) mb ifs tt)
  (ha:∀C s H fp,VB (b6 X N' scope C s H fp) mb m2 (λacc=>do let x <- eval iter2 (b6 X N' scope C s H fp).env;standAt iter2.pos;let x <- foldedSetIterable iter2 (b6 X N' scope C s H fp).env x;let _ <- runOwn (.compStart (.SetComp elt [⟨target,iter,ifs,0⟩,⟨target2,iter2,ifs2,0⟩] scope pos) 1 (<- holding [x] (pyIter x)) (.ref acc) (b6 X N' scope C s H fp).env) (b6 X N' scope C s H fp).env) a)
  (hs:∀x,foldedSetIterable iter X.env x=pure x:=by intro _;rfl)
  (he:starEach [.SetComp elt [⟨target,iter,ifs,0⟩,⟨target2,iter2,ifs2,0⟩] scope pos] X.env=(false,eval (.SetComp elt [⟨target,iter,ifs,0⟩,⟨target2,iter2,ifs2,0⟩] scope pos) X.env)::starEach [] X.env:=by rfl) (hpl:(backTo cpos (starEach [] X.env)).any (·.1)=false:=by rfl) :
  VE X md (.Call (.Name "sorted" p) [.SetComp elt [⟨target,iter,ifs,0⟩,⟨target2,iter2,ifs2,0⟩] scope pos] [] cpos) (.o .fl) (o7 s g tt a cp):=
 ⟨(nI (zR hc) hg0 hm0 zN (iB (a4I (act:=λacc env=>do let x <- eval iter2 env;standAt iter2.pos;let x <- foldedSetIterable iter2 env x;let _ <- runOwn (.compStart (.SetComp elt [⟨target,iter,ifs,0⟩,⟨target2,iter2,ifs2,0⟩] scope pos) 1 (<- holding [x] (pyIter x)) acc env) env) hc S (λit acc env=>a5I ..) hi.h (λC s H fp=>(hg C s H fp).h) (λC s H fp=>(ht C s H fp).h) (λacc C s H fp=>(ha C s H fp).h acc) hs) lX he) (by decide) (by decide) he hpl).imp λσ H Q h=>WP hcp hle hle2 h⟩
end
section
variable{X:Cx}{pins:List (Ac×Obj)}{σ:St}{H:Hp}{s:Ab}{h':Heap}
theorem Inv.turnL {t':Nat} {fp:List Addr} {a:Addr} {o:HO} (I:Inv X pins σ H s) (hf:∀b∈fp,iY X pins H b) (k:∀b u,b∉fp->s.heap.get? b=some u->h'.get? b=some u) (hp:s.heap.objs.size<=a) (new:cI X.prog X.w (bX H a o) h' a o) :
  Inv X pins σ (bX H a o) {s with heap:=h',toks:=t'}:=by
 have hn:H a=none:=I.hok.fresh hp
 have na:∀b u,s.heap.get? b=some u->b≠a:=λb u e=>a0x (a0z (a0q e) hp)
 have nt:∀b u,H b=some u->b≠a:=λb u e z=>by rw[z,hn] at e;cases e
 have nf:∀b u,H b=some u->b∉fp:=λb u e z=>by rw[(hf b z).1] at e;cases e
 refine I.step (g':=s.gens) (d':=s.drawn) (ch:=fp) (λb hb=>?_) (λb o _ _ hc e _=>k b o hc e) (λb o _ _ hc e _=>⟨o.slots,k b o hc e⟩) (λb u _ e n=>by rw[aL (na b u e)];exact n)
  (λb o hc e=>⟨o,k b o hc e⟩) (λb _ e=>by rw[aL (nt b _ e)];exact e) (λb _ _ e=>by rw[aL (nt b _ e)];exact e) (λb e=>by rw[aL (nt b _ e)];exact e) (λm hm=>?_) (λb u e=>?_) I.bare
 ·obtain⟨f0,f1,f2,f3,f4,f5⟩:=hf b hb
  exact⟨f3,f1,f4,f5⟩
 ·obtain⟨o,es,ep,ho,r⟩:=hm
  exact⟨o,es,ep,k _ o (λz=>(hf _ z).2.1 rfl) ho,r⟩
 ·by_cases hb:b=a
  ·subst hb;rw[bM] at e;cases e;exact new
  ·rw[aL hb] at e
   refine (I.hok b u e).stay (λc v hc q=>k c v ?_ q) (λc q=>by rw[aL (nt c _ q)];exact q) λc xs q=>by rw[aL (nt c _ q)];exact q
   rcases hc with z|z
   ·rw[z];exact nf b u e
   ·exact nf c _ z
end
def a66(K:PySem.W.Frag)(a:Addr):It:=
 ⟨λi H=>∃xs x,dO K H a xs/\xs[i]? =some x,λi H v H'=>∃t x,H t=none/\v= .ref t/\H'=bX H t (.tup [.int i,x])/\∀xs,dO K H a xs->xs[i]? =some x,λi H=>∃xs,dO K H a xs/\xs.length<=i⟩
theorem MU {P:Program} {w:World} {K:PySem.W.Frag} {elts:List Expr} {x1} {pos:Pos} (a it e:Addr) (hne:e≠it) :
  Turn P w K (.Tuple elts x1 pos) (a66 K a) [e,it] e (λi h=>(∃old,IsEnum h e it i old)/\h.IsListIter it a i) where
 mem:=by simp
 obj:=λi h st b hb=>by
  obtain⟨⟨old,he⟩,o,q,c,d⟩:=st
  simp only[a0l,a0y,a2i] at hb
  rcases hb with rfl|rfl
  ·exact⟨_,he,λv z=>by cases z⟩
  ·exact⟨o,q,λv z=>by rw[d] at z;cases z⟩
 keep:=λi h h' st k=>by
  obtain⟨⟨old,he⟩,hi⟩:=st
  exact⟨⟨old,k e (by simp) _ he⟩,hi.at λo q=>k it (by simp) o q⟩
 item:=by
  intro X hP hw hK hc i pins s σ H E I hf st hg
  subst hP hw hK
  obtain⟨⟨old,he⟩,hi⟩:=st
  obtain⟨xs,x,hq,hx⟩:=hg
  obtain⟨its,rv,p,hz⟩:=I.list hq
  obtain⟨u,hu,ru⟩:=rv.get hx
  refine wpAny_pyNext_enum_item he hi p.isList (x:=u) (by simpa using hu) hne λh1 heo hi1 ht hsz hk=>?_
  refine⟨.ref s.heap.objs.size,rfl,wpAny_letOwnedTupleGo_enum (s:={s with heap:=h1,toks:=s.toks+1}) heo λh2 he2 sb=>?_⟩
  have hes:s.heap.objs.size≠e:=a4t (a0q he)
  have hfr:H s.heap.objs.size=none:=I.hok.fresh (a0o _)
  have hf2:∀b∈[e,it],(bX H s.heap.objs.size (.tup [.int i,x])) b=none:=λb hb=>by
   have hb':b≠s.heap.objs.size:=by
    obtain⟨o,q,_⟩:=hi
    simp only[a0l,a0y,a2i] at hb
    rcases hb with rfl|rfl
    ·exact hes.symm
    ·exact a0x (a0q q)
   rw[aL hb'];exact (hf b hb).1
  refine⟨.ref s.heap.objs.size,bX H s.heap.objs.size (.tup [.int i,x]),I.turnL (t':=s.toks+1) hf (λb v hb q=>?_) (a0o _) ?_,rfl,⟨_,x,hfr,rfl,rfl,λys hy=>by rw[I.list_inj hy hq];exact hx⟩,⟨⟨_,he2⟩,?_⟩,hf2⟩
  ·simp only[a0l,a0y,a2i,not_or] at hb
   exact (sb.2 b hb.1).trans (hk b v hb.1 hb.2 q)
  ·exact⟨(by decide:2<=sizeLine),[.int i s.toks,u],.cons ⟨_,rfl⟩ (.cons ru .nil),_,(sb.2 _ hes).trans ht,rfl,_,rfl⟩
  ·exact hi1.at λo q=>(sb.2 it (a3b hne)).trans q
 done:=by
  intro X hP hw hK hc i pins s σ H E I hf st hg
  subst hP hw hK
  obtain⟨⟨old,he⟩,hi⟩:=st
  obtain⟨xs,hq,hx⟩:=hg
  obtain⟨its,rv,p,hz⟩:=I.list hq
  obtain⟨f0,f1,f2,f3,f4,f5⟩:=hf it (by simp)
  have hl:=rv.length
  exact wpAny_pyNext_enum_end (I.ok.hd hc) he hi p.isList (by simp;omega) λh' eb=>⟨rfl,I.turned (t':=s.toks) (λb o hb e=>eb b o hb e) f0 f1 f3 f4 f5⟩
 self:=λ_ _ _ _ _ st h=>by
  obtain⟨⟨old,he⟩,hi⟩:=st
  exact wpAny_pyIter_enum he h
def a3T(K:Aa)(ta:TA):TI:=λσ H R=>ta σ H λvs H1=>∃a,vs=[.ref a]/\(∃xs,dO K H1 a xs)/\R (a66 K a) H1
theorem L6:bootBuiltins "enumerate"=some (.type "enumerate"):=by rfl
theorem K3 {X:Cx} {a:Expr} {ta:TA} {elts:List Expr} {x1} {tpos p pos:Pos} (hg:Gl X "enumerate") (hm:X.mg "enumerate"=none) (ha:PA X [a] ta) (hs:starEach [a] X.env=[(false,eval a X.env)]:=by rfl) :
  PI X (.Tuple elts x1 tpos) (.Call (.Name "enumerate" p) [a] [] pos) (a3T X.K ta):=by
 intro pins s σ H R I h
 refine Call_ (p9 I hg hm L6 (a4h (d8 (ha pos pins s σ H _ I h) λus s1 ⟨vs,H1,I1,r1,q1⟩=>?_) hs rfl))
 obtain⟨l,e,⟨xs,hq⟩,q⟩:=q1
 subst e
 cases r1 with
 | cons r rr=>
  cases rr
  cases r
  obtain⟨its,rv,p,hz⟩:=I1.list hq
  refine call_enumerate_list p.isList λh' he hi hsz hk=>?_
  refine wpAny_pyIter_enum he ?_
  have I2:Inv X pins σ H1 {s1 with heap:=h'}:=I1.kept (t':=s1.toks) hk
  refine⟨s1.heap.objs.size+1,[s1.heap.objs.size+1,s1.heap.objs.size],_,_,H1,rfl,I2,MU l s1.heap.objs.size (s1.heap.objs.size+1) (Nat.succ_ne_self _),⟨⟨_,he⟩,hi⟩,λb hb=>?_,q⟩
  have hb':s1.heap.objs.size<=b:=by
   simp only[a0l,a0y,a2i] at hb
   rcases hb with rfl|rfl<;>omega
  exact I1.fpOk hb' (I1.hok.fresh hb')
def qJ(xs:List PV):List PV:=xs.zipIdx.map λz=>.tup [.int (z.2:Nat),z.1]
theorem hV(xs:List PV):(qJ xs).length=xs.length:=by simp[qJ]
theorem jJ{xs:List PV}{i:Nat}:(qJ xs)[i]? =(xs[i]?).map λx=>.tup [.int i,x]:=by
 rw[qJ,a0h,List.getElem?_zipIdx]
 cases xs[i]? <;>simp
def hZ(a:b5):mS:=λenv Q=>a env λx=>match x with
 |.lst xs=>Q (qJ xs)
 |_=>False
section
variable{X:Cx}{md:List Md}{el:El}{a b e tg:Expr}{pa pb pe:b5}{p pos:Pos}
theorem FO {K:PySem.W.Frag} {B:Hp} {W:Wd} {H:Hp} {l:Addr} {vs:List V} {xs:List PV} (hF:W.F l) (e:H l=some (.lst vs)) (r:Reps (el.G W.F B) H vs xs):Src (a66 K l) el B W H (qJ xs) where
 go:=λi W2 H2 x hi=>by
  rw[hV] at hi
  exact⟨vs,vs[i]'(by rw[r.len];exact hi),dO.of (x.kp l _ hF e),a0a _⟩
 stop:=λW2 H2 x=>⟨vs,dO.of (x.kp l _ hF e),by rw[r.len,hV];exact a0o _⟩
 yld:=λi W2 H2 v H3 x w hi y=>by
  obtain⟨t,u,ht,rfl,rfl,y⟩:=y
  have:=y vs (dO.of (x.kp l _ hF e))
  obtain⟨z,ez,rz⟩:=r.getV this
  have g:Go W2 H2 W2 (bX H2 t (.tup [.int i,u])):=Go.laid w ht
  have r2:=x.rep (G':=el.G W2.F B) (λ_ g=>El.GF g) (λ_ g=>El.up x.lF (λ_ h=>h) g) rz
  have r3:=g.rep w (G':=el.G W2.F B) (λ_ h=>El.nS w h) (λ_ h=>h) r2
  refine⟨g,.tup [.int i,z],by rw[jJ,ez];rfl,.tup bM rfl λj v x e1 e2=>?_⟩
  match j,e1,e2 with
  |0,e1,e2=>cases e1;cases e2;exact .int _
  |1,e1,e2=>cases e1;cases e2;exact r3
theorem sD {elts:List Expr} {x1} {tpos:Pos} (hg:X.env.scope.names.lookup (Str.ofString "enumerate")=some NameKind.globalImplicit) (hm:X.mg "enumerate"=none) (ha:VE X md a (.v el) pa) (hs:starEach [a] X.env=[(false,eval a X.env)]:=by rfl) :
  VI X md el (.Tuple elts x1 tpos) (.Call (.Name "enumerate" p) [a] [] pos) (hZ pa):=
 ⟨(K3 hg hm (a7 ha a9 hs).h hs).imp λσ H R=>by
 rintro⟨env,W0,H0,W,Q,Rr,q,k⟩
 refine⟨env,W0,H0,W,λxs=>match xs with|[.lst zs]=>Q (qJ zs)|_=>False,Rr,?_,λxs vs W1 H1 g1 r1 q1=>?_⟩
 ·show pa env _
  unfold hZ at q
  refine (iff_of_eq (congrArg (pa env) (funext λx=>?_))).mp q
  cases x<;>rfl
 ·obtain ⟨v,x,rfl,rfl,r⟩:=r1.one
  cases x with
  | lst xs=>
   obtain⟨a,vs,rfl,g,e,rs⟩:=Rep.ofList r
   exact⟨a,rfl,⟨vs,dO.of e⟩,k _ W1 H1 _ g1 (FO (El.GF g) e rs) q1⟩
  |_=>exact q1.elim⟩
theorem SK {elts:List Expr} {x1} {tpos:Pos} (hg:X.env.scope.names.lookup (Str.ofString "enumerate")=some NameKind.globalImplicit) (hm:X.mg "enumerate"=none) (ha:VE X md a (.z el) pa) (hs:starEach [a] X.env=[(false,eval a X.env)]:=by rfl) :
  VI X md el (.Tuple elts x1 tpos) (.Call (.Name "enumerate" p) [a] [] pos) (hZ pa):=
 ⟨(K3 hg hm (a7 ha a9 hs).h hs).imp λσ H R=>by
 rintro⟨env,W0,H0,W,Q,Rr,q,k⟩
 refine⟨env,W0,H0,W,λxs=>match xs with|[.lst zs]=>Q (qJ zs)|_=>False,Rr,?_,λxs vs W1 H1 g1 r1 q1=>?_⟩
 ·show pa env _
  unfold hZ at q
  refine (iff_of_eq (congrArg (pa env) (funext λx=>?_))).mp q
  cases x<;>rfl
 ·obtain ⟨v,x,rfl,rfl,r⟩:=r1.one
  cases x with
  | lst xs=>
   obtain⟨a,o,rfl,z⟩:=r
   have z2:=z.its
   have z3:=z.at_
   cases z2 with
   |lst rs=>exact⟨a,rfl,⟨_,dO.of z3⟩,k _ W1 H1 _ g1 (FO z.F z3 rs) q1⟩
  |_=>exact q1.elim⟩
end
section
variable{X:Cx}{elt target iter:Expr}{ifs:List Expr}{scope:Scope}{pos:Pos}{N':List Str}{n:Nat}{cap:List Nat}{wi:TI}{g:TG}{tt:TT}{te:TE}
theorem QZ {x:Str} {pos' pos2:Pos} {gg:TG} (hgx:PG X (.Name x pos') gg) (hsw:swapsWith (.ListComp elt [⟨target,iter,ifs,0⟩] scope pos) (some (.Name x pos')) pos2.line X.env=pure true) (hc:X.calm=true) (S:LcOk X.N X.env.scope scope N' n cap) (hi:PI X target iter wi) (hg:∀C s H fp,PG (b6 X N' scope C s H fp) target g)
    (ht:∀C s H fp,N6 (b6 X N' scope C s H fp) ifs tt) (he:∀C s H fp,PE (b6 X N' scope C s H fp) elt te) (hs:∀x,foldedSetIterable iter X.env x=pure x:=by intro _;rfl) :
    PS X (.Assign [.Name x pos'] (.ListComp elt [⟨target,iter,ifs,0⟩] scope pos) pos2) (FR (a77 wi g tt te n cap) gg):=by
  intro pins s σ H D I h
  have hfree:∀y∈scope.names,y.2= .free->∃c,X.env.cells.lookup y.1=some c:=λy hy e=>I.ok.has y.1 (.inl (S.frees y hy e))
  rw[exec_Assign_Name_used x pos' _ pos2 hsw]
  refine a0b (a2y (a0b ?_))
  rw[arm_evalThenUse_ListComp]
  refine a0b ?_
  refine a5a (use:=some (assign (.Name x pos') X.env)) (Q:=λ_ s'=>wpAny (model X.prog X.w) X.A (pure ()) (λ_ s'=>wpAny (model X.prog X.w) X.A (pure Flow.next) (SP X pins D) X.xe s') X.xe s') rfl hs (jI hfree) S.kind S.names ?_
  refine d8 (hi pins s σ H _ I h) λv s1 h1=>d8 h1 λitv s2 h2=>?_
  obtain⟨it,fp,tn,J,H2,rfl,I2,T,st2,f2,body⟩:=h2
  refine a2b ?_
  have I3:=I2.lnew (ys:=[]) (its:=[]) (t':=s2.toks) .nil (a3c _)
  have hacc:H2 s2.heap.objs.size=none:=I2.fresh
  obtain⟨W,⟨m0,w0⟩,turn⟩:=body _ hacc
  have hlt:∀b∈fp,b<s2.heap.objs.size:=λb hb=>by
    obtain⟨o,e,_⟩:=T.obj 0 _ st2 b hb
    exact a0q e
  have hf3:∀b∈fp,iY X pins (bX H2 s2.heap.objs.size (.lst [])) b:=λb hb=>
    ⟨by rw[aL (a0x (hlt b hb))];exact (f2 b hb).1,(f2 b hb).2⟩
  refine a5s S.nocell (by intro y hy;cases hy) (λh4 ns4 sb4=>?_) S.kind
  generalize hs3:({s2 with heap:=s2.heap.push {cls:=.type "list",dict:=none,data:=.seq ([]:List Value).toArray} }:Ab)=s3 at*
  have hsz:s2.heap.objs.size<s3.heap.objs.size:=by rw[<- hs3,a2x];exact a2p _
  have k4:∀b o,s3.heap.get? b=some o->h4.get? b=some o:=λb o e=>(sb4.2 b (a0x (a0q e))).trans (a0f _ e)
  generalize hH3:bX H2 s2.heap.objs.size (.lst [])=H3 at*
  have I3':Inv X pins σ H3 s3:=I3
  have IY:=qN (tk:=s3.toks+([]:List (Str×Value)).length) S I3' hf3 (λb hb=>a2r (hlt b hb) hsz) ns4 k4
  have fpY:∀H':Hp,(∀b∈fp,H' b=none)->∀b∈fp,iY (b6 X N' scope s3.heap.objs.size s3 H3 fp) [] H' b:=λH' hn b hb=>by
    obtain⟨_,f1,f2',f3,f4,f5⟩:=hf3 b hb
    refine⟨hn b hb,a0x (a2r (hlt b hb) hsz),λz=>?_,.inl hb,λx c e=>f4 x c (jH hfree e),λp hp=>absurd hp (by simp[b6])⟩
    rcases a0l.mp (I3'.stkSub b z) with z|z
    · exact f1 z
    · exact f2' z
  have tn4:tn 0 h4:=T.keep 0 _ _ st2 λb hb o e=>k4 b o (by rw[<- hs3];exact a0f _ e)
  have loop:codeAny (model X.prog X.w) X.A (.compLoop (.ListComp elt [⟨target,iter,ifs,0⟩] scope pos) 0 (.ref it) (.ref s2.heap.objs.size) (b6 X N' scope s3.heap.objs.size s3 H3 fp).env)
      (compPost (model X.prog X.w) X.A X.xe (some (assign (.Name x pos') X.env)) (λ_ s'=>wpAny (model X.prog X.w) X.A (pure ()) (λ_ s'=>wpAny (model X.prog X.w) X.A (pure Flow.next) (SP X pins D) X.xe s') X.xe s') (.ref s2.heap.objs.size) s3.heap.objs.size) {s3 with heap:=h4,toks:=s3.toks+([]:List (Str×Value)).length}:=by
    refine JR (λk s'=>∃i σ' H',Inv (b6 X N' scope s3.heap.objs.size s3 H3 fp) [] σ' H' s'/\tn i s'.heap/\(∀b∈fp,H' b=none)/\W i k σ' H') ?_ m0 ⟨0,_,_,IY,tn4,λb hb=>(hf3 b hb).1,w0⟩
    rintro k s5 ⟨i,σ5,H5,I5,st5,fr5,w5⟩
    rcases turn i k σ5 H5 w5 with ⟨stop,qn⟩|⟨go,Nn,hN,step⟩
    · refine a1j (T.done (b6 X N' scope s3.heap.objs.size s3 H3 fp) rfl rfl rfl hc i [] s5 σ5 H5 (λ_ _=>False) I5 (fpY H5 fr5) st5 stop) (λr s6 hr=>?_) (λ_ _ z=>z)
      obtain⟨rfl,I6⟩:=hr
      obtain⟨m,hn,_⟩:=I6.loc
      have hs':Heap.SameBut s3.heap.objs.size s6.heap s6.heap:=⟨rfl,λ_ _=>rfl⟩
      have IX:Inv X pins σ H5 s6:=by
        have ub:=I6.base
        have ne:∀b o,s3.heap.get? b=some o->b≠s3.heap.objs.size:=λb o e=>a0x (a0q e)
        refine I3'.call' (s':=s6) (ch:=fp) I6.os ⟨λb o e z1 z2 z3=>(hs'.2 b (ne b o e)).trans (ub.keep b o e z1 z2 z3),λb o e z1 z2 z3=>?_,ub.free,λb o e z=>?_,ub.tups,ub.frzs,ub.tbls⟩ (vB I6.hok I6.free hs') I6.bare λb hb=>⟨(hf3 b hb).2.2.2.1,(hf3 b hb).2.1,(hf3 b hb).2.2.2.2.1,(hf3 b hb).2.2.2.2.2⟩
        · obtain⟨sl,e'⟩:=ub.slot b o e z1 z2 z3
          exact⟨sl,(hs'.2 b (ne b o e)).trans e'⟩
        · obtain⟨o',e'⟩:=ub.there b o e z
          exact⟨o',(hs'.2 b (ne b o e)).trans e'⟩
      have fC:iY X pins H5 s3.heap.objs.size:=I3'.fpOk (a0o _) I6.free
      have IXp := IX.pinned (fp := [s3.heap.objs.size]) (fun b hb => by have e : b=s3.heap.objs.size:=by simpa using hb
                                                                        subst e;exact fC) (λb hb=>by
        have e:b=s3.heap.objs.size:=by simpa using hb
        subst e
        obtain⟨o,es,ep,ho,hd,_⟩:=hn
        exact⟨o,ho,λv z=>by rw[hd] at z;cases z⟩)
      show wpAny _ _ (assign (.Name x pos') X.env (.ref s2.heap.objs.size)) _ _ s6
      refine d8 (hgx _ s6 σ H5 (.ref s2.heap.objs.size) (.ref s2.heap.objs.size) _ IXp rfl qn) λ_ s7 h7=>?_
      obtain⟨σ7,H7,I7,q7⟩:=h7
      obtain⟨o,es,ep,ho,hd⟩:=id hn
      have z:=I7.pin (s3.heap.objs.size,o) (a0t _ (a0t _ (eG (by simp) ho)))
      refine⟨m,⟨o,es,ep,z.1,hd⟩,λh' hs'=>a0d (a0d ⟨σ7,H7,?_,q7⟩)⟩
      obtain⟨f0,f1,f2,f3,f4,f5⟩:=fC
      exact I7.unpinned.turned (t':=s7.toks) (it:=s3.heap.objs.size) (λb o hb e=>(hs'.2 b hb).trans e) z.2.1 f1 f3 f4 f5
    · refine a1j (T.item (b6 X N' scope s3.heap.objs.size s3 H3 fp) rfl rfl rfl hc i [] s5 σ5 H5 (λ_ _=>False) I5 (fpY H5 fr5) st5 go) (λr s6 h6=>?_) (λ_ _ z=>z)
      obtain⟨u,rfl,h6⟩:=h6
      refine a1j h6 (λ_ s7 h7=>?_) (λ_ _ z=>z)
      obtain⟨x,H7,I7,r7,y7,st7,fr7⟩:=h7
      have I7':=I7.pinned (fpY H7 fr7) (T.obj _ _ st7)
      have again:∀ {σ':St} {H':Hp} {s':Shared},Inv (b6 X N' scope s3.heap.objs.size s3 H3 fp) ([]++pK fp s7.heap) σ' H' s'->Nn σ' H'->
          ∃m,m<k/\∃i σ' H',Inv (b6 X N' scope s3.heap.objs.size s3 H3 fp) [] σ' H' s'/\tn i s'.heap/\(∀b∈fp,H' b=none)/\W i m σ' H':=fun {σ' H' s'} J7 n7=>by
        obtain⟨m',hm,w7⟩:=hN σ' H' n7
        have pin:∀b∈fp,∀o,s7.heap.get? b=some o->s'.heap.get? b=some o/\H' b=none:=λb hb o e=>by
          have z:=J7.pin (b,o) (a0t _ (a0t _ (eG hb e)))
          exact⟨z.1,z.2.1⟩
        refine⟨m',hm,i+1,σ',H',J7.unpinned,T.keep _ _ _ st7 λb hb o e=>(pin b hb o e).1,λb hb=>?_,w7⟩
        obtain⟨o,e,_⟩:=T.obj _ _ st7 b hb
        exact (pin b hb o e).2
      refine d8 (hg _ _ _ _ _ s7 σ5 H7 x u _ I7' r7 (step x H7 y7)) λ_ s8 h8=>?_
      obtain⟨σ8,H8,I8,q8⟩:=h8
      refine d8 (ht _ _ _ _ _ s8 σ8 H8 _ I8 q8) λok s9 h9=>?_
      obtain⟨H9,I9,q9⟩:=h9
      cases ok with
      | false=>
        rw[if_neg a0m] at q9 ⊢
        exact again I9 q9
      | true=>
        rw[if_pos rfl] at q9 ⊢
        refine d8 (he _ _ _ _ _ s9 σ8 H9 _ I9 q9) λxv s10 h10=>?_
        obtain⟨v',H10,I10,r10,ys,ha,hl,q10⟩:=h10
        refine d8 (sT (X:=b6 X N' scope s3.heap.objs.size s3 H3 fp) _ s10 σ8 H10 (.ref s2.heap.objs.size) [v'] (.ref s2.heap.objs.size) [xv] (λ_ H'=>Nn σ8 H') I10 rfl (.cons r10 .nil) ⟨_,ys,v',rfl,rfl,ha,hl,q10⟩) λ_ s11 h11=>?_
        obtain⟨_,H11,I11,_,q11⟩:=h11
        exact again I11 q11
  exact codeAny_compStart_list loop (T.self _ 0 _ _ _ tn4 loop)
end
section
variable{X:Cx}{elt target iter:Expr}{ifs:List Expr}{scope:Scope}{pos pos2 pos':Pos}{N':List Str}{n i:Nat}{x:Str}{cap:List Nat}{md mb lm:List Md}{rm:Md}{el eli:El}{s:mS}{g:iS}{tt:gJ}{te:b5}
theorem SO {cp:b9->b9} (hN:X.N.Nodup) (hix:X.N[i]? =some x) (hx:KY X.env.scope x) (hsw:swapsWith (.ListComp elt [⟨target,iter,ifs,0⟩] scope pos) (some (.Name x pos')) pos2.line X.env=pure true) (hf:X.fn x=true\/X.env.scope.names.lookup x=some .local)
  (hm:iL (md.set i (.o el))=true) (hl:i<md.length)
  (hcp:∀env,cp env=oC n cap env) (hc:X.calm=true) (S:LcOk X.N X.env.scope scope N' n cap) (hle:jL mb (f7 n cap md)=true) (hbl:mD mb=true) (hi:VI X md eli target iter s) (hg:∀C s H fp,VG (b6 X N' scope C s H fp) (f7 n cap md) mb eli target g)
  (ht:∀C s H fp,VTs (b6 X N' scope C s H fp) mb ifs tt) (he:∀C s H fp,VE (b6 X N' scope C s H fp) mb elt (.v el) te) (hs:∀x,foldedSetIterable iter X.env x=pure x:=by intro _;rfl) :
  VS X md (md.set i (.o el)) lm rm (.Assign [.Name x pos'] (.ListComp elt [⟨target,iter,ifs,0⟩] scope pos) pos2) (c4 i (yE s g tt te cp)):=
 ⟨(QZ (vD hN hix hx hf) hsw hc S hi.h (λC s H fp=>(hg C s H fp).h) (λC s H fp=>(ht C s H fp).h) (λC s H fp=>(he C s H fp).h) hs).imp λD σ H=>by
 rintro⟨env,W0,H0,W,E,R,q,l⟩
 refine JQ (el:=el) hcp hle hbl ⟨env,W0,H0,W,_,R,q,λx v W1 H1 g1 r1 q1=>?_⟩
 rw[gH] at q1
 exact l.nx _ W1 _ H1 (R.set g1 r1 hm hl) (g1.ex R.ok) q1⟩
end
def MJ(i j:Nat)(pa:qB):bJ:=λE env=>pa env λxs=>match xs with
 |[x,y]=>E.nx (kS (kS env i (some x)) j (some y))
 |_=>False
def a7C(r:V->Hp->VK->Prop)(te tk:TE):TE:=λσ H Q=>te σ H λx H1=>tk σ H1 λk H2=>k= .int (-1)/\r x H2 Q
def a4W(K:Aa):V->Hp->VK->Prop:=λx H Q=>∃a xs,x= .ref a/\dO K H a xs/\∀p,H p=none->Q (.ref p) (bX H p (.lst xs.reverse))
theorem CV {vs:List V} {us:List Value} (r:bD vs us):bD vs.reverse us.reverse:=by
 induction r with
 |nil=>exact .nil
 | cons h r ih=>
  rw[List.reverse_cons,List.reverse_cons]
  exact ih.append (.cons h .nil)
theorem a1B{X:Cx}{e k:Expr}{te tk:TE}{pos p2:Pos}(he:PE X e te)(hk:PE X k tk):PE X (.Subscript e (.Slice none none (some k) p2) pos) (a7C (a4W X.K) te tk):=by
 intro pins s σ H Q I h
 refine Subscript_ (d8 (he pins s σ H _ I h) λv s1 ⟨x,H1,I1,r1,q1⟩=>?_)
 refine wpAny_Slice ?_
 rw[evalPart_none]
 refine a0d (a0d ?_)
 rw[evalPart_some]
 refine d8 (hk pins s1 σ H1 _ I1 q1) λvk s3 ⟨y,H3,I3,r3,q3⟩=>?_
 obtain⟨rfl,a,xs,rfl,hx,q⟩:=q3
 cases r1
 obtain⟨t,rfl⟩:=r3
 have I4:Inv X pins σ H3 {s3 with heap:=s3.heap.push {cls:=.type "slice",data:=.fields #[.none,.none,.int (-1) t]} }:=I3.kept (t':=s3.toks) λb ob q=>a0f _ q
 obtain⟨its,r,ht,hz⟩:=I4.list hx
 have hlen:=r.length
 show wpAny (model X.prog X.w) X.A (subscriptTail e (.Slice none none (some k) p2) (.ref a) (.ref s3.heap.objs.size)) (EP X pins σ Q) X.xe {s3 with heap:=s3.heap.push {cls:=.type "slice",data:=.fields #[.none,.none,.int (-1) t]} }
 refine tail_any (ops:=[.ref a,.ref s3.heap.objs.size]) ht.isList.typeIs slot_list_getitem.lookup ?_ (by with_unfolding_all rfl)
 refine wpAny_getItem_list_slice (st:=some (-1)) ht.isList (Heap.IsSliceOf.new ..) .none .none (.int (-1) t) (by decide) ?_ (by rw[a0r]<;>omega)
 rw[PySem.W.krv_pick]
 refine⟨.ref _,_,I4.laid (t':=s3.toks) (o:=.lst xs.reverse) (λb ob q=>a0f _ q) (a0o _) ?_,rfl,q _ (I4.hok.fresh (a0o _))⟩
 exact⟨by rw[a4q];exact hz,_,0,CV r,a1e _ rfl⟩
def QN(a k:b5):b5:=λenv Q=>a env λx=>k env λy=>match x,y with
 |.lst xs,.int i=>i=-1/\Q (.lst xs.reverse)
 |_,_=>False
theorem Reps.rev{G:Addr->Prop}{H:Hp}{vs:List V}{xs:List PV}(r:Reps G H vs xs):Reps G H vs.reverse xs.reverse:=by
 refine⟨by rw[a4q,a4q];exact r.len,λi v x e1 e2=>?_⟩
 have hi:=(a0e.mp e2).1
 rw[a4q] at hi
 rw[List.getElem?_reverse hi] at e2
 rw[List.getElem?_reverse (by rw[r.len];exact hi),r.len] at e1
 exact r.at_ _ _ _ e1 e2
theorem a2S {X:Cx} {md:List Md} {e k:Expr} {pe pk:b5} {el:El} {pos p2:Pos} (he:VE X md e (.p el) pe) (hk:VE X md k .bw pk):VE X md (.Subscript e (.Slice none none (some k) p2) pos) (.o el) (QN pe pk):=
 ⟨(a1B he.h hk.h).imp λσ H K=>by
  rintro⟨env,W0,H0,W,Q,R,q,kk⟩
  refine⟨env,W0,H0,W,_,R,q,λx v W1 H1 g1 r1 q1=>⟨env,W0,H0,W1,_,R.step g1,q1,λy u W2 H2 g2 r2 q2=>?_⟩⟩
  have k2:=kk.after (g1.trans g2)
  have r1':RepP (el.G W2.F H0) W2.S H2 v x:=ResE.go (m:=.p el) r1 g1.ok g2
  cases x with
  | lst xs=>cases y with
   | int n=>
    obtain⟨a,vs,rfl,e,rs⟩:=r1'.ofList
    have hu:=Rep.ofInt r2
    subst hu
    obtain⟨rfl,q2⟩:=q2
    exact⟨rfl,a,vs,rfl,dO.of e,λp hp=>k2.newL g2.ok hp rs.rev q2⟩
   |_=>exact q2.elim
  |_=>exact q2.elim⟩
section
variable{κ:Type}[DecidableEq κ]
def y9(kvs:List (κ×V))(k:κ):Option V:=(kvs.find? λkv=>decide (kv.1=k)).map (·.2)
def F4(kvs:List (κ×V))(k:κ)(v:V):List (κ×V):=
 if (kvs.any λkv=>decide (kv.1=k))=true then kvs.map (λkv=>if kv.1=k then (kv.1,v) else kv) else kvs++[(k,v)]
theorem yB{p:κ×V}{r:List (κ×V)}{k:κ}(e:p.1=k):y9 (p::r) k=some p.2:=by simp[y9,a3x,e]
theorem yA{p:κ×V}{r:List (κ×V)}{k:κ}(e:¬p.1=k):y9 (p::r) k=y9 r k:=by simp[y9,a3x,e]
theorem EA(kvs:List (κ×V))(k:κ)(v:V):(F4 kvs k v).length<=kvs.length+1:=by
 unfold F4
 split
 ·rw[a0g];omega
 ·rw[a1l,a1n,a3h];omega
theorem KV.val {kvs:List (κ×V)} {vs:List (κ×Value)} (r:KV kvs vs) (k:κ):B1 (y9 kvs k) (valueAt vs k):=by
 unfold KV at r
 induction r with
 |nil=>exact True.intro
 | @cons p q ps qs h t ih=>
  obtain⟨h1,h2⟩:=h
  by_cases e:p.1=k
  ·have e':q.1=k:=h1.symm.trans e
   have b:valueAt (q::qs) k=some q.2:=by simp[valueAt,a3x,e']
   rw[yB e,b];exact h2
  ·have e':¬q.1=k:=λz=>e (h1.trans z)
   have b:valueAt (q::qs) k=valueAt qs k:=by simp[valueAt,a3x,e']
   rw[yA e,b];exact ih
theorem KV.any{kvs:List (κ×V)}{vs:List (κ×Value)}(r:KV kvs vs)(k:κ):(kvs.any λkv=>decide (kv.1=k))=vs.any λkv=>decide (kv.1=k):=by
 unfold KV at r
 induction r with
 |nil=>rfl
 |cons h t ih=>rw[a6f,a6f,ih,h.1]
theorem KV.repl {kvs:List (κ×V)} {vs:List (κ×Value)} (r:KV kvs vs) (k:κ) {y:V} {u:Value} (ry:bQ y u) :
  KV (kvs.map λkv=>if kv.1=k then (kv.1,y) else kv) (vs.map λkv=>if kv.1=k then (kv.1,u) else kv):=by
 unfold KV at r ⊢
 induction r with
 |nil=>exact .nil
 | @cons p q ps qs h t ih=>
  rw[a0i,a0i]
  refine .cons ?_ ih
  obtain⟨h1,h2⟩:=h
  by_cases e:p.1=k
  ·rw[if_pos e,if_pos (h1.symm.trans e)];exact⟨h1,ry⟩
  ·rw[if_neg e,if_neg (λz=>e (h1.trans z))];exact⟨h1,h2⟩
theorem KV.put{kvs:List (κ×V)}{vs:List (κ×Value)}(r:KV kvs vs)(k:κ){y:V}{u:Value}(ry:bQ y u):KV (F4 kvs k y) (stored vs k u):=by
 unfold F4 stored
 rw[r.any k]
 by_cases e:(vs.any λkv=>decide (kv.1=k))=true
 ·rw[if_pos e,if_pos e];exact r.repl k ry
 ·rw[if_neg e,if_neg e];exact Paired.snoc r ⟨rfl,ry⟩
theorem KV.length{kvs:List (κ×V)}{vs:List (κ×Value)}(r:KV kvs vs):kvs.length=vs.length:=Paired.length r
end
theorem PF{P:Program}{w:World}{k:d9}{u:Value}(r:bQ (kV k) u):(dY P w).is k u=true:=by
 cases k with
 |inl i=>obtain⟨t,e⟩:=(show ∃t,u=Value.int i t from r);subst e;exact EB P w i t
 |inr x=>obtain⟨t,e⟩:=(show ∃t,u=Value.str x t from r);subst e;exact EC P w x t
theorem zX {P:Program} {w:World}:∀ {ks:List d9} {us:List Value},bD (ks.map kV) us->ItemsAre (dY P w) ks us
 |[],_,r=>by rw[a5u] at r;cases r;exact .nil
 | k::ks,_,r=>by
  rw[a0i] at r
  cases r with
  |cons h t=>exact .cons (PF h) (zX t)
abbrev KT(H:Hp):List (List d9×V)->List (List d9×Ac×Value)->Prop:=Paired λp q=>p.1=q.1/\H q.2.1=some (.tup (p.1.map kV))/\bQ p.2 q.2.2
theorem KT.val {H:Hp} {kvs:List (List d9×V)} {xs:List (List d9×Addr×Value)} (r:KT H kvs xs) (k:List d9):B1 (y9 kvs k) ((atKey xs k).map (·.2)):=by
 induction r with
 |nil=>exact True.intro
 | @cons p q ps qs h t ih=>
  obtain⟨h1,_,h2⟩:=h
  by_cases e:p.1=k
  ·have e':q.1=k:=h1.symm.trans e
   have b:atKey (q::qs) k=some q.2:=by simp[atKey,a3x,e']
   rw[yB e,b];exact h2
  ·have e':¬q.1=k:=λz=>e (h1.trans z)
   have b:atKey (q::qs) k=atKey qs k:=by simp[atKey,a3x,e']
   rw[yA e,b];exact ih
section
variable{P:Program}{w:World}{H:Hp}{h:Heap}{a:Ac}
theorem Y8{u:HO}(ok:oE P w H h)(e:Rd H a u):cI P w H h a u:=e.ok ok
theorem OB{kvs:List (d9×V)}(ok:oE P w H h)(e:Rd H a (.dK kvs)):kvs.length<=sizeLine/\(a==sysModules)=false/\∃vs,KV kvs vs/\h.DictOf (dY P w) a vs:=
 show cI P w H h a (.dK kvs) from Y8 ok e
theorem a3H{kvs:List (d9×V)}(ok:oE P w H h)(e:H a=some (.dK kvs)):kvs.length<=sizeLine/\(a==sysModules)=false/\∃vs,KV kvs vs/\h.DictOf (dY P w) a vs:=OB ok (.inl e)
theorem PH{ks:List d9}(ok:oE P w H h)(e:H a=some (.tup (ks.map kV))):(tupleKind (dY P w)).is h ks a:=by
 obtain⟨_,its,r,o,h1,h2,n,h3⟩:=(show cI P w H h a (.tup (ks.map kV)) from ok a _ e)
 exact⟨o,its.toArray,n,h1,h2,h3,by simpa using zX r⟩
theorem XR {kvs:List (List d9×V)} (ok:oE P w H h) (e:Rd H a (.dT kvs)):kvs.length<=sizeLine/\(a==sysModules)=false/\
  ∃xs,KT H kvs xs/\h.DictOfH (tupleKind (dY P w)) a xs:=by
 obtain⟨z,y,xs,r,o,es,ep,h1,h2,h3,h4,h5⟩:=(show cI P w H h a (.dT kvs) from Y8 ok e)
 refine⟨z,y,xs,r,o,es,ep,h1,h2,h3,h4,λx hx=>?_,h5⟩
 have all:∀ {l:List (List d9×V)} {m:List (List d9×Addr×Value)},KT H l m->∀x∈m,(tupleKind (dY P w)).is h x.1 x.2.1:=by
  intro l m q
  induction q with
  |nil=>intro x hx;exact nomatch hx
  | @cons p q ps qs hq t ih=>
   intro x hx
   rcases a0l.mp hx with e|hx
   ·subst e
    exact PH ok (by rw[<- hq.1];exact hq.2.1)
   ·exact ih x hx
 exact all r x hx
end
def KW(H:Hp)(a:Addr)(y:V)(r:Option V):Prop:=
 (∃kvs k,Rd H a (.dK kvs)/\y=kV k/\r=y9 kvs k)\/∃kvs k b,Rd H a (.dT kvs)/\y= .ref b/\H b=some (.tup (k.map kV))/\r=y9 kvs k
theorem KW.k{H:Hp}{a:Ac}{kvs:List (d9×V)}{k:d9}(e:H a=some (.dK kvs)):KW H a (kV k) (y9 kvs k):=.inl ⟨kvs,k,.inl e,rfl,rfl⟩
section
variable{X:Cx}{pins:List (Ac×Obj)}{σ:St}{H:Hp}{s:Ab}{a:Ac}{y v:V}{u r:Value}{o:Option V}{A:Around}{E:Value->Ab->Prop}
theorem Inv.big(I:Inv X pins σ H s):sysModules<s.heap.objs.size:=by
 have h:mainGlobals<s.heap.objs.size:=(I.mod.glob.keeps I.bk).lt
 exact a2r (by decide) h
theorem LK {Q:Value->Shared->Prop} (hu:A.units+1<cLine) (I:Inv X pins σ H s) (g:KW H a y (some v)) (ry:bQ y u) (h:∀w' s',Inv X pins σ H s'->bQ v w'->Q w' s') :
  wpAny (model X.prog X.w) A (getItem (.ref a) u) Q E s:=by
 rcases g with ⟨kvs,k,e,ey,l⟩|⟨kvs,k,b,e,ey,eb,l⟩
 ·subst ey
  obtain⟨z,hd,vs,rel,dd⟩:=OB I.hok e
  obtain⟨w',hw,rw'⟩:=B1.some_of (v:=v) (o:=valueAt vs k) (by rw[l];exact rel.val k)
  exact wpAny_getItem_of (PF ry) dd.mapOf hw (h w' _ (I.tok _) rw')
 ·subst ey
  cases (show u=Value.ref b from ry)
  obtain⟨z,hd,xs,rel,dd⟩:=XR I.hok e
  obtain⟨w',hw,rw'⟩:=B1.some_of (v:=v) (o:=(atKey xs k).map (·.2)) (by rw[l];exact rel.val k)
  obtain⟨p,hp,hp2⟩:=a0u.mp hw
  refine wpAny_getItem_heap (tupleKind_room_in1 hu) (PH I.hok eb) dd hp ?_
  rw[hp2]
  exact h w' _ (I.tok _) rw'
theorem TQ {h':Heap} {t':Nat} {ob:HO} (I:Inv X pins σ H s) (mu:a35 (H a)) (hs:Heap.SameBut a s.heap h') (he:∃q,h'.get? a=some q) (new:cI X.prog X.w (bX H a ob) h' a ob) :
  Inv X pins σ (bX H a ob) {s with heap:=h',toks:=t'}:=
 I.write (x:=a) (e:=a) mu (.inl rfl) (λb q hb z=>(hs.2 b hb).trans z) he new
theorem YT {P:Program} {w:World} {H':Hp} {h':Heap} {kvs:List (d9×V)} {vs:List (d9×Value)} (z:kvs.length<=sizeLine) (hd:(a==sysModules)=false) (rel:KV kvs vs) (dd:h'.DictOf (dY P w) a vs) :
  cI P w H' h' a (.dK kvs):=⟨z,hd,vs,rel,dd⟩
end
def YD(i:Expr):Prop:=∀ov iv,subscripted i false ov iv=operate [ov,iv] (getItem ov iv)
theorem WZ {prog:Program} {w:World} {A:Around} {E:Value->Shared->Prop} {s:Shared} {env:Env} {value slice:Expr} {pos:Pos} {T id:String} {Q:Value->Shared->Prop}
  (hl:typeLookup (.type T) "__getitem__"=pure (some (.builtin id))) (hs:YD slice)
  (h:wpAny (model prog w) A (eval value env) (λo s₁=>wpAny (model prog w) A (eval slice env) (λi s₂=>s₂.TypeIs o T/\wpAny (model prog w) A (getItem o i) Q E s₂) E s₁) E s) :
  wpAny (model prog w) A (eval (.Subscript value slice pos) env) Q E s:=by
 refine Subscript_ (a1j h (λo s₁ h₁=>a1j h₁ (λi s₂ h₂=>?_) λ_ _ x=>x) λ_ _ x=>x)
 obtain⟨hT,h₂⟩:=h₂
 unfold subscriptTail
 refine a0b ?_
 rw[getitemInPython_of_ne hT.not_modules]
 refine a0b (wpAny_specialOf hT hl ?_)
 have fin:wpAny (model prog w) A (subscripted slice false o i) (λr s₃=>wpAny (model prog w) A (letTemporaryGo value o r >>=λ_=>pure r) Q E s₃) E s₂:=by
  rw[hs o i]
  exact wpAny_operating (a1j h₂ (λr s₃ h₃=>a0b (wpAny_letTemporaryGo (a0d h₃))) λ_ _ x=>x)
 first
  |exact a0d (a0b fin)
  |exact a0b (a0d (a0b fin))
  |exact a0b fin
theorem DV {X:Cx} {pins:List (Addr×Obj)} {σ:St} {H:Hp} {s:Shared} {a:Addr} {y:V} {o:Option V} (I:Inv X pins σ H s) (g:KW H a y o):s.TypeIs (.ref a) "dict":=by
 rcases g with ⟨kvs,k,e,_,_⟩|⟨kvs,k,b,e,_,_,_⟩
 ·obtain⟨_,_,vs,_,dd⟩:=OB I.hok e
  exact dd.typeIs
 ·obtain⟨_,_,xs,_,dd⟩:=XR I.hok e
  exact dd.typeIs
def a5A(td ty:TE):TE:=λσ H Q=>td σ H λx H1=>ty σ H1 λy H2=>∃a v,x= .ref a/\KW H2 a y (some v)/\Q v H2
section
variable{X:Cx}{o i e value:Expr}{pos pos' tpos:Pos}{td ty tv:TE}
theorem VQ(hu:X.A.units+1<cLine)(ho:PE X o td)(hi:PE X i ty)(hs:YD i):PE X (.Subscript o i pos) (a5A td ty):=by
 intro pins s σ H Q I h
 refine WZ PySem.F.slot_dict_getitem.lookup hs (d8 (ho pins s σ H _ I h) λu s1 ⟨x,H1,I1,rx,q1⟩=>d8 (hi pins s1 σ H1 _ I1 q1) λiv s2 ⟨y,H2,I2,ry,a,v,ex,g,q2⟩=>?_)
 subst ex
 obtain rfl:u=Value.ref a:=rx
 exact⟨DV I2 g,LK hu I2 g ry λw' s3 I3 rw'=>⟨v,H2,I3,rw',q2⟩⟩
end
theorem DW{P:Program}{w:World}{H:Hp}(h:Heap)(hb:sysModules<h.objs.size):cI P w H (h.push {cls:=.type "dict",data:=.dict #[]}) h.objs.size (.dK []):=
 ⟨a3c _,beq_eq_false_iff_ne.mpr (a3b (a0x hb)),[],.nil,Heap.DictOf.new h⟩
def a2E:TE:=λ_ H Q=>∀p,H p=none->Q (.ref p) (bX H p (.dK []))
section
variable{X:Cx}{pos:Pos}
theorem QQ:PE X (.Dict [] [] pos) a2E:=λpins s σ H Q I h=>
 wpAny_Dict_empty ⟨.ref s.heap.objs.size,_,I.laid (a:=s.heap.objs.size) (o:=.dK []) (t':=s.toks) (λ_ _ q=>a0f _ q) (a0o _) (DW s.heap I.big),rfl,h _ (I.hok.fresh (a0o _))⟩
end
abbrev a02:PV->Option d9
 |.int i=>some (.inl i)
 |.str s=>some (.inr s)
 |_=>none
def kIn(ks:List d9)(k:d9):Bool:=ks.any λa=>decide (a=k)
def TY(ks:List d9)(k:d9):List d9:=match kIn ks k with
 |true=>ks
 |false=>ks++[k]
def N9{α:Type}(ks:List d9)(xs:List α)(k:d9)(v:α):List α:=match kIn ks k with
 |true=>(ks.zip xs).map λp=>if p.1=k then v else p.2
 |false=>xs++[v]
def SW{α:Type}(ks:List d9)(xs:List α)(k:d9):Option α:=((ks.zip xs).find? λp=>decide (p.1=k)).map (·.2)
theorem XJ {α:Type} {ks:List d9} {xs:List α} (h:ks.length=xs.length) (k:d9):((ks.zip xs).any λp=>decide (p.1=k))=kIn ks k:=by
 unfold kIn
 induction ks generalizing xs with
 |nil=>rfl
 | cons a ks ih=>cases xs with
  |nil=>cases h
  |cons x xs=>rw[a4w,a6f,a6f,ih (by simpa using h)]
theorem WA {ks:List d9} {vs:List V} (h:ks.length=vs.length) (k:d9) (v:V):F4 (ks.zip vs) k v=(TY ks k).zip (N9 ks vs k v):=by
 unfold F4 TY N9
 rw[XJ h]
 cases kIn ks k with
 | true=>
  rw[if_pos rfl]
  dsimp only
  induction ks generalizing vs with
  |nil=>rfl
  | cons a ks ih=>cases vs with
   |nil=>cases h
   | cons x vs=>
    simp only[a4w,a0i]
    rw[ih (by simpa using h)]
    congr 1
    split<;>rfl
 | false=>
  rw[if_neg a0m]
  dsimp only
  rw[List.zip_append h];rfl
theorem TZ{α:Type}{ks:List d9}{xs:List α}(h:ks.length=xs.length)(k:d9)(v:α):(TY ks k).length=(N9 ks xs k v).length:=by
 unfold TY N9
 split<;>simp[h]
section
variable{G:Ac->Prop}{H:Hp}{vs:List V}{xs:List PV}{ks:List d9}
theorem Reps.zipMap(r:Reps G H vs xs)(k:d9){v:V}{x:PV}(rx:Rep G H v x):Reps G H ((ks.zip vs).map λp=>if p.1=k then v else p.2) ((ks.zip xs).map λp=>if p.1=k then x else p.2):=by
 refine⟨by simp[r.len],λi u y e1 e2=>?_⟩
 rw[a0h,a0u] at e1 e2
 obtain⟨p,hp,rfl⟩:=e1
 obtain⟨p',hp',rfl⟩:=e2
 rw[a3f] at hp hp'
 have e:p.1=p'.1:=a1i (hp.1.symm.trans hp'.1)
 rw[e]
 split
 ·exact rx
 ·exact r.at_ i _ _ hp.2 hp'.2
theorem Reps.dput(r:Reps G H vs xs)(k:d9){v:V}{x:PV}(rx:Rep G H v x):Reps G H (N9 ks vs k v) (N9 ks xs k x):=by
 unfold N9
 cases kIn ks k with
 |true=>exact r.zipMap k rx
 |false=>exact r.append (.cons rx .nil)
theorem Reps.dget:∀ {ks:List d9} {vs:List V} {xs:List PV},Reps G H vs xs->∀ {k:d9} {x:PV},SW ks xs k=some x->∃v,y9 (ks.zip vs) k=some v/\Rep G H v x:=by
 intro ks
 induction ks with
 |nil=>intro vs xs r k x e;cases e
 | cons a ks ih=>
  intro vs xs r k x e
  cases xs with
  |nil=>cases e
  | cons y xs=>
   cases vs with
   |nil=>have:=r.len;cases this
   | cons v vs=>
    unfold SW at e
    rw[a4w,a3x] at e
    rw[a4w]
    by_cases h:a=k
    ·rw[a2n h] at e
     cases e
     exact⟨v,yB (p:=(a,v)) h,r.at_ 0 _ _ rfl rfl⟩
    ·rw[a1y h] at e
     rw[yA (p:=(a,v)) h]
     refine ih (xs:=xs) ⟨by have:=r.len;simpa using this,λi u z e1 e2=>r.at_ (i+1) u z (by simpa using e1) (by simpa using e2)⟩ e
end
theorem XW{G S:Addr->Prop}{H:Hp}{z:PV}{u:V}{k:d9}(e:a02 z=some k)(r:Rep G H u z):u=kV k:=by
 cases z with
 |int i=>cases e;exact Rep.ofInt r
 |str x=>cases e;exact RepP.ofStr (S:=λ_=>True) (.inl r)
 |_=>cases e
section
variable{X:Cx}{md lm:List Md}{rm:Md}{o i e:Expr}{pe pj pa pb:b5}{el:El}{pos p:Pos}{n:Nat}
theorem o9:VE X md (.Dict [] [] pos) (.o .fl) (pC (.dic [] [])):=⟨QQ.imp λσ H K=>by
 rintro⟨env,W0,H0,W,Q,R,q,k⟩
 intro a ha
 exact k.newB R.ok ha (Body.dic (ks:=[]) (vs:=[]) rfl .nil) q⟩
def wL:P2:=λx y Q=>match x,a02 y with
 | .dic ks xs,some k=>(match SW ks xs k with
  |some z=>Q z
  |none=>False)
 |_,_=>False
theorem vH (hu:X.A.units+64<cLine) (ha:VE X md o (.p el) pa) (hb:VE X md i .bw pb) (hs:YD i):VE X md (.Subscript o i pos) (.v el) (bA wL pa pb):=
 ⟨(VQ ∅ ha.h hb.h hs).imp λσ H K=>by
  rintro⟨env,W0,H0,W,Q,R,q,k⟩
  refine⟨env,W0,H0,W,_,R,q,λx v W1 H1 g1 r1 q1=>⟨env,W0,H0,W1,_,R.step g1,q1,λy u W2 H2 g2 r2 q2=>?_⟩⟩
  have k2:=k.after (g1.trans g2)
  have r1':RepP (el.G W2.F H0) W2.S H2 v x:=ResE.go (m:=.p el) r1 g1.ok g2
  unfold wL at q2
  cases x with
  | dic ks xs=>
   cases hk:a02 y with
   |none=>rw[hk] at q2;exact q2.elim
   | some kk=>
    rw[hk] at q2
    dsimp only at q2
    cases hg:SW ks xs kk with
    |none=>rw[hg] at q2;exact q2.elim
    | some z=>
     rw[hg] at q2
     obtain⟨a,vs,rfl,e,hl,rs⟩:=r1'.ofDic
     have hu:u=kV kk:=XW (S:=λ_=>True) hk r2
     subst hu
     obtain⟨w,e1,e2⟩:=rs.dget hg
     exact⟨a,w,rfl,by have:=KW.k (k:=kk) e;rw[e1] at this;exact this,k2.val g2.ok e2 q2⟩
  |_=>cases hk:a02 y<;>(rw[hk] at q2;exact q2.elim)⟩
end
theorem Inv.turnedF {X:Cx} {pins:List (Addr×Obj)} {σ:St} {H:Hp} {s:Shared} {h':Heap} {t':Nat} {fp:List Addr} (I:Inv X pins σ H s) (hf:∀b∈fp,iY X pins H b) (k:∀b u,b∉fp->s.heap.get? b=some u->h'.get? b=some u) :
  Inv X pins σ H {s with heap:=h',toks:=t'}:=by
 have nf:∀b u,H b=some u->b∉fp:=λb u e z=>by rw[(hf b z).1] at e;cases e
 refine I.step (g':=s.gens) (d':=s.drawn) (ch:=fp) (λb hb=>?_) (λb o _ _ hc e _=>k b o hc e) (λb o _ _ hc e _=>⟨o.slots,k b o hc e⟩) (λb u _ e n=>n)
  (λb o hc e=>⟨o,k b o hc e⟩) (λb _ e=>e) (λb _ _ e=>e) (λb e=>e) (λm hm=>?_) (λb u e=>?_) I.bare
 ·obtain⟨f0,f1,f2,f3,f4,f5⟩:=hf b hb
  exact⟨f3,f1,f4,f5⟩
 ·obtain⟨o,es,ep,ho,r⟩:=hm
  exact⟨o,es,ep,k _ o (λz=>(hf _ z).2.1 rfl) ho,r⟩
 ·refine (I.hok b u e).stay (λc v hc q=>k c v ?_ q) (λ_ q=>q) λ_ _ q=>q
  rcases hc with z|z
  ·rw[z];exact nf b u e
  ·exact nf c _ z
def a69 (K:PySem.W.Frag) (a b:Addr):It:=
  ⟨fun i H=>∃xs ys x y, dO K H a xs∧dO K H b ys∧xs[i]? =some x∧ys[i]? =some y,
   λi H v H'=>∃t x y,H t=none/\v= .ref t/\H'=bX H t (.tup [x,y])/\(∀xs,dO K H a xs->xs[i]? =some x)/\∀ys,dO K H b ys->ys[i]? =some y,
   λi H=>∃xs ys,dO K H a xs/\dO K H b ys/\(xs.length<=i\/ys.length<=i)⟩
structure ZAp(z TI TO i1 i2:Addr):Prop where
 TIz:TI≠z
 TOz:TO≠z
 i1z:i1≠z
 i2z:i2≠z
 TITO:TI≠TO
 TIi1:TI≠i1
 TIi2:TI≠i2
 TOi1:TO≠i1
 TOi2:TO≠i2
 i12:i1≠i2
def a7J(z TI TO i1 i2 a b:Ac)(i:Nat)(h:Heap):Prop:=IsZip h z TI TO .none/\IsPair h TI (.ref i1) (.ref i2)/\(∃x y,IsPair h TO x y)/\h.IsListIter i1 a i/\h.IsListIter i2 b i
theorem k3{h:Heap}{a c:Addr}{xs:Array Value}{o:Obj}(hl:h.IsList a xs)(e:h.get? c=some o)(hc:o.cls≠ .type "list"):a≠c:=by
 rintro rfl
 obtain⟨o',e',c',_⟩:=hl
 rw[e] at e';cases e'
 exact hc c'
theorem ZAp.full {z TI TO i1 i2 a b:Addr} (D:ZAp z TI TO i1 i2) {h:Heap} {i:Nat} (st:a7J z TI TO i1 i2 a b i h) {xs ys:Array Value} (ha:h.IsList a xs) (hb:h.IsList b ys):ZipApart z TI TO i1 i2 a b:=by
 obtain⟨hz,hTI,⟨x,y,hTO⟩,⟨o1,e1,c1,d1⟩,⟨o2,e2,c2,d2⟩⟩:=st
 have nl:∀ {o:Obj},o.cls= .type "list_iterator"->o.cls≠ .type "list":=λe z=>by rw[e] at z;exact absurd z (by decide)
 exact ⟨D.TIz,D.TOz,D.i1z,D.i2z,D.TITO,D.TIi1,D.TIi2,D.TOi1,D.TOi2,D.i12,k3 ha hz (show (Value.type "zip")≠ .type "list" by decide),k3 ha hTO (show (Value.type "tuple")≠ .type "list" by decide),k3 ha e1 (nl c1),k3 ha e2 (nl c2),
  k3 hb hz (show (Value.type "zip")≠ .type "list" by decide),k3 hb hTO (show (Value.type "tuple")≠ .type "list" by decide),k3 hb e1 (nl c1),k3 hb e2 (nl c2)⟩
theorem SC {P:Program} {w:World} {K:PySem.W.Frag} {elts:List Expr} {x1} {pos:Pos} (a b z TI TO i1 i2:Addr) (D:ZAp z TI TO i1 i2) :
  Turn P w K (.Tuple elts x1 pos) (a69 K a b) [z,TI,TO,i1,i2] z (a7J z TI TO i1 i2 a b) where
 mem:=by simp
 obj:=λi h st c hc=>by
  obtain⟨hz,hTI,⟨x,y,hTO⟩,⟨o1,e1,c1,d1⟩,⟨o2,e2,c2,d2⟩⟩:=st
  simp only[a0l,a0y,a2i] at hc
  rcases hc with rfl|rfl|rfl|rfl|rfl
  ·exact⟨_,hz,λv q=>by cases q⟩
  ·exact⟨_,hTI,λv q=>by cases q⟩
  ·exact⟨_,hTO,λv q=>by cases q⟩
  ·exact⟨_,e1,λv q=>by rw[d1] at q;cases q⟩
  ·exact⟨_,e2,λv q=>by rw[d2] at q;cases q⟩
 keep:=λi h h' st k=>by
  obtain⟨hz,hTI,⟨x,y,hTO⟩,h1,h2⟩:=st
  exact⟨k z (by simp) _ hz,k TI (by simp) _ hTI,⟨x,y,k TO (by simp) _ hTO⟩,h1.at λo e=>k i1 (by simp) o e,h2.at λo e=>k i2 (by simp) o e⟩
 item:=by
  intro X hP hw hK hc i pins s σ H E I hf st hg
  subst hP hw hK
  obtain⟨xs,ys,x,y,hq,hq2,hx,hy⟩:=hg
  obtain⟨its,rv,p,hz0⟩:=I.list hq
  obtain⟨its2,rv2,p2,hz2⟩:=I.list hq2
  obtain⟨u,hu,ru⟩:=rv.get hx
  obtain⟨u2,hu2,ru2⟩:=rv2.get hy
  have DD:=D.full st p.isList p2.isList
  have st0:=st
  obtain⟨hz,hTI,⟨va,vb,hTO⟩,h1,h2⟩:=st
  refine wpAny_pyNext_zip_item DD hz hTI hTO h1 h2 p.isList p2.isList (x:=u) (y:=u2) (by simpa using hu) (by simpa using hu2) λh' a1 a2 a3 a4 a5 a6 hk=>?_
  refine⟨.ref s.heap.objs.size,rfl,wpAny_letOwnedTupleGo_zip (s:={s with heap:=h'}) a1 λh'' b1 sb=>?_⟩
  have hfr:H s.heap.objs.size=none:=I.hok.fresh (a0o _)
  have lt:∀c∈[z,TI,TO,i1,i2],c<s.heap.objs.size:=λc hc=>by
   obtain⟨_,_,_,⟨o1,e1,_⟩,⟨o2,e2,_⟩⟩:=st0
   simp only[a0l,a0y,a2i] at hc
   rcases hc with rfl|rfl|rfl|rfl|rfl
   ·exact a0q hz
   ·exact a0q hTI
   ·exact a0q hTO
   ·exact a0q e1
   ·exact a0q e2
  have nz:s.heap.objs.size≠z:=a4t (lt z (by simp))
  have hf2:∀c∈[z,TI,TO,i1,i2],(bX H s.heap.objs.size (.tup [x,y])) c=none:=λc hc=>by
   rw[aL (a0x (lt c hc))];exact (hf c hc).1
  refine⟨.ref s.heap.objs.size,bX H s.heap.objs.size (.tup [x,y]),I.turnL (t':=s.toks) hf (λc v hc q=>?_) (a0o _) ?_,rfl,⟨_,x,y,hfr,rfl,rfl,λzs hz=>by rw[I.list_inj hz hq];exact hx,λzs hz=>by rw[I.list_inj hz hq2];exact hy⟩,?_,hf2⟩
  ·simp only[a0l,a0y,a2i,not_or] at hc
   exact (sb.2 c hc.1).trans (hk c v hc.1 hc.2.2.1 hc.2.2.2.1 hc.2.2.2.2 q)
  ·exact⟨(by decide:2<=sizeLine),[u,u2],.cons ru (.cons ru2 .nil),_,(sb.2 _ nz).trans a5,rfl,_,rfl⟩
  ·refine⟨b1,(sb.2 _ D.TIz).trans (hk TI _ D.TIz D.TITO D.TIi1 D.TIi2 hTI),⟨_,_,(sb.2 _ D.TOz).trans a2⟩,a3.at λo q=>(sb.2 _ D.i1z).trans q,a4.at λo q=>(sb.2 _ D.i2z).trans q⟩
 done:=by
  intro X hP hw hK hc i pins s σ H E I hf st hg
  subst hP hw hK
  obtain⟨xs,ys,hq,hq2,hx⟩:=hg
  obtain⟨its,rv,p,hz0⟩:=I.list hq
  obtain⟨its2,rv2,p2,hz2⟩:=I.list hq2
  have DD:=D.full st p.isList p2.isList
  obtain⟨hz,hTI,⟨va,vb,hTO⟩,h1,h2⟩:=st
  have l1:=rv.length
  have l2:=rv2.length
  have he:its.toArray[i]? =none\/its2.toArray[i]? =none:=by
   rcases hx with z|z
   ·exact .inl (by simp;omega)
   ·exact .inr (by simp;omega)
  refine wpAny_pyNext_zip_end (I.ok.hd hc) DD hz hTI hTO h1 h2 p.isList p2.isList he λh' hk=>⟨rfl,?_⟩
  exact I.turnedF (t':=s.toks) hf λc v hc q=>by
   simp only[a0l,a0y,a2i,not_or] at hc
   exact hk c v hc.1 hc.2.2.1 hc.2.2.2.1 hc.2.2.2.2 q
 self:=λ_ _ _ _ _ st h=>wpAny_pyIter_zip st.1 h
def a6Q(K:Aa)(ta:TA):TI:=λσ H R=>ta σ H λvs H1=>∃a b,vs=[.ref a,.ref b]/\(∃xs,dO K H1 a xs)/\(∃ys,dO K H1 b ys)/\R (a69 K a b) H1
theorem NS:bootBuiltins "zip"=some (.type "zip"):=by rfl
theorem a1G {X:Cx} {a b:Expr} {ta:TA} {elts:List Expr} {x1} {tpos p pos:Pos} (hg:Gl X "zip") (hm:X.mg "zip"=none) (ha:PA X [a,b] ta) (hs:starEach [a,b] X.env=[(false,eval a X.env),(false,eval b X.env)]) (hs1:starEach [b] X.env=[(false,eval b X.env)]) :
  PI X (.Tuple elts x1 tpos) (.Call (.Name "zip" p) [a,b] [] pos) (a6Q X.K ta):=by
 intro pins s σ H R I h
 refine Call_ (p9 I hg hm NS (a4h (d8 (ha pos pins s σ H _ I h) λus s1 ⟨vs,H1,I1,r1,q1⟩=>?_) (hs.trans (by rw[hs1])) (by rw[hs1];rfl)))
 obtain⟨l,l2,e,⟨xs,hq⟩,⟨ys,hq2⟩,q⟩:=q1
 subst e
 cases r1 with
 | cons r rr=>
  cases rr with
  | cons r2 rr=>
   cases rr
   cases r
   cases r2
   obtain⟨its,rv,p,hz⟩:=I1.list hq
   obtain⟨its2,rv2,p2,hz2⟩:=I1.list hq2
   refine call_zip_2 p.isList p2.isList λh' z1 z2 z3 z4 z5 z6 hk=>?_
   refine wpAny_pyIter_zip z1 ?_
   have I2:Inv X pins σ H1 {s1 with heap:=h'}:=I1.kept (t':=s1.toks) hk
   have D:ZAp (s1.heap.objs.size+4) (s1.heap.objs.size+2) (s1.heap.objs.size+3) s1.heap.objs.size (s1.heap.objs.size+1):=by
    have n:∀ {x y:Nat},x<y\/y<x->x≠y:=λh=>by omega
    exact⟨n ∅,n ∅,n ∅,n ∅,n ∅,n ∅,n ∅,n ∅,n ∅,n ∅⟩
   refine⟨s1.heap.objs.size+4,[s1.heap.objs.size+4,s1.heap.objs.size+2,s1.heap.objs.size+3,s1.heap.objs.size,s1.heap.objs.size+1],_,_,H1,rfl,I2,SC l l2 _ _ _ _ _ D,⟨z1,z2,⟨_,_,z3⟩,z4,z5⟩,λb hb=>?_,q⟩
   have hb':s1.heap.objs.size<=b:=by
    simp only[a0l,a0y,a2i] at hb
    rcases hb with rfl|rfl|rfl|rfl|rfl<;>omega
   exact I1.fpOk hb' (I1.hok.fresh hb')
def zE(xs ys:List PV):List PV:=(xs.zip ys).map λz=>.tup [z.1,z.2]
theorem lG(xs ys:List PV):(zE xs ys).length=min xs.length ys.length:=by simp[zE]
theorem D6 {xs ys:List PV} {i:Nat} {z:PV}:(zE xs ys)[i]? =some z↔∃x y,xs[i]? =some x/\ys[i]? =some y/\z= .tup [x,y]:=by
 rw[zE,a0h,a0u]
 constructor
 ·rintro⟨⟨x,y⟩,h,rfl⟩
  have:=a3f.mp h
  exact⟨x,y,this.1,this.2,rfl⟩
 ·rintro⟨x,y,h1,h2,rfl⟩
  exact⟨(x,y),a3f.mpr ⟨h1,h2⟩,rfl⟩
def xC(a b:b5):mS:=λenv Q=>a env λx=>b env λy=>match x,y with
 |.lst xs,.lst ys=>Q (zE xs ys)
 |_,_=>False
section
variable{X:Cx}{md:List Md}{el:El}{a b e tg:Expr}{pa pb pe:b5}{p pos:Pos}
theorem WW {K:PySem.W.Frag} {B:Hp} {W:Wd} {H:Hp} {l l2:Addr} {vs vs2:List V} {xs ys:List PV} (hF:W.F l) (e:H l=some (.lst vs)) (r:Reps (el.G W.F B) H vs xs) (hF2:W.F l2) (e2:H l2=some (.lst vs2)) (r2:Reps (el.G W.F B) H vs2 ys):Src (a69 K l l2) el B W H (zE xs ys) where
 go:=λi W2 H2 x hi=>by
  rw[lG] at hi
  exact⟨vs,vs2,vs[i]'(by rw[r.len];omega),vs2[i]'(by rw[r2.len];omega),dO.of (x.kp l _ hF e),dO.of (x.kp l2 _ hF2 e2),a0a _,a0a _⟩
 stop:=λW2 H2 x=>⟨vs,vs2,dO.of (x.kp l _ hF e),dO.of (x.kp l2 _ hF2 e2),by rw[r.len,r2.len,lG];omega⟩
 yld:=λi W2 H2 v H3 x w hi y=>by
  obtain⟨t,u,u2,ht,rfl,rfl,y,y2⟩:=y
  have h1:=y vs (dO.of (x.kp l _ hF e))
  have h2:=y2 vs2 (dO.of (x.kp l2 _ hF2 e2))
  obtain⟨z,ez,rz⟩:=r.getV h1
  obtain⟨z2,ez2,rz2⟩:=r2.getV h2
  have g:Go W2 H2 W2 (bX H2 t (.tup [u,u2])):=Go.laid w ht
  have q1:=g.rep w (G':=el.G W2.F B) (λ_ h=>El.nS w h) (λ_ h=>h) (x.rep (G':=el.G W2.F B) (λ_ g=>El.GF g) (λ_ g=>El.up x.lF (λ_ h=>h) g) rz)
  have q2:=g.rep w (G':=el.G W2.F B) (λ_ h=>El.nS w h) (λ_ h=>h) (x.rep (G':=el.G W2.F B) (λ_ g=>El.GF g) (λ_ g=>El.up x.lF (λ_ h=>h) g) rz2)
  refine⟨g,.tup [z,z2],D6.mpr ⟨z,z2,ez,ez2,rfl⟩,.tup bM rfl λj v x e1 e2=>?_⟩
  match j,e1,e2 with
  |0,e1,e2=>cases e1;cases e2;exact q1
  |1,e1,e2=>cases e1;cases e2;exact q2
theorem SL {elts:List Expr} {x1} {tpos:Pos} (hg:X.env.scope.names.lookup (Str.ofString "zip")=some NameKind.globalImplicit) (hm:X.mg "zip"=none) (ha:VE X md a (.v el) pa) (hb:VE X md b (.v el) pb) (hs:starEach [a,b] X.env=[(false,eval a X.env),(false,eval b X.env)]:=by rfl) (hs1:starEach [b] X.env=[(false,eval b X.env)]:=by rfl) :
  VI X md el (.Tuple elts x1 tpos) (.Call (.Name "zip" p) [a,b] [] pos) (xC pa pb):=
 ⟨(a1G hg hm (a7 ha (a7 hb a9 hs1) (by rw[hs,hs1])).h hs hs1).imp λσ H R=>by
 rintro⟨env,W0,H0,W,Q,Rr,q,k⟩
 refine⟨env,W0,H0,W,λxs=>match xs with|[.lst zs,.lst ws]=>Q (zE zs ws)|_=>False,Rr,?_,λxs vs W1 H1 g1 r1 q1=>?_⟩
 ·show pa env λx=>pb env λy=>_
  unfold xC at q
  refine (iff_of_eq (congrArg (pa env) (funext λx=>congrArg (pb env) (funext λy=>?_)))).mp q
  cases x<;>cases y<;>rfl
 ·cases r1 with
  | cons r ra=>cases ra with
   | cons r2 ra=>cases ra with
    | nil=>
     rename_i v x v2 x2
     cases x with
     | lst xs=>cases x2 with
      | lst ys=>
       obtain⟨a,vs,rfl,g,e,rs⟩:=Rep.ofList r
       obtain⟨a2,vs2,rfl,g2,e2,rs2⟩:=Rep.ofList r2
       exact⟨a,a2,rfl,⟨vs,dO.of e⟩,⟨vs2,dO.of e2⟩,k _ W1 H1 _ g1 (WW (El.GF g) e rs (El.GF g2) e2 rs2) q1⟩
      |_=>exact q1.elim
     |_=>exact q1.elim⟩
end
theorem KQ {X:Cx} {md lm:List Md} {rm:Md} {i j:Nat} {x y:Str} {a b:Expr} {pa pb:b5} {m1 m2:Md} {px py pt pos:Pos} {kt k2 pt2} (hc:X.calm=true) (hN:X.N.Nodup) (hi:X.N[i]? =some x) (hj:X.N[j]? =some y) (hij:i≠j)
  (hx:X.env.scope.names.lookup x=some .local) (hy:X.env.scope.names.lookup y=some .local) (ha:VE X md a m1 pa) (hb:VE X md b m2 pb)
  (hw:swappedStores [.Tuple [.Name x px,.Name y py] kt pt] (.Tuple [a,b] k2 pt2) X.env=pure (some [x,y]))
  (hs:swapsWithSole [.Tuple [.Name x px,.Name y py] kt pt] (.Tuple [a,b] k2 pt2) pos.line X.env=pure false)
  (h1:iL (md.set i m1)=true) (l1:i<md.length) (h2:iL ((md.set i m1).set j m2)=true) (l2:j<md.length)
  (hs1:starEach [b] X.env=(false,eval b X.env)::starEach [] X.env:=by rfl) (hs2:starEach [a,b] X.env=(false,eval a X.env)::starEach [b] X.env:=by rfl) :
  VS X md ((md.set i m1).set j m2) lm rm (.Assign [.Tuple [.Name x px,.Name y py] kt pt] (.Tuple [a,b] k2 pt2) pos) (MJ i j (a8 pa (a8 pb aE))):=
 ⟨(a1J hc hN hi hj hij hx hy (iB ha.h (iB hb.h lX hs1) hs2) hw hs).imp λD σ H=>by
  rintro⟨env,W0,H0,W,E,R,q,l⟩
  refine⟨env,W0,H0,W,_,R,q,λx v W1 H1 g1 r1 q1=>⟨env,W0,H0,W1,_,R.step g1,q1,λy u W2 H2 g2 r2 q2=>?_⟩⟩
  refine⟨v,u,rfl,?_⟩
  dsimp only[aE] at q2
  rw[gH,gH] at q2
  exact l.nx _ W2 _ H2 ((R.set g1 r1 h1 l1).set g2 r2 h2 (by rw[List.length_set];exact l2)) ((g1.trans g2).ex R.ok) q2⟩
def a7A(K:Aa)(ta tb:TE):TE:=λσ H Q=>ta σ H λx H1=>∃k,a37 K x H1 k/\if k=true then Q x H1 else tb σ H1 Q
theorem a1A{X:Cx}{a b:Expr}{rest:List Expr}{ta tb:TE}{pos:Pos}(ha:PE X a ta)(hb:PE X (.BoolOp .Or (b::rest) pos) tb):PE X (.BoolOp .Or (a::b::rest) pos) (a7A X.K ta tb):=by
 intro pins s σ H Q I h
 refine BoolOp_or (d8 (ha pins s σ H _ I h) λv s1 ⟨x,H1,I1,r1,q1⟩=>?_)
 obtain⟨k,t,q1⟩:=q1
 refine d8 (a2K pins s1 σ H1 x v (λk' H2=>k'=k/\H2=H1) I1 r1 ⟨k,t,rfl,rfl⟩) λk' s2 ⟨H2,I2,e⟩=>?_
 obtain⟨rfl,rfl⟩:=e
 cases k' with
 |true=>exact⟨x,H2,I2,r1,q1⟩
 |false=>exact hb pins s2 σ H2 Q I2 q1
def QJ(a b:b5):b5:=λenv Q=>a env λx=>match x with
 |.lst xs=>Br (!xs.isEmpty) (Q (.lst xs)) (b env Q)
 |_=>False
theorem a2R {X:Cx} {md:List Md} {el:El} {a b:Expr} {rest:List Expr} {pa pb:b5} {pos:Pos} (ha:VE X md a (.o el) pa) (hb:VE X md (.BoolOp .Or (b::rest) pos) (.o el) pb):VE X md (.BoolOp .Or (a::b::rest) pos) (.o el) (QJ pa pb):=⟨(a1A ha.h hb.h).imp λσ H K=>by
 rintro⟨env,W0,H0,W,Q,R,q,k⟩
 refine⟨env,W0,H0,W,_,R,q,λx v W1 H1 g1 r1 q1=>?_⟩
 cases x with
 | lst xs=>
  have r0:=r1
  obtain⟨a,o,rfl,oq⟩:=r1
  have b:=oq.its
  have hat:=oq.at_
  cases b with
  | @lst us _ h=>
   have he:(!us.isEmpty)= !xs.isEmpty:=by
    have:=h.len
    cases us<;>cases xs<;>simp at this ⊢
   refine⟨!us.isEmpty,.inl ⟨us,dO.of hat,rfl⟩,?_⟩
   rw[he]
   dsimp only at q1
   cases hb':(!xs.isEmpty) with
   |true=>rw[hb'] at q1;rw[if_pos rfl];exact k _ _ W1 H1 g1 r0 q1
   |false=>rw[hb'] at q1;rw[if_neg a0m];exact⟨env,W0,H0,W1,Q,R.step g1,q1,k.after g1⟩
 |_=>exact q1.elim⟩
def lW (i:Nat) (y:PV) (pj:b5) (Kp:b9->Prop) (env:b9):Prop:=match oA env i with
 | some (some (.lst xs))=>pj env λj=>(match j with
  | .int k=>(match yD xs.length k with
   |some n=>Kp (kS env i (some (.lst (xs.set n y))))
   |none=>False)
  |_=>False)
 |_=>False
def A5(i i':Nat)(pe pj pj':b5):bJ:=λE env=>pe env λt=>match t with
 |.tup [y,z]=>lW i y pj (λenv1=>lW i' z pj' E.nx env1) env
 |_=>False
section
variable{X:Cx}{md lm:List Md}{rm:Md}{i i':Nat}{el el':El}{e o o' j j':Expr}{pe pj pj':b5}{p p' pt pos:Pos}
theorem R9 {W0 W1:Wd} {H0 H1:Hp} {σ:St} {env:b9} {v:V} {y:PV} {Kp:b9->Prop} {Q:St->Hp->Prop} (hi:md.getD i .no= .o el) (R1:Rl X.K md W0 H0 W1 σ env H1) (r1:Rep (λ_=>False) H1 v y) (q1:lW i y pj Kp env)
  (k:∀env' W2 H2,Rl X.K md W0 H0 W2 σ env' H2->Ex W1 H1 W2 H2->Kp env'->Q σ H2):P0 (g8 i) (fY X.K md .bw pj) AM v σ H1 Q:=by
 unfold lW at q1
 rw[nD] at q1
 cases ev:env[i]? with
 |none=>rw[ev] at q1;exact q1.elim
 | some ox=>
  cases ox with
  |none=>rw[ev] at q1;exact q1.elim
  | some x=>
   rw[ev] at q1
   cases x with
   | lst xs=>
    obtain⟨a,ob,sv,oq⟩:=R1.ownAt hi ev
    refine⟨.ref a,sv,env,W0,H0,W1,_,R1,q1,λjv u W2 H2 g2 r2 q2=>?_⟩
    have R2:=R1.step g2
    obtain⟨a2,o2,sv2,oq2⟩:=R2.ownAt hi ev
    rw[sv] at sv2;cases sv2
    cases jv with
    | int k'=>
     dsimp only at q2
     cases hn:yD xs.length k' with
     |none=>rw[hn] at q2;exact q2.elim
     | some n=>
      rw[hn] at q2
      have b:=oq2.its
      have oq3:=oq2
      have hat:=oq2.at_
      generalize o2=oo at b hat oq3
      cases b with
      | @lst us _ h=>
       have r1':Rep (el.G W2.F H0) H2 v y:=(r1.mono (G':=λ_=>False) (λ_ z=>z) λa o z e=>(g2.ex R1.ok).im a o (z.elim (λz=>z.elim) λz=>z) e).weak λ_ z=>z.elim
       refine⟨a,us,k',n,rfl,Rep.ofInt r2,hat,by rw[h.len];exact hn,?_⟩
       have q2:Kp (kS env i (some (PV.lst (xs.set n y)))):=q2
       rw[gH] at q2
       exact k _ W2 _ (R2.put hi ev sv (.lst (h.set r1' n)) rfl) ((g2.ex R1.ok).trans (I0 (K:=X.K) (md:=md) (W0:=W0) (σ:=σ) (env:=env) (i:=i) oq3)) q2
    |_=>exact q2.elim
   |_=>exact q1.elim
theorem XH {kt:Nat} (hc:X.calm=true) (ho:QE X o (g8 i)) (hi:md.getD i .no= .o el) (ho':QE X o' (g8 i')) (hi':md.getD i' .no= .o el') (he:VE X md e (.v .fl) pe) (hj:VE X md j .bw pj) (hj':VE X md j' .bw pj')
  (ha:∀v,assign (.Subscript o j p) X.env v=(do
   let ov <- holding [v] (eval o X.env)
   let iv <- holding [v,ov] (eval j X.env)
   standAt p
   holding [v,ov,iv] (setItem ov iv v)
   release [v,ov,iv] []):=by intro _;rfl)
  (ha':∀v,assign (.Subscript o' j' p') X.env v=(do
   let ov <- holding [v] (eval o' X.env)
   let iv <- holding [v,ov] (eval j' X.env)
   standAt p'
   holding [v,ov,iv] (setItem ov iv v)
   release [v,ov,iv] []):=by intro _;rfl)
  (hg1:(assignEach [.Subscript o j p,.Subscript o' j' p'] X.env).map (·.2)=assign (.Subscript o j p) X.env::(assignEach [.Subscript o' j' p'] X.env).map (·.2):=by rfl)
  (hg2:(assignEach [.Subscript o' j' p'] X.env).map (·.2)=assign (.Subscript o' j' p') X.env::(assignEach [] X.env).map (·.2):=by rfl)
  (hn:(assignEach [.Subscript o j p,.Subscript o' j' p'] X.env).length=2:=by rfl) (hst:(assignEach [.Subscript o j p,.Subscript o' j' p'] X.env).findIdx? (·.1)=none:=by rfl)
  (hs:swapsWithSole [.Tuple [.Subscript o j p,.Subscript o' j' p'] kt pt] e pos.line X.env=pure false:=by rfl) (hw:swappedStores [.Tuple [.Subscript o j p,.Subscript o' j' p'] kt pt] e X.env=pure none:=by rfl)
  (h1:(assignEach [.Tuple [.Subscript o j p,.Subscript o' j' p'] kt pt] X.env).map (·.2)=[assign (.Tuple [.Subscript o j p,.Subscript o' j' p'] kt pt) X.env]:=by rfl) :
  VS X md md lm rm (.Assign [.Tuple [.Subscript o j p,.Subscript o' j' p'] kt pt] e pos) (A5 i i' pe pj pj'):=
 ⟨(C9 he.h (QV hc (xB (C7 ho.h hj.h rV ha) (xB (C7 ho'.h hj'.h rV ha') K2 hg2) hg1) hn hst) hs hw h1).imp λD σ H=>by
 rintro⟨env,W0,H0,W,E,R,q,l⟩
 refine⟨env,W0,H0,W,_,R,q,λt v W1 H1 g1 r1 q1=>?_⟩
 match t,r1,q1 with
 | .tup [y,z],r1,q1=>
  have r1':Rep (λ_=>False) H1 v (.tup [y,z]):=r1
  obtain⟨a,vs,rfl,e,rs⟩:=r1'.ofTup
  match vs,rs,e with
  | [v1,v2],rs,e=>
   refine⟨a,[v1,v2],rfl,eQ.of e,rfl,v1,[v2],rfl,?_⟩
   refine R9 hi (R.step g1) (rs.at_ 0 v1 y rfl rfl) q1 λenv' W2 H2 R2 x2 q2=>?_
   refine⟨v2,[],rfl,?_⟩
   have r2:Rep (λ_=>False) H2 v2 z:=(rs.at_ 1 v2 z rfl rfl).mono (λ_ z=>z) λa o z e=>x2.im a o (z.elim (λz=>z.elim) λz=>z) e
   refine R9 hi' R2 r2 q2 λenv3 W3 H3 R3 x3 q3=>⟨rfl,?_⟩
   exact l.nx env3 W3 σ H3 R3 (((g1.ex R.ok).trans x2).trans x3) q3
  |[],rs,e=>have:=rs.len;simp at this
  |[_],rs,e=>have:=rs.len;simp at this
  |_::_::_::_,rs,e=>have:=rs.len;simp at this⟩
end
def RL:R2:=λx y H Q=>∃b c,x= .bl b/\y= .bl c/\Q (.bl (!(b==c))) H
theorem a0L{X:Cx}:nY X (compareOp .IsNot) RL:=by
 intro pins s σ H x y v u Q I rx ry h
 obtain⟨b,c,rfl,rfl,q⟩:=h
 cases rx;cases ry
 refine wpAny_isNot_plain rfl (bH I q ?_)
 cases b<;>cases c<;>rfl
theorem RE{X:Cx}:QOp X (compareOp .IsNot) RL:=⟨a0L⟩
def EU:P2:=λx y Q=>match x,y with
 |.bl b,.bl c=>Q (.bl (!(b==c)))
 |_,_=>False
theorem RZ:SimOp RL (.v .fl) EU:=⟨λB W H x y px py Q K w rx ry q k=>by
 cases px with
 | bl i=>cases py with
  |bl j=>exact⟨i,j,rx.ofBl,ry.ofBl,k.atom w (.bl _) q⟩
  |_=>exact q.elim
 |_=>exact q.elim⟩
def S7(tk tv:TE)(acc:Ac):TS:=λD σ H=>tk σ H λx H1=>tv σ H1 λy H2=>∃k kvs,x=kV k/\H2 acc=some (.dK kvs)/\kvs.length<sizeLine/\D.nx σ (bX H2 acc (.dK (F4 kvs k y)))
def O8 (k v:Expr) (acc:Value) (env:Env):Sem Unit:=do
 let kv <- eval k env
 let vv <- holding [kv] (eval v env)
 match acc with
 | .ref d=>do
  standAt {k.pos with endLine:=v.pos.endLine,endCol:=v.pos.endCol}
  holding [kv,vv] (dictSet d kv vv)
 |_=>unsupported "internal:dictcomp"
theorem VM{Y:Cx}(hx:Y.xe=λ_ _=>False){k v:Expr}{tk tv:TE}{acc:Addr}(hk:PE Y k tk)(hv:PE Y v tv):PB Y (O8 k v (.ref acc) Y.env) (S7 tk tv acc):=by
 intro pins s σ H D I h
 have h0:=hk pins s σ H _ I h
 rw[hx] at h0
 unfold O8
 refine a0b (a1j h0 (λkv s1 h1=>?_) λ_ _ z=>z)
 obtain⟨x,H1,I1,r1,q1⟩:=h1
 have h1:=hv pins s1 σ H1 _ I1 q1
 rw[hx] at h1
 refine a0b (a2e (a1j h1 (λvv s2 h2=>?_) λ_ _ z=>z))
 obtain⟨y,H2,I2,r2,kk,kvs,rfl,ha,hl,q2⟩:=h2
 refine a0b (a2y (a2e ?_))
 obtain⟨z,hd,vs,rel,dd⟩:=a3H I2.hok ha
 have hz:vs.length<=sizeLine:=by rw[<- rel.length];exact z
 have hl2:(F4 kvs kk y).length<=sizeLine:=by have:=EA kvs kk y;omega
 refine wpAny_dictSet_pairs (hsz:=hz) (PF r1) dd λh' dd' hs=>⟨σ,_,?_,q2⟩
 have he:∃q,h'.get? acc=some q:=let ⟨q,_,_,hq,_⟩:=dd';⟨q,hq⟩
 exact TQ I2 (by rw[ha];exact True.intro) hs he (YT hl2 hd (rel.put kk r2) dd')
def a7O(wi:TI)(g:TG)(tt:TT)(tk tv:TE)(n:Nat)(cap:List Nat):TE:=λσ H Q=>wi σ H λJ H1=>∀acc,H1 acc=none->
 pZ J g (MT tt (S7 tk tv acc)) {nx:=λ_ H'=>Q (.ref acc) H',rt:=λ_ _=>False} (yO n cap σ) (bX H1 acc (.dK []))
section
variable{X:Cx}{kx vx target iter:Expr}{ifs:List Expr}{scope:Scope}{pos:Pos}{N':List Str}{n:Nat}{cap:List Nat}{wi:TI}{g:TG}{tt:TT}{tk tv:TE}
theorem QY {x:Str} {pos' pos2:Pos} {gg:TG} (hgx:PG X (.Name x pos') gg) (hsw:swapsWith (.DictComp kx vx [⟨target,iter,ifs,0⟩] scope pos) (some (.Name x pos')) pos2.line X.env=pure true) (hc:X.calm=true) (S:LcOk X.N X.env.scope scope N' n cap) (hi:PI X target iter wi) (hg:∀C s H fp,PG (b6 X N' scope C s H fp) target g)
    (ht:∀C s H fp,N6 (b6 X N' scope C s H fp) ifs tt) (hk:∀C s H fp,PE (b6 X N' scope C s H fp) kx tk) (hv:∀C s H fp,PE (b6 X N' scope C s H fp) vx tv) (hs:∀x,foldedSetIterable iter X.env x=pure x:=by intro _;rfl) :
    PS X (.Assign [.Name x pos'] (.DictComp kx vx [⟨target,iter,ifs,0⟩] scope pos) pos2) (FR (a7O wi g tt tk tv n cap) gg):=by
  intro pins s σ H D I h
  have hfree:∀y∈scope.names,y.2= .free->∃c,X.env.cells.lookup y.1=some c:=λy hy e=>I.ok.has y.1 (.inl (S.frees y hy e))
  rw[exec_Assign_Name_used x pos' _ pos2 hsw]
  refine a0b (a2y (a0b ?_))
  rw[arm_evalThenUse_DictComp]
  refine a0b ?_
  refine a5a (use:=some (assign (.Name x pos') X.env)) (Q:=λ_ s'=>wpAny (model X.prog X.w) X.A (pure ()) (λ_ s'=>wpAny (model X.prog X.w) X.A (pure Flow.next) (SP X pins D) X.xe s') X.xe s') rfl hs (jI hfree) S.kind S.names ?_
  refine d8 (hi pins s σ H _ I h) λv s1 h1=>d8 h1 λitv s2 h2=>?_
  obtain⟨it,fp,tn,J,H2,rfl,I2,T,st2,f2,body⟩:=h2
  refine a2b ?_
  have I3:Inv X pins σ (bX H2 s2.heap.objs.size (.dK [])) {s2 with heap:=s2.heap.push {cls:=.type "dict",dict:=none,data:=.dict #[]} }:=I2.laid (a:=s2.heap.objs.size) (o:=.dK []) (t':=s2.toks) (λ_ _ q=>a0f _ q) (a0o _) (DW s2.heap I2.big)
  have hacc:H2 s2.heap.objs.size=none:=I2.fresh
  have body:=body _ hacc
  have hlt:∀b∈fp,b<s2.heap.objs.size:=λb hb=>by
    obtain⟨o,e,_⟩:=T.obj 0 _ st2 b hb
    exact a0q e
  have hf3:∀b∈fp,iY X pins (bX H2 s2.heap.objs.size (.dK [])) b:=λb hb=>
    ⟨by rw[aL (a0x (hlt b hb))];exact (f2 b hb).1,(f2 b hb).2⟩
  refine a5s S.nocell (by intro y hy;cases hy) (λh4 ns4 sb4=>?_) S.kind
  generalize hs3:({s2 with heap:=s2.heap.push {cls:=.type "dict",dict:=none,data:=.dict #[]} }:Ab)=s3 at*
  have hsz:s2.heap.objs.size<s3.heap.objs.size:=by rw[<- hs3,a2x];exact a2p _
  have k4:∀b o,s3.heap.get? b=some o->h4.get? b=some o:=λb o e=>(sb4.2 b (a0x (a0q e))).trans (a0f _ e)
  generalize hH3:bX H2 s2.heap.objs.size (.dK [])=H3 at*
  have I3':Inv X pins σ H3 s3:=I3
  have IY:=qN (tk:=s3.toks+([]:List (Str×Value)).length) S I3' hf3 (λb hb=>a2r (hlt b hb) hsz) ns4 k4
  have fpY:∀b∈fp,iY (b6 X N' scope s3.heap.objs.size s3 H3 fp) [] H3 b:=λb hb=>by
    obtain⟨f0,f1,f2',f3,f4,f5⟩:=hf3 b hb
    refine⟨f0,a0x (a2r (hlt b hb) hsz),λz=>?_,.inl hb,λx c e=>f4 x c (jH hfree e),λp hp=>absurd hp (by simp[b6])⟩
    rcases a0l.mp (I3'.stkSub b z) with z|z
    · exact f1 z
    · exact f2' z
  have tn4:tn 0 h4:=T.keep 0 _ _ st2 λb hb o e=>k4 b o (by rw[<- hs3];exact a0f _ e)
  have loop:codeAny (model X.prog X.w) X.A (.compLoop (.DictComp kx vx [⟨target,iter,ifs,0⟩] scope pos) 0 (.ref it) (.ref s2.heap.objs.size) (b6 X N' scope s3.heap.objs.size s3 H3 fp).env)
      (compPost (model X.prog X.w) X.A X.xe (some (assign (.Name x pos') X.env)) (λ_ s'=>wpAny (model X.prog X.w) X.A (pure ()) (λ_ s'=>wpAny (model X.prog X.w) X.A (pure Flow.next) (SP X pins D) X.xe s') X.xe s') (.ref s2.heap.objs.size) s3.heap.objs.size) {s3 with heap:=h4,toks:=s3.toks+([]:List (Str×Value)).length}:=by
    refine vX (Y:=b6 X N' scope s3.heap.objs.size s3 H3 fp) (act:=O8 kx vx (.ref s2.heap.objs.size) (b6 X N' scope s3.heap.objs.size s3 H3 fp).env) (.dict _ _ _ _ _) hc rfl rfl (hg _ _ _ _) (ht _ _ _ _) (VM rfl (hk _ _ _ _) (hv _ _ _ _)) T IY tn4 fpY body λi σ5 H5 s6 I6 qn=>?_
    obtain⟨m,hn,_⟩:=I6.loc
    have hs':Heap.SameBut s3.heap.objs.size s6.heap s6.heap:=⟨rfl,λ_ _=>rfl⟩
    have IX:Inv X pins σ H5 s6:=by
      have ub:=I6.base
      have ne:∀b o,s3.heap.get? b=some o->b≠s3.heap.objs.size:=λb o e=>a0x (a0q e)
      refine I3'.call' (s':=s6) (ch:=fp) I6.os ⟨λb o e z1 z2 z3=>(hs'.2 b (ne b o e)).trans (ub.keep b o e z1 z2 z3),λb o e z1 z2 z3=>?_,ub.free,λb o e z=>?_,ub.tups,ub.frzs,ub.tbls⟩ (vB I6.hok I6.free hs') I6.bare λb hb=>⟨(hf3 b hb).2.2.2.1,(hf3 b hb).2.1,(hf3 b hb).2.2.2.2.1,(hf3 b hb).2.2.2.2.2⟩
      · obtain⟨sl,e'⟩:=ub.slot b o e z1 z2 z3
        exact⟨sl,(hs'.2 b (ne b o e)).trans e'⟩
      · obtain⟨o',e'⟩:=ub.there b o e z
        exact⟨o',(hs'.2 b (ne b o e)).trans e'⟩
    have fC:iY X pins H5 s3.heap.objs.size:=I3'.fpOk (a0o _) I6.free
    have IXp := IX.pinned (fp := [s3.heap.objs.size]) (fun b hb => by have e : b=s3.heap.objs.size:=by simpa using hb
                                                                      subst e;exact fC) (λb hb=>by
      have e:b=s3.heap.objs.size:=by simpa using hb
      subst e
      obtain⟨o,es,ep,ho,hd,_⟩:=hn
      exact⟨o,ho,λv z=>by rw[hd] at z;cases z⟩)
    show wpAny _ _ (assign (.Name x pos') X.env (.ref s2.heap.objs.size)) _ _ s6
    refine d8 (hgx _ s6 σ H5 (.ref s2.heap.objs.size) (.ref s2.heap.objs.size) _ IXp rfl qn) λ_ s7 h7=>?_
    obtain⟨σ7,H7,I7,q7⟩:=h7
    obtain⟨o,es,ep,ho,hd⟩:=id hn
    have z:=I7.pin (s3.heap.objs.size,o) (a0t _ (a0t _ (eG (by simp) ho)))
    refine⟨m,⟨o,es,ep,z.1,hd⟩,λh' hs'=>a0d (a0d ⟨σ7,H7,?_,q7⟩)⟩
    obtain⟨f0,f1,f2,f3,f4,f5⟩:=fC
    exact I7.unpinned.turned (t':=s7.toks) (it:=s3.heap.objs.size) (λb o hb e=>(hs'.2 b hb).trans e) z.2.1 f1 f3 f4 f5
  exact kH (.dict _ _ _ _ _) rfl loop (T.self _ 0 _ _ _ tn4 loop)
end
def yV (g:iS) (tt:gJ) (tk tv:b5) (Q:PV->Prop):List PV->List d9->List PV->b9->Prop
 |[],ks,xs,_=>Q (.dic ks xs)
 | i::r,ks,xs,env=>g i env λenv1=>tt env1 λb=>Br b (tk env1 λx=>tv env1 λy=>match a02 x with
   |some k=>ks.length<1000/\yV g tt tk tv Q r (TY ks k) (N9 ks xs k y) env1
   |none=>False) (yV g tt tk tv Q r ks xs env1)
def a30(s:mS)(g:iS)(tt:gJ)(tk tv:b5)(cp:b9->b9):b5:=λenv Q=>s env λitems=>yV g tt tk tv Q items [] [] (cp env)
structure DicIn(acc:Addr)(H0:Hp)(W:Wd)(H:Hp)(ks:List d9)(xs:List PV):Prop where
 ex:∃vs,H acc=some (.dK (ks.zip vs))/\ks.length=vs.length/\Reps (λ_=>False) H vs xs
 new:H0 acc=none
 nF:¬W.F acc
 nS:¬W.S acc
 nL:¬W.L acc
 nZ:¬W.Z acc
theorem DicIn.go{acc:Addr}{H0:Hp}{W W':Wd}{H H':Hp}{ks:List d9}{xs:List PV}(x:DicIn acc H0 W H ks xs)(w:Wok W H)(g:Go W H W' H'):DicIn acc H0 W' H' ks xs:=by
 obtain⟨vs,h1,h2,h3⟩:=x.ex
 exact⟨⟨vs,g.kp acc _ h1 x.nS,h2,h3.mono (λ_ z=>z) λa o z e=>g.kp a o e (w.imm e (z.elim (λz=>z.elim) λz=>z))⟩,x.new,g.nFF h1 x.nF,g.nSS h1 x.nS,by rw[g.kl];exact x.nL,g.nZZ h1 x.nZ⟩
theorem TU {K:PySem.W.Frag} {mb m1:List Md} {eli:El} {g:iS} {tt:gJ} {tk tv:b5} {acc:Addr} {J:It} {items:List PV} {W0 W1:Wd} {H0 H1:Hp} {Q:PV->Prop} {D:Ends} (hle:jL m1 mb=true) (hbl:mD m1=true) (sr:Src J eli H0 W1 H1 items)
  {σ:St} {env:b9} {ks:List d9} {xs:List PV} (q:yV g tt tk tv Q items ks xs env) {W2:Wd} {H2:Hp} (R:Rl K mb W0 H0 W2 σ env H2) (x12:Ex W1 H1 W2 H2) (x:DicIn acc H0 W2 H2 ks xs)
  (k:∀(env':b9) (W':Wd) (σ':St) (H':Hp) (ks':List d9) (xs':List PV),Rl K mb W0 H0 W' σ' env' H'->Ga acc W2 H2 W' H'->DicIn acc H0 W' H' ks' xs'->Q (.dic ks' xs')->D.nx σ' H') :
  pZ J (tX K mb m1 eli g) (MT (tY K m1 tt) (S7 (fY K m1 .bw tk) (fY K m1 (.v .fl) tv) acc)) D σ H2:=by
 refine ⟨λi m σb Hb=>m=items.length-i/\i<=items.length/\∃(envb:b9) (Wb:Wd) (kb:List d9) (xb:List PV),Rl K mb W0 H0 Wb σb envb Hb/\Ga acc W2 H2 Wb Hb/\DicIn acc H0 Wb Hb kb xb/\yV g tt tk tv Q (items.drop i) kb xb envb,
  ⟨items.length,by simp,a3c _,env,W2,ks,xs,R,.refl,x,by simpa using q⟩,?_⟩
 rintro i m σb Hb ⟨rfl,hi,envb,Wb,kb,xb,Rb,gab,ib,qb⟩
 have exb:Ex W1 H1 Wb Hb:=x12.trans gab.ex
 by_cases hlt:i<items.length
 ·rw [a3g hlt] at qb
  refine .inr ⟨sr.go i Wb Hb exb hlt,λσ' H'=>i+1<=items.length/\∃(envb:b9) (Wb:Wd) (kb:List d9) (xb:List PV),Rl K mb W0 H0 Wb σ' envb H'/\Ga acc W2 H2 Wb H'/\DicIn acc H0 Wb H' kb xb/\yV g tt tk tv Q (items.drop (i+1)) kb xb envb,λσ' H' z=>⟨items.length-(i+1),by omega,rfl,z.1,z.2⟩,λv H3 y=>?_⟩
  obtain⟨g3,xx,ex,rx⟩:=sr.yld i Wb Hb v H3 exb Rb.ok hlt y
  rw[a0a hlt] at ex
  cases ex
  refine⟨envb,W0,H0,Wb,_,_,Rb.step g3,rx,qb,λenv' σ' R' z=>?_⟩
  refine⟨env',W0,H0,Wb,_,R',z,λkk W4 H4 g4 q4=>?_⟩
  have x4:=(ib.go Rb.ok g3).go g3.ok g4
  have ga4:Ga acc W2 H2 W4 H4:=(gab.trans (g3.toGa Rb.ok)).trans (g4.toGa g3.ok)
  cases kk with
  | false=>
   dsimp only
   rw[if_neg a0m]
   exact⟨hlt,env',W4,kb,xb,(R'.step g4).less hle,ga4,x4,q4⟩
  | true=>
   dsimp only
   rw[if_pos rfl]
   have R4:=R'.step g4
   refine⟨env',W0,H0,W4,_,R4,q4,λkp u W5 H5 g5 r5 q5=>⟨env',W0,H0,W5,_,R4.step g5,q5,λyp u2 W6 H6 g6 r6 q6=>?_⟩⟩
   cases hk:a02 kp with
   |none=>rw[hk] at q6;exact q6.elim
   | some kk=>
    rw[hk] at q6
    obtain⟨hlen,q6⟩:=q6
    have hu:u=kV kk:=XW (S:=λ_=>True) hk r5
    subst hu
    have x6:=(x4.go R4.ok g5).go g5.ok g6
    obtain⟨vs,h1,h2,h3⟩:=x6.ex
    refine⟨kk,_,rfl,h1,by rw[List.length_zip,<- h2,Nat.min_self];exact a2r hlen (by decide),hlt,env',W6,TY kb kk,N9 kb xb kk yp,?_⟩
    rw[WA h2]
    have R6:=(R4.step g5).step g6
    have keep:∀a o,(False\/o.imm=true)->H6 a=some o->(bX H6 acc (.dK ((TY kb kk).zip (N9 kb vs kk u2)))) a=some o:=λa o z e=>by
     rw[aL (λz2=>by subst z2;rw[h1] at e;cases e;exact z.elim (λz=>z) λz=>by cases z)];exact e
    refine⟨(R6.tmp hbl x6.new x6.nF x6.nS x6.nL x6.nZ h1 rfl (λ_ _ z=>by cases z)).less hle,?_,⟨⟨_,bM,TZ h2 kk u2,?_⟩,x6.new,x6.nF,x6.nS,x6.nL,x6.nZ⟩,q6⟩
    ·refine (ga4.trans ((g5.trans g6).toGa R4.ok)).trans ⟨λV G hG g=>g.tmp hG x6.nF x6.nS x6.nZ,⟨λ_ h=>h,λb o f e=>by rw[aL (λz=>by subst z;exact x6.nF f)];exact e,λb o im e=>keep b o (.inr im) e⟩⟩
    ·exact (h3.dput kk r6).mono (λ_ z=>z) λa o z e=>keep a o z e
 ·have e:i=items.length:=by omega
  subst e
  rw[a5k] at qb
  exact .inl ⟨sr.stop Wb Hb exb,k envb Wb σb Hb kb xb Rb gab ib qb⟩
theorem TR {K:PySem.W.Frag} {md mb:List Md} {eli:El} {s:mS} {g:iS} {tt:gJ} {tk tv:b5} {n:Nat} {cap:List Nat} {σ:St} {H:Hp} {Q:VK} {cp:b9->b9} (hcp:∀env,cp env=oC n cap env) (hle:jL mb (f7 n cap md)=true) (hbl:mD mb=true)
  (h:fY K md (.o .fl) (a30 s g tt tk tv cp) σ H Q):a7O (wD K md eli s) (tX K (f7 n cap md) mb eli g) (tY K mb tt) (fY K mb .bw tk) (fY K mb (.v .fl) tv) n cap σ H Q:=by
 obtain⟨env,W0,H0,W,Q',R,q,k⟩:=h
 refine⟨env,W0,H0,W,_,R,q,λitems W1 H1 J g1 sr q1=>?_⟩
 intro acc hacc
 rw[hcp] at q1
 have h0acc:H0 acc=none:=R.go.free (g1.free hacc)
 have R1:=R.step g1
 have Rb:=CJ (n:=n) (cap:=cap) R1 (λa=>∃o,H1 a=some o) (λa o e=>⟨o,e⟩)
 generalize hW1b:({W1 with L:=λa=>∃o,H1 a=some o}:Wd)=W1b at Rb
 generalize hW0b:({W0 with L:=λa=>∃o,H1 a=some o}:Wd)=W0b at Rb
 have f1:W1b.F=W1.F:=by rw[<- hW1b]
 have s1:W1b.S=W1.S:=by rw[<- hW1b]
 have l1:¬W1b.L acc:=by rw[<- hW1b];rintro⟨o,e⟩;rw[hacc] at e;cases e
 have okb:Wok W1b H1:=Rb.ok
 have nF1:¬W1b.F acc:=λz=>okb.offF hacc z
 have nS1:¬W1b.S acc:=λz=>okb.offS hacc z
 have nZ1:¬W1b.Z acc:=λz=>okb.offZ hacc z
 have z1:W1b.Z=W1.Z:=by rw[<- hW1b]
 have gl:Go W1b H1 W1b (bX H1 acc (.dK [])):=Go.laid okb hacc
 have exW:Ex W1 H1 W1b (bX H1 acc (.dK [])):=by
  have x:=gl.ex okb
  exact⟨λa h=>by rw[f1];exact h,λa o h e=>x.kp a o (by rw[f1];exact h) e,x.im⟩
 refine TU hle hbl sr q1 (Rb.step gl) exW ⟨⟨[],bM,rfl,.nil⟩,h0acc,nF1,nS1,l1,nZ1⟩ λenvb Wb σb Hb kb xb Rr ga x qb=>?_
 have gb:Go W1b H1 Wb Hb:=ga.ga W1b H1 hacc gl
 have gf:Go W H {Wb with L:=W.L} Hb:=by
  have a:=g1
  refine⟨λb h=>gb.lF b (by rw[f1];exact a.lF b h),λb h=>gb.lS b (by rw[s1];exact a.lS b h),λb h=>?_,λb h=>?_,λb o e s=>?_,⟨gb.ok.fF,gb.ok.sS,gb.ok.dj,gb.ok.zZ,gb.ok.zF,gb.ok.zS⟩,?_,rfl,λb h=>gb.lZ b (by rw[z1];exact a.lZ b h),λb h=>?_⟩
  ·rcases gb.nF b h with z|z
   ·exact a.nF b (by rw[<- f1];exact z)
   ·exact .inr (a.free z)
  ·rcases gb.nS b h with z|z
   ·exact a.nS b (by rw[<- s1];exact z)
   ·exact .inr (a.free z)
  ·refine gb.kp b o (a.kp b o e s) ?_
   rw[s1];exact a.nSS e s
  ·show Wb.K=W.K
   rw[gb.kk,<- hW1b];exact a.kk
  ·rcases gb.nZ b h with z|z
   ·exact a.nZ b (by rw[<- z1];exact z)
   ·exact .inr (a.free z)
 obtain⟨vs,h1,h2,h3⟩:=x.ex
 refine k _ (.ref acc) {Wb with L:=W.L} Hb gf ⟨acc,.dK (kb.zip vs),rfl,?_⟩ qb
 exact⟨g1.free hacc,x.nF,x.nS,h1,.dic h2 (h3.weak λ_ z=>z.elim),x.nZ⟩
section
variable{X:Cx}{kx vx target iter:Expr}{ifs:List Expr}{scope:Scope}{pos pos2 pos':Pos}{N':List Str}{n i:Nat}{x:Str}{cap:List Nat}{md mb lm:List Md}{rm:Md}{eli:El}{s:mS}{g:iS}{tt:gJ}{tk tv:b5}
theorem SM {cp:b9->b9} (hN:X.N.Nodup) (hix:X.N[i]? =some x) (hx:KY X.env.scope x) (hsw:swapsWith (.DictComp kx vx [⟨target,iter,ifs,0⟩] scope pos) (some (.Name x pos')) pos2.line X.env=pure true) (hf:X.fn x=true\/X.env.scope.names.lookup x=some .local)
  (hm:iL (md.set i (.o .fl))=true) (hl:i<md.length)
  (hcp:∀env,cp env=oC n cap env) (hc:X.calm=true) (S:LcOk X.N X.env.scope scope N' n cap) (hle:jL mb (f7 n cap md)=true) (hbl:mD mb=true) (hi:VI X md eli target iter s) (hg:∀C s H fp,VG (b6 X N' scope C s H fp) (f7 n cap md) mb eli target g)
  (ht:∀C s H fp,VTs (b6 X N' scope C s H fp) mb ifs tt) (hk:∀C s H fp,VE (b6 X N' scope C s H fp) mb kx .bw tk) (hv:∀C s H fp,VE (b6 X N' scope C s H fp) mb vx (.v .fl) tv) (hs:∀x,foldedSetIterable iter X.env x=pure x:=by intro _;rfl) :
  VS X md (md.set i (.o .fl)) lm rm (.Assign [.Name x pos'] (.DictComp kx vx [⟨target,iter,ifs,0⟩] scope pos) pos2) (c4 i (a30 s g tt tk tv cp)):=
 ⟨(QY (vD hN hix hx hf) hsw hc S hi.h (λC s H fp=>(hg C s H fp).h) (λC s H fp=>(ht C s H fp).h) (λC s H fp=>(hk C s H fp).h) (λC s H fp=>(hv C s H fp).h) hs).imp λD σ H=>by
 rintro⟨env,W0,H0,W,E,R,q,l⟩
 refine TR hcp hle hbl ⟨env,W0,H0,W,_,R,q,λx v W1 H1 g1 r1 q1=>?_⟩
 rw[gH] at q1
 exact l.nx _ W1 _ H1 (R.set g1 r1 hm hl) (g1.ex R.ok) q1⟩
end
section
variable{prog:Program}{w:World}{A:Around}{E:Value->Ab->Prop}{s:Ab}
abbrev bF(w:World):Obj:={cls:=.type "set",dict:=none,data:=.set #[] 0 (.fresh 0 0 (!w.params.followText "set-order"))}
theorem JK{h:Heap}{a:Addr}(e:h.get? a=some (bF w)):bW prog w a (λ_=>false) 0 h:=by
 refine⟨_,#[],0,_,e,⟨rfl,rfl,rfl⟩,rfl,λe he=>by simp at he,λk=>by simp,by decide,by rfl,rfl,?_,by simp⟩
 cases w.params.followText "set-order" with
 |true=>exact .inl rfl
 |false=>exact .inr ⟨rfl,λ_=>List.Pairwise.nil⟩
theorem vW (a:Value) {Q₁:Value->Shared->Prop}
  (h:Q₁ (.ref s.heap.objs.size) {s with heap:=s.heap.push (bF w)}) :
  codeAny (model prog w) A (.call (.builtin "set.__new__") ⟨[.type "set",a],[]⟩) (wants Q₁ E) s:=by
 refine codeAny_of_tree ?_
 show wpAny _ A.in1 (do checkBuiltinCall "set.__new__" ⟨[.type "set",a],[]⟩;again (.builtin "set.__new__" ⟨[.type "set",a],[]⟩)) _ _ s
 refine a0b (a6b (F.newCall_set_1 a) (a0d ⟨a5x F.plain_set_new _,a4a F.entry_set_new ?_⟩))
 rw[a3n F.plain_set_new _]
 unfold Builtin.«set.__new__» Builtin.Frozenset.newClass
 have hsub:=sub_set_self
 obtain⟨hp,g,d,tk,os⟩:=s
 dsimp only
 wp_walk
 refine a3t (a0d ?_)
 dsimp only
 simp only[newObj]
 refine a0b (wpAny_alloc (a0d ?_))
 exact a0d h
section
variable{R:Result->Ab->Prop}{I:Ac}{fp wr:List Ac}{G:Array GenState->Array GenState->Prop}{n:Nat}{P:Nat->Value->Prop}{St:Nat->Ab->Prop}
theorem bW.congr{a:Addr}{S S':Int->Bool}{n n':Nat}{h:Heap}(x:bW prog w a S n h)(e:∀k,S k=S' k)(en:n=n'):bW prog w a S' n' h:=by
 have:S=S':=funext e
 subst this;subst en;exact x
theorem CU (W:WalksS prog w A.in1 I fp wr G n P St) (S:Addr) (hSf:S∉fp)
  (val:Nat->Int) (hval:∀i v,P i v->∃t,v= .int (val i) t) (hb:n+1<scanBound) :
  ∀ (k i:Nat) (s:Shared),n-i=k->i<=n->St i s->
   bW prog w S (λk'=>(firstMet val i).any (·==k')) (firstMet val i).length s.heap->
   (∀s',Moved (S::wr) G s s'->bW prog w S (λk'=>(firstMet val n).any (·==k')) (firstMet val n).length s'.heap->R (.ok (.ret .none)) s')->
   codeAny (model prog w) A (.builtin "set.update.loop" ⟨[.ref S,.ref I],[]⟩) R s:=by
 have hSw:S∉wr:=λh=>hSf (W.sub _ h)
 have hsub:∀b∈wr,b∈S::wr:=λb hb=>a0j _ hb
 intro k
 induction k with
 | zero=>
  intro i s hk hi hst hS hR
  have hin:i=n:=by omega
  subst hin
  refine a4a F.entry_set_update_loop ?_
  rw[a3n a7o _]
  show wpAny _ A.in1 (pyNext (.ref I) >>=_) _ _ s
  refine a0b (W.done s _ _ hst λs' hm=>?_)
  show wpAny _ A.in1 (ret Value.none) _ _ s'
  exact a0d (hR s' (hm.mono hsub) (hS.mono λo e=>hm.heap S _ hSw e))
 | succ k ih=>
  intro i s hk hi hst hS hR
  have hlt:i<n:=by omega
  refine a4a F.entry_set_update_loop ?_
  rw[a3n a7o _]
  show wpAny _ A.in1 (pyNext (.ref I) >>=_) _ _ s
  refine a0b (W.item i s _ _ hlt hst λv s' hP hst' hm=>?_)
  obtain⟨t,rfl⟩:=hval i v hP
  have hS':bW prog w S (λk'=>(firstMet val i).any (·==k')) (firstMet val i).length s'.heap:=hS.mono λo e=>hm.heap S _ hSw e
  show wpAny _ A.in1 (holding [Value.int (val i) t] (setAdd S (.int (val i) t)) >>=_) _ _ s'
  refine a0b (a2e ?_)
  unfold setAdd
  refine a2e ?_
  refine a0b ((intKind prog w).pyHash (k:=val i) (intKind_is _ _ _ _) ?_)
  have hroom:(firstMet val i).length+1<scanBound:=by have:=firstMet_length_le val i;omega
  refine n0 (s:={s' with toks:=s'.toks+1}) (intKind_is _ _ _ _) rfl hS' hroom λh' hsb hS2=>?_
  have hSi:bW prog w S (λk'=>(firstMet val (i+1)).any (·==k')) (firstMet val (i+1)).length h':=
   hS2.congr (λk'=>by rw[firstMet_succ,step_any]) (by rw[firstMet_succ,step_length])
  refine a0d ⟨a5x a7o _,ih (i+1) _ ∅ hlt (W.frame _ s' _ _ hst' (Nat.le_succ _) λb hb o e=>?_) hSi λs'' hm'' hS''=>?_⟩
  ·rw[hsb.2 b (λh:b=S=>hSf (by rw[<- h];exact hb))];exact e
  ·refine hR s'' (Moved.trans W.gtrans ((hm.mono hsub).then_heap (Nat.le_succ _) λb o hb e=>?_) hm'') hS''
   rw[hsb.2 b (λh:b=S=>hb (by rw[h];exact a0n))];exact e
end
end
end L2
namespace PySem
section
variable{prog:Program}{w:World}{A:Around}{E:Value->Ab->Prop}{s:Ab}
set_option maxHeartbeats 3200000 in
theorem call_set_list_x {l:Addr} {items:Array Value} {ns:List Int} {Q:Value->Shared->Prop}
  (hh:A.handled=none) (hl:s.heap.IsList l items) (hi:PyProof.Rows.IntsAre items.toList ns) (hb:items.size+1<scanBound)
  (h:∀(h':Heap) (tk:Nat),L2.bW prog w s.heap.objs.size (λk'=>(PyProof.Rows.firstMet (λi=>ns.getD i 0) items.size).any (·==k')) (PyProof.Rows.firstMet (λi=>ns.getD i 0) items.size).length h'->
   (∀b o,b<s.heap.objs.size->s.heap.get? b=some o->h'.get? b=some o)->Q (.ref s.heap.objs.size) {s with heap:=h',toks:=tk}) :
  wpAny (model prog w) A (call (.type "set") [.ref l]) Q E s:=by
 obtain⟨c,tl,hmro⟩:=a5b.mro
 have hmade:=a5b.made
 have hsub:=a5b.sub
 refine wpAny_call (codeAny_of_tree ?_)
 show wpAny _ _ (callAny (.type "set") _) _ _ _
 refine a0d ⟨Code.quiet_builtin _ ⋯,a4a F.entry_type_call ?_⟩
 rw[Around.under_plain (weight_type_call_type "set" [.ref l] []) rfl]
 have h1:=a5b.notType
 have h2:=a5b.canCreate
 have hct:=F.typeCall_set_1 (.ref l)
 repeat (any_goals (first|assumption|wp_step))
 refine a6y (L2.vW (w:=w) (.ref l) (E:=E) (Q₁:=λobj s₁=>obj= .ref s.heap.objs.size/\s₁={s with heap:=s.heap.push (L2.bF w)}) ⟨rfl,rfl⟩) λr s₁ hr=>?_
 cases r with
 |error e=>exact hr
 | ok fl=>
  cases fl with
  | ret obj=>
   obtain⟨rfl,rfl⟩:=hr
   have hS:(s.heap.push (L2.bF w)).get? s.heap.objs.size=some (L2.bF w):=a1e _ rfl
   have hT:Shared.TypeIs {s with heap:=s.heap.push (L2.bF w)} (.ref s.heap.objs.size) "set":=⟨_,hS,rfl⟩
   have hli:=a5b.init.lookup
   have hbi:=a5b.init.bind (.ref s.heap.objs.size)
   repeat (any_goals (first|assumption|wp_step))
   refine a6y (codeAny_call_builtin (R:=wants (λr s₂=>r= .none/\∃h' tk,s₂={s with heap:=h',toks:=tk}/\
     L2.bW prog w s.heap.objs.size (λk'=>(PyProof.Rows.firstMet (λi=>ns.getD i 0) items.size).any (·==k')) (PyProof.Rows.firstMet (λi=>ns.getD i 0) items.size).length h'/\
     (∀b o,b<s.heap.objs.size->s.heap.get? b=some o->h'.get? b=some o)) E) a5b.init.plain F.entry_set_init (check_set_init_1 hT ?_)) λr₂ s₂ hr₂=>?_
   ·obtain ⟨ol,hol,hcl,nl,hdl⟩:=hl
    obtain⟨ocls,odict,odata,oslots⟩:=ol
    simp only at hcl hdl
    subst hcl;subst hdl
    have hol':(s.heap.push (L2.bF w)).get? l=some {cls:=.type "list",dict:=odict,data:=.seq items nl,slots:=oslots}:=a0f _ hol
    have hsls:=F.sub_list_set
    have hslf:=F.sub_list_frozenset
    have hne:(Value.type "list"==Value.type "dict")=false:=by decide
    have hl1:(s.heap.push (L2.bF w)).IsList l items:=⟨_,hol',rfl,nl,rfl⟩
    unfold Builtin.«set.__init__» noKeywords Builtin.Frozenset.updateFrom
    generalize hPI:pyIter=PI
    wp_walk
    subst hPI
    refine wpAny_pyIter_list hl1 ?_
    refine a0b (wpAny_runValue ?_)
    have hlS:l<s.heap.objs.size:=a0q hol
    have hh3:A.in1.in1.in1.handled=none:=by simp[hh]
    have hneI:l≠(s.heap.push (L2.bF w)).objs.size:=by
     rw[a2x];exact a0x (Nat.lt_succ_of_lt hlS)
    have hSf:s.heap.objs.size∉[(s.heap.push (L2.bF w)).objs.size,l]:=by
     rw[a2x];simp only[a0l,a5t,a0y,a2i,not_or]
     exact⟨a0x (a2p _),a4t hlS⟩
    have hval:∀(i:Nat) (v:Value),items[i]? =some v->∃t,v= .int ((λi=>ns.getD i 0) i) t:=λi v hv=>
     PyProof.Rows.IntsAre.int_at hi i v (by rw[a3i];exact hv)
    refine L2.CU ((Walks.list hh3 _ l hneI items).toS) s.heap.objs.size
     hSf (λi=>ns.getD i 0) hval hb (items.size-0) 0 _ ∅ (a3c _)
     ⟨⟨_,a1e _ rfl,rfl,rfl⟩,(hl1.push _)⟩ ?hS0 ?hR
    case hS0=>
     have hget:((s.heap.push (L2.bF w)).push {cls:=.type "list_iterator",data:=.fields #[.ref l,.int 0 0]}).get? s.heap.objs.size
       =some (L2.bF w):=a0f _ hS
     exact (L2.JK hget).congr (λ_=>rfl) rfl
    case hR=>
     intro s' hm hS'
     obtain⟨h',g',d',tk',os'⟩:=s'
     have eg:g'=s.gens:=hm.gens
     have ed:d'=s.drawn:=hm.drawn
     have eo:os'=s.os:=hm.os
     subst eg;subst ed;subst eo
     show wpAny _ _ _ _ _ _
     refine a0d ?_
     show wpAny _ _ (ret Value.none) _ _ _
     refine a0d ⟨rfl,h',tk',rfl,hS',λb o hb e=>?_⟩
     have hb1:b≠s.heap.objs.size:=a0x hb
     have hb2:b≠(s.heap.push (L2.bF w)).objs.size:=by
      rw[a2x];exact a0x (Nat.lt_succ_of_lt hb)
     exact hm.heap b o (by simp only[a0l,a5t,a0y,a2i,not_or];exact⟨hb1,hb2⟩) (a0f _ (a0f _ e))
   ·cases r₂ with
    |error e=>exact hr₂
    | ok fl₂=>
     cases fl₂ with
     | ret r=>
      obtain⟨rfl,h',tk,rfl,hS',hk'⟩:=hr₂
      repeat (any_goals (first|assumption|wp_step))
      exact h _ _ hS' hk'
     |_=>exact hr₂.elim
  |_=>exact hr.elim
end
end PySem
namespace L2
open PySem PySem.Spec PyProof.Rows
theorem DZ{α β:Type}{f f':α->Option β}:∀ {l:List α},(∀a∈l,f' a=f a)->l.filterMap f'=l.filterMap f
 |[],_=>rfl
 |a::l,h=>by rw[a1m,a1m,h a a0n,DZ λb hb=>h b (a0j _ hb)]
theorem JH {α β:Type} {a:α} {x:β} {f f':α->Option β} (h1:f a=none) (h2:f' a=some x):∀ {l:List α},l.Nodup->a∈l->(∀b∈l,b≠a->f' b=f b)->(l.filterMap f').Perm (x::l.filterMap f)
 |[],_,h,_=>by cases h
 | b::l,nd,h,h3=>by
  have nd':=a2k.mp nd
  by_cases e:b=a
  ·subst e
   have same:l.filterMap f'=l.filterMap f:=DZ λc hc=>h3 c (a0j _ hc) λz=>nd'.1 (z▸hc)
   rw[a1m,a1m,h1,h2,same]
  ·have hm:a∈l:=(a0l.mp h).resolve_left λz=>e z.symm
   have ih:=JH h1 h2 nd'.2 hm λc hc=>h3 c (a0j _ hc)
   rw[a1m,a1m,h3 b a0n e]
   cases f b with
   |none=>exact ih
   |some y=>exact (ih.cons y).trans (List.Perm.swap x y _)
theorem OU {α β:Type} {f:α->Option β}:∀ {l:List α},(∀a∈l,(f a).isSome=true)->(l.filterMap f).length=l.length
 |[],_=>rfl
 | a::l,h=>by
  have:=h a a0n
  rw[a1m]
  cases e:f a with
  |none=>rw[e] at this;cases this
  |some y=>simp[OU λb hb=>h b (a0j _ hb)]
def lv(M:Nat)(owner:Array (Option Nat)):List (Nat×Nat):=(List.range M).filterMap λj=>(owner.getD j none).map (j,·)
theorem a0I {M j k:Nat} {owner:Array (Option Nat)} (hs:owner.size=M) (hj:j<M) (hn:owner.getD j none=none):((lv M (owner.setIfInBounds j (some k))).map (·.2)).Perm (k::(lv M owner).map (·.2)):=by
 have get:∀b,(owner.setIfInBounds j (some k)).getD b none=if b=j then some k else owner.getD b none:=λb=>by
  rw[a2v,a2v,Array.getElem?_setIfInBounds]
  by_cases e:b=j
  ·subst e;simp[hs,hj]
  ·have e':¬j=b:=λz=>e z.symm
   simp[e,e']
 have:=JH (a:=j) (x:=(j,k)) (f:=λi=>(owner.getD i none).map (i,·)) (f':=λi=>((owner.setIfInBounds j (some k)).getD i none).map (i,·)) (by rw[hn];rfl) (by rw[get,if_pos rfl];rfl) (l:=List.range M) List.nodup_range (a1s.mpr hj) λb _ hb=>by rw[get,if_neg hb]
 exact this.map (·.2)
theorem V5 {M:Nat} {owner:Array (Option Nat)} (h:(lv M owner).length<M):∃j,j<M/\owner.getD j none=none:=by
 refine a6a λhc=>?_
 have:(lv M owner).length=(List.range M).length:=OU λj hj=>by
  cases e:owner.getD j none with
  |none=>exact absurd ⟨j,a1s.mp hj,e⟩ hc
  |some y=>rfl
 rw[a5e] at this
 omega
def lp(mask:Nat):Nat->Nat->Nat->Nat×Nat
 |0,i,p=>(i,p)
 |t+1,i,p=>lp mask t (SetTable.leap mask i p).1 (SetTable.leap mask i p).2
theorem Q1(mask:Nat):∀(a b i p:Nat),lp mask (a+b) i p=lp mask b (lp mask a i p).1 (lp mask a i p).2
 |0,b,i,p=>by rw[a6m];rfl
 |a+1,b,i,p=>by rw[Nat.succ_add];exact Q1 mask a b _ _
theorem a42 (mask:Nat):∀(t i p:Nat),(lp mask t i p).2=p / 32^t
 |0,i,p=>by simp[lp]
 | t+1,i,p=>by
  rw[lp,a42 mask t]
  show (p / 32) / 32^t=_
  rw[Nat.div_div_eq_div_mul,Nat.pow_succ,Nat.mul_comm]
theorem XY(mask:Nat):∀(t i p:Nat),i<mask+1->(lp mask t i p).1<mask+1
 |0,i,p,h=>h
 |t+1,i,p,h=>XY mask t _ _ (Nat.mod_lt _ (Nat.succ_pos _))
def a6T(M:Nat):Nat->Nat->List Nat
 |0,_=>[]
 |n+1,i=>i::a6T M n ((i*5+1) % M)
def full(M:Nat):Bool:=(List.range M).all λi=>(λo:List Nat=>(List.range M).all λj=>o.contains j) (a6T M M i)
theorem QB {mask:Nat}:∀ {n i j:Nat},j∈a6T (mask+1) n i->∃u,u<n/\(lp mask u i 0).1=j
 |0,i,j,h=>by cases h
 | n+1,i,j,h=>by
  rcases a0l.mp h with z|z
  ·exact⟨0,Nat.succ_pos _,z.symm⟩
  ·obtain⟨u,hu,e⟩:=QB z
   exact⟨u+1,Nat.succ_lt_succ hu,e⟩
theorem OY {mask:Nat} (hf:full (mask+1)=true) (h:Int) {j0:Nat} (hj:j0<mask+1):∃t,t<SetTable.turns mask/\(lp mask t (SetTable.bits h % (mask+1)) (SetTable.bits h)).1=j0:=by
 have p0:(lp mask 13 (SetTable.bits h % (mask+1)) (SetTable.bits h)).2=0:=by
  rw[a42]
  refine Nat.div_eq_of_lt ?_
  unfold SetTable.bits
  have:(h % (2^64:Int)).toNat<2^64:=by
   have h1:h % (2^64:Int)<2^64:=a3j _ (by decide)
   have h0:0<=h % (2^64:Int):=a3y _ (by decide)
   omega
  exact a0z this (by decide)
 have i0:=XY mask 13 (SetTable.bits h % (mask+1)) (SetTable.bits h) (Nat.mod_lt _ (Nat.succ_pos _))
 unfold full at hf
 rw[a1a] at hf
 have h1:=hf _ (a1s.mpr i0)
 dsimp only at h1
 rw[a1a] at h1
 have h2:=h1 j0 (a1s.mpr hj)
 rw[List.contains_iff_mem] at h2
 obtain⟨u,hu,e⟩:=QB h2
 refine⟨13+u,by unfold SetTable.turns;omega,?_⟩
 rw[Q1,p0];exact e
theorem E2 {mask:Nat} {owner:Array (Option Nat)} {j0:Nat} (h0:(owner.getD j0 (some 0)).isNone=true):∀(fuel i p:Nat),(∃t,t<fuel/\(lp mask t i p).1=j0)->∃j,SetTable.layClean.free mask owner fuel i p=some j
 |0,i,p,h=>by obtain⟨t,ht,_⟩:=h;omega
 | fuel+1,i,p,h=>by
  rw[SetTable.layClean.free]
  cases e:(List.range (SetTable.runEnd mask i+1-i)).find? λk=>(owner.getD (i+k) (some 0)).isNone with
  |some k=>exact⟨_,rfl⟩
  | none=>
   dsimp only
   obtain⟨t,ht,hl⟩:=h
   cases t with
   | zero=>
    exfalso
    have hi:i=j0:=hl
    subst hi
    have:=List.find?_eq_none.mp e 0 (a1s.mpr (by unfold SetTable.runEnd;split<;>omega))
    rw[Nat.add_zero] at this
    exact this h0
   |succ t=>exact E2 h0 fuel _ _ ⟨t,by omega,hl⟩
theorem JJ {mask:Nat} {owner:Array (Option Nat)} {j:Nat}:∀(fuel i p:Nat),SetTable.layClean.free mask owner fuel i p=some j->(owner.getD j (some 0)).isNone=true
 |0,i,p,h=>by rw[SetTable.layClean.free] at h;cases h
 | fuel+1,i,p,h=>by
  rw[SetTable.layClean.free] at h
  cases e:(List.range (SetTable.runEnd mask i+1-i)).find? λk=>(owner.getD (i+k) (some 0)).isNone with
  | some k=>
   rw[e] at h
   cases h
   have:=List.find?_some e
   exact this
  | none=>
   rw[e] at h
   exact JJ fuel _ _ h
theorem V9 {owner:Array (Option Nat)} {j:Nat} (h:(owner.getD j (some 0)).isNone=true):j<owner.size/\owner.getD j none=none:=by
 rw[a2v] at h
 by_cases hj:j<owner.size
 ·rw[a0v hj] at h
  refine⟨hj,?_⟩
  rw[a2v,a0v hj]
  simpa using h
 ·rw[a3a (a4b hj)] at h
  cases h
theorem E9 {mask:Nat} (hf:full (mask+1)=true):∀(hs:List Int) (owner:Array (Option Nat)) (k:Nat),owner.size=mask+1->((lv (mask+1) owner).map (·.2)).Perm (List.range k)->k+hs.length<=mask+1->
  ∃ owner',(hs.foldl (λ(acc:Option (Array (Option Nat)×Nat)) h=>do
   let (owner,k) <- acc
   let j <- SetTable.layClean.free mask owner (SetTable.turns mask) (SetTable.bits h % (mask+1)) (SetTable.bits h)
   pure (owner.setIfInBounds j (some k),k+1)) (some (owner,k)))=some (owner',k+hs.length)/\owner'.size=mask+1/\((lv (mask+1) owner').map (·.2)).Perm (List.range (k+hs.length))
 |[],owner,k,h1,h2,_=>⟨owner,rfl,h1,h2⟩
 | h::hs,owner,k,h1,h2,h3=>by
  rw[a1n] at h3
  have hl:(lv (mask+1) owner).length=k:=by have:=h2.length_eq;simpa using this
  obtain⟨j0,hj0,hn0⟩:=V5 (M:=mask+1) (owner:=owner) ∅
  have h0:(owner.getD j0 (some 0)).isNone=true:=by
   rw[a2v,a0v ∅] at hn0 ⊢
   simpa using hn0
  obtain⟨j,hj⟩:=E2 h0 _ _ _ (OY hf h hj0)
  obtain⟨jlt,jn⟩:=V9 (JJ _ _ _ hj)
  have perm:((lv (mask+1) (owner.setIfInBounds j (some k))).map (·.2)).Perm (List.range (k+1)):=by
   refine (a0I h1 ∅ jn).trans ((h2.cons k).trans ?_)
   rw[a4i]
   exact (List.perm_append_singleton k (List.range k)).symm
  obtain⟨o',e1,e2,e3⟩:=E9 hf hs (owner.setIfInBounds j (some k)) (k+1) (by simp[h1]) perm ∅
  refine⟨o',?_,e2,?_⟩
  ·rw [List.foldl_cons]
   have e4:(do
    let (owner,k) <- (some (owner,k):Option (Array (Option Nat)×Nat))
    let j <- SetTable.layClean.free mask owner (SetTable.turns mask) (SetTable.bits h % (mask+1)) (SetTable.bits h)
    pure (owner.setIfInBounds j (some k),k+1))=some (owner.setIfInBounds j (some k),k+1):=by
    show (SetTable.layClean.free mask owner (SetTable.turns mask) (SetTable.bits h % (mask+1)) (SetTable.bits h)).bind (λj=>some (owner.setIfInBounds j (some k),k+1))=_
    rw[hj];rfl
   refine Eq.trans (congrArg (λz=>List.foldl _ z hs) e4) ?_
   rw[e1,a1n];congr 2;omega
  ·rw[a1n,show k+(hs.length+1)=k+1+hs.length by omega];exact e3
theorem JX{M m:Nat}:lv M (Array.replicate m none)=[]:=by
 unfold lv
 rw[List.filterMap_eq_nil_iff]
 intro j _
 rw[a2v,Array.getElem?_replicate]
 split<;>rfl
theorem UX {mask finger moves:Nat} {led plain:Bool} {hs:Array Int} (hf:full (mask+1)=true) (hl:hs.size<=mask+1) :
  ∃t order,SetTable.laid mask finger moves led plain hs=some (t,order)/\order.toList.Perm (List.range hs.size)/\t.mask=mask/\t.place.size=hs.size/\t.dummies= #[]:=by
 obtain⟨o,e1,e2,e3⟩:=E9 hf hs.toList (Array.replicate (mask+1) none) 0 (by simp) (by rw[JX];exact .refl _) (by simpa using hl)
 have e4:SetTable.layClean mask hs=some o:=by
  unfold SetTable.layClean
  rw[<- Array.foldl_toList]
  refine Eq.trans (congrArg (Option.map (·.1)) e1) rfl
 rw[a6m,a0w] at e3
 have len:(lv (mask+1) o).length=hs.size:=by have:=e3.length_eq;simpa using this
 refine⟨_,_,by unfold SetTable.laid;rw[e4];rfl,?_,rfl,?_,rfl⟩
 ·show (((lv (mask+1) o).map (·.2)).toArray).toList.Perm _
  simpa using e3
 ·show (((lv (mask+1) o).map (·.1)).toArray).size=_
  simpa using len
theorem a3R:full 8=true:=⋯
theorem ZR:full 16=true:=⋯
theorem ZS:full 32=true:=⋯
theorem ZT:full 64=true:=⋯
section
variable{prog:Program}{w:World}{A:Around}{E:Value->Ab->Prop}{s:Ab}
theorem Q4{Q:Value->Shared->Prop}(h:Q (.ref s.heap.objs.size) {s with heap:=s.heap.push (bF w)}):wpAny (model prog w) A (newSet (.type "set")) Q E s:=by
 unfold newSet setsByText
 refine a0b (a0b (a3t (a0d ?_)))
 dsimp only
 simp only[newObj]
 exact a0b (wpAny_alloc (a0d h))
def SZ(w:World)(h:Heap)(a:Ac)(mask:Nat):Prop:=∃o ep mv,h.get? a=some o/\o.ExactSet/\o.data= .set #[] ep ⟨mask,#[],#[],0,!w.params.followText "set-order",mv,true⟩
theorem PL {mask finger moves:Nat} {led plain:Bool}:SetTable.laid mask finger moves led plain #[]=some (⟨mask,#[],#[],finger,led,moves,plain⟩,#[]):=by
 unfold SetTable.laid
 have e:SetTable.layClean mask #[]=some (Array.replicate (mask+1) none):=by
  unfold SetTable.layClean
  rw[<- Array.foldl_toList];rfl
 rw[e]
 show some (_,_)=_
 have e2:(List.range (mask+1)).filterMap (λj=>((Array.replicate (mask+1) (none:Option Nat)).getD j none).map (j,·))=[]:=JX
 rw[e2];rfl
theorem FG {a:Addr} {m0 wanted:Nat} {Q:Unit->Shared->Prop} (hE:SZ w s.heap a m0) (hw:SetTable.sizeAbove wanted<=64) (k:∀h',Heap.SameBut a s.heap h'->SZ w h' a (SetTable.sizeAbove wanted-1)->Q () {s with heap:=h'}) :
  wpAny (model prog w) A (setRelay a wanted) Q E s:=by
 obtain⟨o,ep,mv,ho,hex,hd⟩:=hE
 unfold setRelay
 refine a0b (a3p ho hd (by simp[SetTable.fits,SetTable.fill]) ?_)
 dsimp only
 rw[if_neg (by rw[sizeLine_eq];omega)]
 have e:SetTable.relaid ⟨m0,#[],#[],0,!w.params.followText "set-order",mv,true⟩ (Array.map (·.1) (#[]:Array (Int×Value))) wanted=some (⟨SetTable.sizeAbove wanted-1,#[],#[],0,!w.params.followText "set-order",SetTable.movedTo ⟨m0,#[],#[],0,!w.params.followText "set-order",mv,true⟩ (SetTable.sizeAbove wanted-1),true⟩,#[]):=by
  unfold SetTable.relaid
  rw[show Array.map (·.1) (#[]:Array (Int×Value))= #[] by simp]
  exact PL
 rw[e]
 show wpAny _ _ (pure (#[],_) >>=_) _ _ _
 refine a0b (a0d ?_)
 refine a4o ho hd (k _ (a2s _ a _) ?_) (by simp)
 obtain⟨h1,_⟩:=a6r (knd:=intKind prog w) (S':=λ_=>false) (es':=#[]) (t':=⟨SetTable.sizeAbove wanted-1,#[],#[],0,!w.params.followText "set-order",SetTable.movedTo ⟨m0,#[],#[],0,!w.params.followText "set-order",mv,true⟩ (SetTable.sizeAbove wanted-1),true⟩) ho hex hd (λe he=>by simp at he) (λk=>by simp) (by decide) (by simp[SetTable.fits,SetTable.fill])
 exact⟨_,_,_,h1,hex,rfl⟩
def c6(m:Nat):Nat:=if m*5≥21 then SetTable.sizeAbove (m*2)-1 else 7
def JY(m:Nat):Bool:=[7,15,31,63].contains (c6 m)&&decide (m<=c6 m)&&decide (SetTable.sizeAbove (m*2)<=64)
theorem V6:(List.range 32).all JY=true:=⋯
theorem pB(m:Fin 32):(c6 m=7\/c6 m=15\/c6 m=31\/c6 m=63)/\(m:Nat)<=c6 m/\SetTable.sizeAbove (m*2)<=64:=by
 have h:=a1a.mp V6 m.1 (a1s.mpr m.2)
 unfold JY at h
 rw[a1d,a1d,a4d,a4d,List.contains_iff_mem] at h
 refine⟨?_,h.1.2,h.2⟩
 simpa using h.1.1
theorem Q2{m:Nat}(h:m<32):full (c6 m+1)=true:=by
 have h1:c6 m=7\/c6 m=15\/c6 m=31\/c6 m=63:=(pB ⟨m,h⟩).1
 generalize c6 m=M at h1
 rcases h1 with e|e|e|e
 ·subst e;exact a3R
 ·subst e;exact ZR
 ·subst e;exact ZS
 ·subst e;exact ZT
theorem yZ {a:Addr} {m:Nat} {Q:Unit->Shared->Prop} (hE:s.heap.get? a=some (bF w)) (hm:m<32) (k:∀h',Heap.SameBut a s.heap h'->SZ w h' a (c6 m)->Q () {s with heap:=h'}) :
  wpAny (model prog w) A (setRoomFor a m) Q E s:=by
 have hE0:SZ w s.heap a 7:=⟨_,0,0,hE,⟨rfl,rfl,rfl⟩,rfl⟩
 unfold setRoomFor
 refine a0b (a3p (es:=#[]) (ep:=0) (t:=.fresh 0 0 (!w.params.followText "set-order")) hE rfl (by rfl) ?_)
 dsimp only
 have e:(SetTable.fresh 0 0 (!w.params.followText "set-order")).roomFor m=if m*5≥21 then some (m*2) else none:=by
  unfold SetTable.roomFor
  show (if (0+m)*5≥7*3 then some ((0+m)*2) else none)=_
  rw[a6m]
 rw[e]
 by_cases h:m*5≥21
 ·rw[if_pos h]
  have em:c6 m=SetTable.sizeAbove (m*2)-1:=if_pos h
  refine FG hE0 (pB ⟨m,hm⟩).2.2 λh' sb hE'=>k h' sb ?_
  rw[em];exact hE'
 ·rw[if_neg h]
  have em:c6 m=7:=if_neg h
  have:=k s.heap (a4r a s.heap) (by rw[em];exact hE0)
  exact a0d this
theorem OV {α:Type} (xs:Array α):(List.range xs.size).filterMap (λi=>xs[i]?)=xs.toList:=by
 have:(List.range xs.size).filterMap (λi=>xs[i]?)=(List.range xs.toList.length).filterMap (λi=>xs.toList[i]?):=by simp
 rw[this]
 induction xs.toList with
 |nil=>rfl
 | cons a l ih=>
  rw[a1n,List.range_succ_eq_map,a1m]
  simp only[List.getElem?_cons_zero,a4f]
  congr 1
theorem V8 {a b:Addr} {S:Int->Bool} {n:Nat} {each:Sem Unit} {Q:Unit->Shared->Prop} (hE:s.heap.get? a=some (bF w)) (hne:a≠b) (hX:bW prog w b S n s.heap) (hn:n<32)
  (k:∀h',Heap.SameBut a s.heap h'->bW prog w a S n h'->Q () {s with heap:=h'}):wpAny (model prog w) A (setMerge a b each) Q E s:=by
 obtain⟨o,es,ep,t,ho,hex,hd,hel,hmem,hb,hf,hsz,hwk,hnd⟩:=hX
 unfold setMerge
 rw[if_neg (by simpa using hne)]
 refine a0b (a3p ho hd hf ?_)
 dsimp only
 by_cases he:es.isEmpty=true
 ·rw [if_pos he]
  have e0:es= #[]:=by simpa using he
  subst e0
  have:=k s.heap (a4r a s.heap) ((JK hE).congr (λj=>by
   cases hj:S j with
   |false=>rfl
   |true=>obtain⟨e,h,_⟩:=(hmem j).mp hj;simp at h) (by simpa using hsz))
  exact a0d this
 ·rw [if_neg he]
  refine a0b (yZ hE ∅ λh1 sb1 hE1=>?_)
  obtain⟨o1,ep1,mv1,ho1,hex1,hd1⟩:=hE1
  refine a0b (a3p (s:={s with heap:=h1}) ho1 hd1 (by simp[SetTable.fits,SetTable.fill]) ?_)
  dsimp only
  have ok:=pB ⟨es.size,by omega⟩
  have hle:es.size<=c6 es.size:=ok.2.1
  have wkled:w.params.followText "set-order"=true\/t.led=true:=hwk.imp id λz=>z.1
  have fin:∀(es':Array (Int×Value)) (t':SetTable),es'.toList.Perm es.toList->t'.fits es'.size=true->N7 (w.params.followText "set-order") t'->wpAny (model prog w) A (storeSet a es' t') Q E {s with heap:=h1}:=by
   intro es' t' hp hf' hw'
   have hel':ElemsOf (intKind prog w) es'.toList:=hel.perm hp
   have hmem':∀k,S k=true↔∃e∈es'.toList,(intKind prog w).is k e.2=true:=λk=>by
    rw[hmem k]
    constructor
    ·rintro⟨e,h,z⟩;exact⟨e,hp.mem_iff.mpr h,z⟩
    ·rintro⟨e,h,z⟩;exact⟨e,hp.mem_iff.mp h,z⟩
   have hz:es'.size=es.size:=by rw[<- a0w,hp.length_eq,a0w]
   have hb':es'.size<scanBound:=by rw[hz];exact hb
   refine a4o (s:={s with heap:=h1}) ho1 hd1 (k _ (sb1.trans (a2s _ a _)) ?_) (a5m hb')
   obtain⟨h2,_⟩:=a6r (knd:=intKind prog w) (S':=S) ho1 hex1 hd1 hel' hmem' hb' hf'
   exact⟨_,es',_,t',h2,hex1,rfl,hel',hmem',hb',hf',by rw[hz];exact hsz,hw',(hp.map _).nodup_iff.mpr hnd⟩
  have hfits:=hf
  simp only[SetTable.fits,a1d,a3v,a5c] at hfits
  unfold SetTable.road
  rw[if_neg (by simp[SetTable.fill])]
  by_cases hr:((c6 es.size==t.mask)&&t.dummies.isEmpty)=true
  ·rw [if_pos hr]
   refine fin es _ (.refl _) ?_ ?_
   ·have:SetTable.fits {t with finger:=0,led:=(!w.params.followText "set-order")&&t.led,moves:=mv1,plain:=true&&t.plain} es.size=t.fits es.size:=rfl
    exact this.trans hf
   ·rcases hwk with z|z
    ·exact .inl z
    ·cases hbt:w.params.followText "set-order" with
     |true=>exact .inl rfl
     |false=>exact .inr ⟨by simp[z.1],λq=>z.2 (by simpa using q)⟩
  ·rw [if_neg hr]
   obtain⟨t',order,e1,e2,e3,e4,e5⟩:=UX (mask:=c6 es.size) (finger:=0) (moves:=mv1) (led:=(!w.params.followText "set-order")&&t.led) (plain:=true&&t.plain) (hs:=es.map (·.1)) (Q2 ∅) (by simp;omega)
   obtain⟨r1,r2,r3⟩:=E8 e1
   rw[Array.size_map] at e2 e4
   have hperm:(order.filterMap (es[·]?)).toList.Perm es.toList:=by
    rw[Array.toList_filterMap]
    have:=e2.filterMap (λi=>es[i]?)
    rw[OV] at this
    exact this
   have hsz':(order.filterMap (es[·]?)).size=es.size:=by rw[<- a0w,hperm.length_eq,a0w]
   have e1':SetTable.laid (SetTable.mask ⟨c6 es.size,#[],#[],0,!w.params.followText "set-order",mv1,true⟩) 0 mv1 ((!w.params.followText "set-order")&&t.led) (true&&t.plain) (es.map (·.1))=some (t',order):=e1
   dsimp only
   rw[e1']
   show wpAny _ _ ((if ((order.filterMap (es[·]?)).size !=es.size)=true then (unsupported "internal:set-table-lost-an-element" >>=λ_=>pure (order.filterMap (es[·]?),t')) else pure (order.filterMap (es[·]?),t')) >>=_) _ _ _
   rw[hsz',if_neg (by simp)]
   refine a0b (a0d ?_)
   refine fin _ t' hperm ?_ ?_
   ·rw[hsz']
    simp only[SetTable.fits,a1d,a3v,a5c]
    refine⟨e4,?_⟩
    unfold SetTable.fill
    rw[e4,e5,e3]
    simpa using hle
   ·rcases hwk with z|z
    ·exact .inl z
    ·cases hbt:w.params.followText "set-order" with
     |true=>exact .inl rfl
     |false=>exact .inr ⟨by rw[r1,hbt];simp[z.1],λ_=>r3⟩
end
theorem gB{α:Type}(xs:Array α)(p:Nat):(SetTable.eraseAt xs p).toList=xs.toList.eraseIdx p:=by
 unfold SetTable.eraseAt
 rw[a7k,a4s]
 congr 1
 ·simp
 ·simp[a6k]
theorem lQ{α:Type}{xs:Array α}{p:Nat}(h:p<xs.size):(SetTable.eraseAt xs p).size=xs.size-1:=by
 rw[<- a0w,gB,List.length_eraseIdx,a0w,if_pos h]
theorem yN{α:Type}(xs:Array α)(p:Nat)(x:α):(SetTable.insertAt xs p x).size=xs.size+1:=by
 unfold SetTable.insertAt
 simp
 omega
theorem LN {t:SetTable} {i n:Nat} (hf:t.fits n=true) (hi:i<n):(t.drop i).fits (n-1)=true/\(t.drop i).led=t.led/\(t.drop i).plain=t.plain/\(B2 t.place->B2 (t.drop i).place):=by
 simp only[SetTable.fits,a1d,a3v,a5c] at hf ⊢
 have hp:i<t.place.size:=by omega
 unfold SetTable.drop
 rw[a0v hp]
 dsimp only
 refine⟨⟨by rw[lQ hp];omega,?_⟩,rfl,rfl,λhr=>?_⟩
 ·have h2:=hf.2
  unfold SetTable.fill at h2 ⊢
  dsimp only
  rw[lQ hp,yN]
  omega
 ·unfold B2 at hr ⊢
  rw[gB]
  exact hr.sublist (List.eraseIdx_sublist ..)
theorem NN{α:Type}{l:List α}{i:Nat}{e:α}(h:l[i]? =some e):l=l.take i++e::l.drop (i+1)/\l.eraseIdx i=l.take i++l.drop (i+1):=by
 obtain⟨hi,rfl⟩:=a0e.mp h
 refine⟨?_,a7k ..⟩
 rw[<- a3g hi,List.take_append_drop]
section
variable{prog:Program}{w:World}{A:Around}{E:Value->Ab->Prop}{s:Ab}
theorem ZX{k k':Int}{v:Value}(h:(intKind prog w).is k v=true)(h':(intKind prog w).is k' v=true):k=k':=by
 obtain⟨t,rfl⟩:=d5 h
 obtain⟨t',e⟩:=d5 h'
 cases e;rfl
theorem LM {a:Addr} {S:Int->Bool} {n:Nat} {k:Int} {x:Value} {Q:Bool->Shared->Prop} (hkey:(intKind prog w).is k x=true) (hsc:x.scannable=true) (hS:bW prog w a S n s.heap)
  (h:∀h',Heap.SameBut a s.heap h'->bW prog w a (λk'=>S k'&& !decide (k'=k)) (if S k then n-1 else n) h'->Q (S k) {s with heap:=h'}) :
  wpAny (model prog w) A (setDiscardHashed a x ((intKind prog w).hash k)) Q E s:=by
 obtain⟨o,es,ep,t,ho,hex,hd,hel,hmem,hb,hf,hn,hwk,hnd⟩:=hS
 unfold setDiscardHashed setFind setFindIn
 refine a0b (a0b (a3p ho hd hf ?_))
 dsimp only
 rw[byScan_of hsc hb hel]
 simp only[↓reduceIte]
 refine a0b (a3q ?_)
 refine a0b (wpAny_setScan_of hkey ho hd hf hel ?_)
 cases hr:List.findIdx? (λe=>(intKind prog w).is k e.2) es.toList with
 | none=>
  dsimp only
  have hSk:S k=false:=by
   cases hk:S k with
   |false=>rfl
   |true=>obtain⟨e,he,hp⟩:=(hmem k).mp hk;have:=List.findIdx?_eq_none_iff.mp hr e he;rw[hp] at this;exact Bool.noConfusion this
  have:=h s.heap (a4r a s.heap) ⟨o,es,ep,t,ho,hex,hd,hel,λk'=>by
   rw[<- hmem k',a1d]
   refine⟨λz=>z.1,λz=>⟨z,?_⟩⟩
   by_cases e:k'=k
   ·rw[e,hSk] at z;cases z
   ·simp[e],hb,hf,by rw[hSk];exact hn,hwk,hnd⟩
  rw[hSk] at this
  exact a0d (a0d this)
 | some j=>
  dsimp only
  obtain⟨hj,hpj,_⟩:=a7g.mp hr
  have hSk:S k=true:=(hmem k).mpr ⟨es.toList[j],a1h hj,hpj⟩
  have hj':j<es.size:=by simpa using hj
  obtain⟨sp,er⟩:=NN (a0a hj)
  rw[a6m]
  refine a0d ?_
  refine a0b (a3p ho hd hf ?_)
  dsimp only
  obtain⟨f1,f2,f3,f4⟩:=LN hf hj'
  have hel':ElemsOf (intKind prog w) (SetTable.eraseAt es j).toList:=by
   rw[gB,er]
   intro e he
   refine hel e ?_
   rw[sp]
   rcases a1c.mp he with z|z
   ·exact a1z _ z
   ·exact a0t _ (a0j _ z)
  have hmem':∀k',(S k'&& !decide (k'=k))=true↔∃e∈(SetTable.eraseAt es j).toList,(intKind prog w).is k' e.2=true:=by
   intro k'
   rw[a1d,hmem k',gB,er]
   constructor
   ·rintro ⟨⟨e,he,z⟩,hne⟩
    have hne:k'≠k:=by simpa using hne
    refine⟨e,?_,z⟩
    rw[sp] at he
    rcases a1c.mp he with y|y
    ·exact a1z _ y
    ·rcases a0l.mp y with y|y
     ·subst y;exact absurd (ZX z hpj) hne
     ·exact a0t _ y
   ·rintro ⟨e,he,z⟩
    have hin:e∈es.toList:=by
     rw[sp]
     rcases a1c.mp he with y|y
     ·exact a1z _ y
     ·exact a0t _ (a0j _ y)
    refine⟨⟨e,hin,z⟩,?_⟩
    have:k'≠k:=by
     rintro rfl
     obtain⟨t1,e1⟩:=d5 z
     obtain⟨t2,e2⟩:=d5 hpj
     rw[sp,a1k,a0i] at hnd
     have nd:=List.nodup_append.mp hnd
     have i1:d3 e.2=k':=by rw[e1];rfl
     have i2:d3 (es.toList[j]).2=k':=by rw[e2];rfl
     rcases a1c.mp he with y|y
     ·exact nd.2.2 _ (a0s.mpr ⟨e,y,i1⟩) _ a0n i2.symm
     ·exact (a2k.mp nd.2.1).1 (by rw[i2];exact a0s.mpr ⟨e,y,i1⟩)
    simp[this]
  have hz:(SetTable.eraseAt es j).size=es.size-1:=lQ hj'
  have hb':(SetTable.eraseAt es j).size<scanBound:=by rw[hz];omega
  have hff:(t.drop j).fits (SetTable.eraseAt es j).size=true:=by rw[hz];exact f1
  refine a0b (a4o ho hd ?_ (a5m hb'))
  obtain⟨h2,_⟩:=a6r (knd:=intKind prog w) (S':=λk'=>S k'&& !decide (k'=k)) ho hex hd hel' hmem' hb' hff
  have:=h _ (a2s _ a _) ⟨_,_,_,_,h2,hex,rfl,hel',hmem',hb',hff,by rw[hSk,hz,hn];rfl,hwk.imp id λz=>⟨f2.trans z.1,λq=>f4 (z.2 (f3▸q))⟩,by
   rw[gB,er]
   refine hnd.sublist ?_
   conv=>rhs;rw[sp]
   exact (List.Sublist.append (List.Sublist.refl _) (List.sublist_cons_self _ _)).map _⟩
  rw[hSk] at this
  exact a0b (wpAny_point (a0d this))
theorem ZP {a:Addr} {S:Int->Bool} {n m:Nat} {k:Int} {x:Value} {Q:Unit->Shared->Prop} (hkey:(intKind prog w).is k x=true) (hsc:x.scannable=true) (hS:bW prog w a S n s.heap) (hn:n<=m) (hm:m+1<scanBound)
  (h:∀h' n',Heap.SameBut a s.heap h'->bW prog w a (λk'=>if k'=k then !S k else S k') n' h'->n'<=m+1->Q () {s with heap:=h'}) :
  wpAny (model prog w) A (holding [x] (do if !(<- setDiscardHashed a x ((intKind prog w).hash k)) then let _ <- setAddHashed a x ((intKind prog w).hash k))) Q E s:=by
 refine a2e (a0b (LM hkey hsc hS λh1 sb1 hS1=>?_))
 cases hSk:S k with
 | true=>
  rw[hSk] at hS1
  refine a0d (h h1 _ sb1 (hS1.congr (λk'=>?_) rfl) (by show n-1<=m+1;omega))
  by_cases e:k'=k
  ·subst e;simp[hSk]
  ·simp[e]
 | false=>
  rw[hSk] at hS1
  refine a0b (n0 (s:={s with heap:=h1}) hkey hsc hS1 (by show n+1<scanBound;omega) λh2 sb2 hS2=>a0d (h h2 _ (sb1.trans sb2) (hS2.congr (λk'=>?_) rfl) ?_))
  ·by_cases e:k'=k
   ·subst e;simp[hSk]
   ·simp[e]
  ·rw[if_neg a0m]
   split<;>omega
end
section
variable{prog:Program}{w:World}{A:Around}{E:Value->Ab->Prop}{s:Ab}
theorem a2W {b:Addr} {es:Array (Int×Value)} {ep:Nat} {t:SetTable} {Q:Array (Int×Value)->Shared->Prop} (hS:SetAt s.heap b es ep t) (hd:w.params.followText "set-order"=true\/((!t.plain&&decide (es.size>1))=false/\(!t.led&&decide (es.size>1))=false))
  (h:∀ys:Array (Int×Value),ys.toList.Perm es.toList->Q ys s):wpAny (model prog w) A (setWalk b) Q E s:=by
 unfold setWalk
 refine a0b (hS.state ?_)
 dsimp only
 refine a0b (j6 ?_)
 cases hbt:w.params.followText "set-order" with
 | true=>
  rw[if_pos rfl]
  exact a0b (a3t (a0d (h _ (gC _ _))))
 | false=>
  obtain⟨h1,h2⟩:=hd.resolve_left (by rw[hbt];exact a0m)
  rw[if_neg a0m]
  rw[if_neg (by show ¬((!t.plain&&decide (es.size>1))=true);rw[h1];exact a0m)]
  refine a0b ?_
  show wpAny _ _ (if (!t.led&&decide (es.size>1))=true then unsupported "set:maker-not-led" else pure ()) _ _ _
  rw[h2,if_neg a0m]
  exact a0d (a0d (h es (.refl _)))
theorem vZ {β:Type} (b:β) (g:(Int×Value)->β->Sem (ForInStep β)):∀(l:List (Int×Value)),(∀e∈l,g e b=pure (.yield b))->(forIn l b g:Sem β)=pure b
 |[],_=>by simp
 | e::l,h=>by
  rw[a5q,h e a0n]
  simp only[pure_bind]
  exact vZ b g l λx hx=>h x (a0j _ hx)
theorem WJ {a b:Addr} {es es':Array (Int×Value)} {ep ep':Nat} {t t':SetTable} {Q:Bool->Shared->Prop} (hS:SetAt s.heap b es ep t) (hS':SetAt s.heap a es' ep' t') (h1:ElemsOf (intKind prog w) es.toList) (h2:ElemsOf (intKind prog w) es'.toList)
  (h:Q true s):wpAny (model prog w) A (setsQuiet [b,a]) Q E s:=by
 have isInt:∀ {l:List (Int×Value)},ElemsOf (intKind prog w) l->∀e∈l,∃k t,e.2=Value.int k t:=λhl e he=>by
  obtain⟨⟨k,hk,_⟩,_⟩:=hl e he
  obtain⟨t,e2⟩:=d5 hk
  exact⟨k,t,e2⟩
 unfold setsQuiet setEntries
 have inner:∀ {l:Array (Int×Value)},ElemsOf (intKind prog w) l.toList->(forIn l ((none:Option Bool),()) (λx __s=>match x with
   | (fst,x)=>match x with
    | Value.ref a=>do
     let __do_lift <- specialOf x (Str.ofString "__eq__")
     if (__do_lift !=some (Value.builtin "object.__eq__"))=true then pure (ForInStep.done (some false,())) else pure (ForInStep.yield (none,()))
    |x=>pure (ForInStep.yield (none,()))):Sem (Option Bool×Unit))=pure (none,()):=by
  intro l hl
  rw[<- Array.forIn_toList]
  refine vZ _ _ _ λe he=>?_
  obtain⟨k,t,ev⟩:=isInt hl e he
  obtain⟨e1,e2⟩:=e
  dsimp only at ev
  subst ev
  rfl
 refine a0b ?_
 rw[a5q]
 refine a0b (a0b (a0b (hS.state (a0d ?_))))
 refine a0b (a6b (inner h1) (a0d ?_))
 dsimp only
 rw[a5q]
 refine a0b (a0b (a0b (hS'.state (a0d ?_))))
 refine a0b (a6b (inner h2) (a0d ?_))
 dsimp only
 rw[List.forIn_nil]
 exact a0d (a0d h)
theorem bW.at_{a:Addr}{S:Int->Bool}{n:Nat}{h:Heap}(x:bW prog w a S n h):∃es ep t,SetAt h a es ep t/\ElemsOf (intKind prog w) es.toList/\(∀k,S k=true↔∃e∈es.toList,(intKind prog w).is k e.2=true)/\es.size<scanBound/\es.size=n/\N7 (w.params.followText "set-order") t/\(es.toList.map λe=>d3 e.2).Nodup:=by
 obtain⟨o,es,ep,t,ho,hex,hd,hel,hmem,hb,hf,hn,hwk,hnd⟩:=x
 exact⟨es,ep,t,⟨⟨o,ho,hex,hd⟩,hf⟩,hel,hmem,hb,hn,hwk,hnd⟩
theorem SD {a b:Addr} {S S':Int->Bool} {n n':Nat} {es:Array (Int×Value)} {ep:Nat} {t:SetTable} {Q:Array (Int×Value)->Shared->Prop} (hab:a≠b) (hS:SetAt s.heap b es ep t) (hel:ElemsOf (intKind prog w) es.toList) (hwk:N7 (w.params.followText "set-order") t) (hX:bW prog w a S' n' s.heap)
  (h:∀(ys:Array (Int×Value)) h',ys.toList.Perm es.toList->Heap.SameBut a s.heap h'->bW prog w a S' n' h'->Q ys {s with heap:=h'}):wpAny (model prog w) A (setWalkUnseen b [a] (some a)) Q E s:=by
 unfold setWalkUnseen
 refine a0b (hS.state ?_)
 dsimp only
 refine a0b (j6 ?_)
 have stay:∀ys:Array (Int×Value),ys.toList.Perm es.toList->Q ys s:=λys hp=>h ys s.heap hp (a4r a s.heap) hX
 by_cases hc:(w.params.followText "set-order"||t.led&&t.plain||decide (es.size<=1))=true
 ·rw [if_pos hc]
  refine a2W hS ?_ stay
  cases hbt:w.params.followText "set-order" with
  |true=>exact .inl rfl
  | false=>
   right
   rw[hbt,Bool.false_or,a2o] at hc
   have hl:=(hwk.resolve_left (by rw[hbt];exact a0m)).1
   rw[hl]
   refine⟨?_,by simp⟩
   rcases hc with z|z
   ·rw[a1d] at z;rw[z.2];rfl
   ·have:¬es.size>1:=by have:=a3u z;omega
    simp[this]
 ·rw [if_neg hc]
  obtain⟨es',ep',t',hS',hel',hmem',hb',hn',hwk',hnd'⟩:=hX.at_
  refine a0b (WJ hS hS' hel hel' ?_)
  rw[if_neg (by simp)]
  refine a0b (a3q ?_)
  refine a0b (hS'.state ?_)
  dsimp only
  have hbt:w.params.followText "set-order"=false:=by
   cases hq:w.params.followText "set-order" with
   |false=>rfl
   |true=>rw[hq] at hc;exact absurd rfl hc
  have hl:=(hwk.resolve_left (by rw[hbt];exact a0m)).1
  split
  ·obtain⟨⟨o,ho,hex,hd⟩,hf⟩:=hS'
   refine a0b (a4o ho hd ?_ (a5m hb'))
   have hf2:SetTable.fits {t' with led:=t'.led&&t.led,plain:=t'.plain&&t.plain} es'.size=true:=hf
   obtain⟨h2,_⟩:=a6r (knd:=intKind prog w) (S':=S') ho hex hd hel' hmem' hb' hf2
   refine a0d (h es _ (.refl _) (a2s _ a _) ⟨_,_,_,_,h2,hex,rfl,hel',hmem',hb',hf2,hn',?_,hnd'⟩)
   exact hwk'.imp id λz=>⟨by show (t'.led&&t.led)=true;rw[z.1,hl];rfl,λq=>z.2 (by have:(t'.plain&&t.plain)=true:=q;rw[a1d] at this;exact this.1)⟩
  ·exact a0d (stay es (.refl _))
theorem JG {a b:Addr} {es0:Array (Int×Value)} {ep:Nat} {t:SetTable} {Q:Unit->Shared->Prop} (id:String) (hab:a≠b):∀(ys:List (Int×Value)) (s:Shared) (S:Int->Bool) (n m:Nat),SetAt s.heap b es0 ep t->ElemsOf (intKind prog w) ys->bW prog w a S n s.heap->n<=m->m+ys.length+1<scanBound->
  (∀h' n' S',Heap.SameBut a s.heap h'->bW prog w a S' n' h'->n'<=m+ys.length->(∀k,S' k=((ys.filter λe=>decide (d3 e.2=k)).foldl (λq _=>!q) (S k)))->Q () {s with heap:=h'})->
  wpAny (model prog w) A (forIn ys PUnit.unit (λ(x:Int×Value) (__s:PUnit)=>match x with
   | (h,x)=>do
    (holding [x] (do
     let __do_lift <- setDiscardHashed a x h
     if (!__do_lift)=true then do
      let _ <- setAddHashed a x h
      pure ()
     else pure ()):Sem Unit)
    Builtin.Frozenset.unchanged id b ep
    pure (ForInStep.yield PUnit.unit))) (λ_ s'=>Q () s') E s
 | [],s,S,n,m,hb,hel,hX,hn,hm,k=>by
  rw[List.forIn_nil]
  exact a0d (k s.heap n S (a4r a s.heap) hX hn λj=>rfl)
 | e::ys,s,S,n,m,hb,hel,hX,hn,hm,k=>by
  obtain⟨⟨k0,hk0,hh0⟩,hsc⟩:=hel e a0n
  obtain⟨e1,e2⟩:=e
  dsimp only at hk0 hh0 hsc
  rw[a1n] at hm
  rw[a5q]
  dsimp only
  subst hh0
  refine a0b (a0b (ZP hk0 hsc hX hn ∅ λh1 n1 sb1 hX1 hn1=>?_))
  have hb1:SetAt h1 b es0 ep t:=hb.keeps λo e=>(sb1.2 b (a3b hab)).trans e
  unfold Builtin.Frozenset.unchanged setEpoch
  refine a0b (a0b (a0b (hb1.state (s:={s with heap:=h1}) (a0d ?_))))
  rw[if_neg (by simp)]
  refine a0d (a0d ?_)
  dsimp only
  refine JG id hab ys {s with heap:=h1} _ n1 (m+1) hb1 (λx hx=>hel x (a0j _ hx)) hX1 hn1 ∅ λh2 n2 S2 sb2 hX2 hn2 hS2=>?_
  refine k h2 n2 S2 (sb1.trans sb2) hX2 (by rw[a1n];omega) λj=>?_
  rw[hS2 j,a2q]
  obtain⟨tk,rfl⟩:=d5 hk0
  show List.foldl _ (if j=k0 then !S k0 else S j) _=List.foldl _ (S j) (if decide (k0=j)=true then _ else _)
  by_cases z:k0=j
  ·subst z;simp
  ·have z':¬j=k0:=λq=>z q.symm
   simp[z,z']
end
theorem yL:entryFor table "set.__xor__"=some Builtin.«frozenset.__xor__»:=entryFor_alias (id':="frozenset.__xor__") (by kernel_rfl) rfl ⋯ (by kernel_rfl)
section
variable{prog:Program}{w:World}{A:Around}{E:Value->Ab->Prop}{s:Ab}
theorem bW.typeIs{a:Addr}{S:Int->Bool}{n:Nat}{s:Shared}(x:bW prog w a S n s.heap):s.TypeIs (.ref a) "set":=by
 obtain⟨o,es,ep,t,ho,hex,_⟩:=x
 exact⟨o,ho,hex.1⟩
theorem qC{a:Addr}{Q:Bool->Shared->Prop}(hT:s.TypeIs (.ref a) "set")(h:Q true s):wpAny (model prog w) A (Builtin.Frozenset.isAnySet (.ref a)) Q E s:=by
 unfold Builtin.Frozenset.isAnySet
 show wpAny _ _ (isInstance (.ref a) (.type "set") >>=_) _ _ _
 exact a0b (a6s hT sub_set_self (a0d h))
theorem zU {α:Type}:∀(l:List α) (q:Bool),l.foldl (λq _=>!q) q=if l.length % 2=0 then q else !q
 |[],q=>rfl
 | a::l,q=>by
  rw[List.foldl_cons,zU l,a1n]
  by_cases h:l.length % 2=0
  ·rw[if_pos h,if_neg ∅]
  ·rw[if_neg h,if_pos ∅,Bool.not_not]
theorem a5S {a b:Addr} {S T:Int->Bool} {n m:Nat} {Q:Value->Shared->Prop} (hA:bW prog w a S n s.heap) (hB:bW prog w b T m s.heap) (hn:n<1000) (hm:m<32)
  (k:∀h' r U,(∀b o,s.heap.get? b=some o->h'.get? b=some o)->bW prog w s.heap.objs.size U r h'->r<=n+m->(∀j,U j=(S j !=T j))->Q (.ref s.heap.objs.size) {s with heap:=h'}) :
  wpAny (model prog w) A (binaryOp .BitXor (.ref a) (.ref b)) Q E s:=by
 have tA:=hA.typeIs
 have tB:=hB.typeIs
 refine wpAny_binaryOp_same (op:=.BitXor) tA tB F.fills_set_xor F.slot_set_xor (a3e F.slot_set_xor tA yL ?_ (F.args_set_xor_2 _ _))
 unfold Builtin.«frozenset.__xor__»
 show wpAny _ _ (do
  let (self,other) <- Builtin.Frozenset.slot1 "__xor__" ⟨[.ref a,.ref b],[]⟩
  if !(<- (Builtin.Frozenset.isAnySet self <&&> Builtin.Frozenset.isAnySet other)) then rule (toString "frozenset."++toString "__xor__"++toString ".declined");return <- ret .notImplemented
  ret (<- (do
   let result <- Builtin.Frozenset.newFrom (toString "frozenset."++toString "__xor__"++toString "") (<- Builtin.Frozenset.baseOf (<- Builtin.Frozenset.addrOf self)) other
   holding [result] (Builtin.Frozenset.symmetricDifferenceUpdate (toString "frozenset."++toString "__xor__"++toString "") (<- Builtin.Frozenset.addrOf result) (.ref a))
   return result))) _ _ _
 unfold Builtin.Frozenset.slot1
 refine a0b (a6b (a:=(Value.ref a,Value.ref b)) rfl ?_)
 dsimp only
 refine a0b ?_
 show wpAny _ _ (Builtin.Frozenset.isAnySet (.ref a) >>=_) _ _ _
 refine a0b (qC tA ?_)
 show wpAny _ _ (Builtin.Frozenset.isAnySet (.ref b)) _ _ _
 refine qC tB ?_
 rw[if_neg (by simp)]
 refine a0b ?_
 unfold Builtin.Frozenset.baseOf Builtin.Frozenset.newFrom Builtin.Frozenset.addrOf
 refine a0b (a0d (a0b (a0b (a6s tA sub_set_self (a0d ?_)))))
 rw[if_pos rfl]
 refine a0b (a0b (Q4 ?_))
 generalize hp:s.heap.objs.size=p at*
 have hE:(s.heap.push (bF w)).get? p=some (bF w):=by rw[<- hp];exact a1e _ rfl
 have kp:∀c o,s.heap.get? c=some o->(s.heap.push (bF w)).get? c=some o:=λc o e=>a0f _ e
 have nep:∀ {c:Ac} {o:Obj},s.heap.get? c=some o->p≠c:=λe=>by rw[<- hp];exact a4t (a0q e)
 have hA0:bW prog w a S n (s.heap.push (bF w)):=hA.mono λo e=>kp a o e
 have hB0:bW prog w b T m (s.heap.push (bF w)):=hB.mono λo e=>kp b o e
 have hpa:p≠a:=by obtain⟨o,_,_,_,e,_⟩:=hA;exact nep e
 have hpb:p≠b:=by obtain⟨o,_,_,_,e,_⟩:=hB;exact nep e
 generalize s.heap.push (bF w)=h0 at hE kp hA0 hB0
 refine a0b (a0d (a0b (a2e ?_)))
 unfold Builtin.Frozenset.updateFrom
 refine a0b (qC (s:={s with heap:=h0}) hB0.typeIs ?_)
 rw[if_pos rfl]
 unfold Builtin.Frozenset.addrOf Builtin.Frozenset.merge setEpoch
 refine a0b (a0d ?_)
 obtain⟨esb,epb,tb,hSb,_⟩:=hB0.at_
 refine a0b (a0b (hSb.state (s:={s with heap:=h0}) (a0d ?_)))
 refine V8 (s:={s with heap:=h0}) hE hpb hB0 hm λh1 sb1 hX1=>?_
 have hA1:bW prog w a S n h1:=hA0.mono λo e=>(sb1.2 a (a3b hpa)).trans e
 refine a0d ?_
 refine a0b (a0d (a0b (a2e ?_)))
 unfold Builtin.Frozenset.symmetricDifferenceUpdate
 rw[if_neg (by simpa using a3b hpa)]
 refine a0b (wpAny_typeOf (s:={s with heap:=h1}) hA1.typeIs ?_)
 rw[if_neg (by decide)]
 refine a0b (qC (s:={s with heap:=h1}) hA1.typeIs ?_)
 rw[if_pos rfl]
 unfold Builtin.Frozenset.addrOf setEpoch
 refine a0b (a0d (a0b (a0d ?_)))
 obtain⟨esa,epa,ta,hSa,hela,hmema,hba,hna,hwka,hnda⟩:=hA1.at_
 refine a0b (a0b (hSa.state (s:={s with heap:=h1}) (a0d ?_)))
 refine a2e (a0b (SD (s:={s with heap:=h1}) (S:=S) (n:=n) hpa hSa hela hwka hX1 λys h2 hperm sb2 hX2=>?_))
 have hS2:SetAt h2 a esa epa ta:=hSa.keeps λo e=>(sb2.2 a (a3b hpa)).trans e
 have hly:ys.toList.length=n:=by rw[hperm.length_eq,a0w,hna]
 rw[<- Array.forIn_toList]
 have h4096:scanBound=4096:=rfl
 refine a0b (JG (Q:=λ_ s'=>wpAny (model prog w) A.in1 (pure ()) _ E s') _ hpa ys.toList {s with heap:=h2} T m m hS2 (λe he=>hela e (hperm.mem_iff.mp he)) hX2 (a0o _) (by rw[hly];omega) λh3 r U sb3 hX3 hr hU=>?_)
 refine a0d (a0d (a0d ⟨_,rfl,(λz=>by cases z),k h3 r U (λc o e=>?_) hX3 (by rw[hly] at hr;omega) λj=>?_⟩))
 ·have hc:=a3b (nep e)
  exact (sb3.2 c hc).trans ((sb2.2 c hc).trans ((sb1.2 c hc).trans (kp c o e)))
 ·rw [hU j,zU]
  have e1:(ys.toList.filter λe=>decide (d3 e.2=j)).length=(esa.toList.filter λe=>decide (d3 e.2=j)).length:=(hperm.filter _).length_eq
  have e2:(esa.toList.filter λe=>decide (d3 e.2=j)).length=(esa.toList.map λe=>d3 e.2).count j:=by
   rw[List.count_eq_countP,List.countP_map,List.countP_eq_length_filter]
   first
    |rfl
    |(congr 2;funext e;show decide (d3 e.2=j)=(d3 e.2==j);by_cases z:d3 e.2=j<;>simp[z])
  have e3:S j=true↔j∈esa.toList.map λe=>d3 e.2:=by
   rw[hmema j,a0s]
   constructor
   ·rintro⟨e,he,hk⟩
    obtain⟨t,e2⟩:=d5 hk
    exact⟨e,he,by rw[e2];rfl⟩
   ·rintro⟨e,he,hk⟩
    obtain⟨⟨k',hk',_⟩,_⟩:=hela e he
    obtain⟨t,e2⟩:=d5 hk'
    have:k'=j:=by rw[<- hk,e2];rfl
    subst this
    exact⟨e,he,hk'⟩
  rw[e1,e2]
  cases hS:S j with
  | true=>
   have hm1:=e3.mp hS
   have c1:(esa.toList.map λe=>d3 e.2).count j=1:=by
    have h1:=List.nodup_iff_count.mp hnda j
    have h2:=List.count_pos_iff.mpr hm1
    omega
   rw[c1]
   cases T j<;>rfl
  | false=>
   have hm1:j∉esa.toList.map λe=>d3 e.2:=λz=>by rw[e3.mpr z] at hS;cases hS
   rw[List.count_eq_zero.mpr hm1]
   cases T j<;>rfl
end
section
variable{X:Cx}
theorem NW:bootBuiltins "set"=some (.type "set"):=by rfl
def RN(P:Program)(w:World)(K:PySem.W.Frag):List V->Hp->VK->Prop:=λxs H Q=>∃p ns,xs=[.ref p]/\dO K H p (List.map V.int ns)/\ns.length<=1000/\
 ∀(a:Ac) (S:Int->Bool) (n:Nat),H a=none->(∀k,S k=true↔k∈ns)->n<=ns.length->Q (.ref a) (bX H a (f6 P w a S n))
theorem zQ (hc:X.calm=true):eY X (.type "set") (RN X.prog X.w X.K):=by
 intro pins s σ H xs us Q I r h
 obtain⟨p,ns,rfl,hp,hl,q⟩:=h
 obtain⟨u,rfl,ru⟩:=nW r
 cases ru
 obtain⟨its,rv,hp',hz⟩:=I.list hp
 have hi:IntsAre its ns:=wA rv
 have hvl:its.length=ns.length:=IntsAre.length hi
 have h4096:scanBound=4096:=rfl
 refine call_set_list_x (I.ok.hd hc) hp'.isList (by simpa using hi) (by simp;omega) λh' tk hX hk=>?_
 have kp:∀b u,s.heap.get? b=some u->h'.get? b=some u:=λb o e=>hk b o (a0q e) e
 refine⟨.ref s.heap.objs.size,_,I.laid (a:=s.heap.objs.size) (t':=tk) kp (a0o _) hX.ok,rfl,q _ _ _ (I.hok.fresh (a0o _)) (λk=>?_) ?_⟩
 ·have e1:((List.range its.length).map λi=>ns.getD i 0)=ns:=by
   rw[hvl]
   apply a4c
   ·simp
   ·intro i h1 h2
    simp[a0c,a0a h2]
  rw[firstMet_any]
  simp only[a0r]
  rw[e1,List.any_eq_true]
  simp
 ·have:=firstMet_length_le (λi=>ns.getD i 0) its.toArray.size
  simp only[a0r] at this ⊢
  omega
def a4Z(P:Program)(w:World):R2:=λx y H Q=>∃a b S T n m,x= .ref a/\y= .ref b/\H a=some (f6 P w a S n)/\H b=some (f6 P w b T m)/\n<1000/\m<32/\
 ∀(c:Ac) (U:Int->Bool) (r:Nat),H c=none->r<=n+m->(∀j,U j=(S j !=T j))->Q (.ref c) (bX H c (f6 P w c U r))
theorem Inv.setX{pins:List (Addr×Obj)}{σ:St}{H:Hp}{s:Shared}{p:Addr}{S:Int->Bool}{n:Nat}(I:Inv X pins σ H s)(hp:H p=some (f6 X.prog X.w p S n)):bW X.prog X.w p S n s.heap:=by
 obtain⟨hX,_,_⟩ : bW X.prog X.w p S n s.heap/\(∃o,s.heap.get? p=some o)/\(∀h1 h2:Heap,bW X.prog X.w p S n h1->(∀o,h1.get? p=some o->h2.get? p=some o)->bW X.prog X.w p S n h2):=I.hok p _ hp
 exact hX
theorem a45:nY X (binaryOp .BitXor) (a4Z X.prog X.w):=by
 intro pins s σ H x y v u Q I rx ry h
 obtain⟨a,b,S,T,n,m,rfl,rfl,ha,hb,hn,hm,q⟩:=h
 cases rx;cases ry
 refine a5S (I.setX ha) (I.setX hb) hn hm λh' r U kp hX hr hU=>?_
 exact⟨.ref s.heap.objs.size,_,I.laid (a:=s.heap.objs.size) (t':=s.toks) kp (a0o _) hX.ok,rfl,q _ _ _ (I.hok.fresh (a0o _)) hr hU⟩
end
def oD(ns ms:List Int):List Int:=(ns.filter λk=>!decide (k∈ms))++(ms.filter λk=>!decide (k∈ns))
theorem n9{ns ms:List Int}{k:Int}:k∈oD ns ms↔(k∈ns/\k∉ms)\/(k∈ms/\k∉ns):=by
 unfold oD
 rw[a1c,a2l,a2l]
 simp
def k6 (n:Nat) (x:PV) (K:List Int->Prop):Prop:=match x with
 | .lst xs=>(match PV.ints xs with
  |some ns=>ns.length<n/\K ns
  |none=>False)
 |_=>False
theorem A2{n:Nat}{ns:List Int}{K:List Int->Prop}(hl:ns.length<n)(q:K ns):k6 n (.lst (ns.map PV.int)) K:=by unfold k6;simp only[PV.ints_map];exact⟨hl,q⟩
theorem wN {n:Nat} {x:PV} {K:List Int->Prop} (h:k6 n x K):∃xs ns,x= .lst xs/\PV.ints xs=some ns/\ns.length<n/\K ns:=by
 unfold k6 at h
 cases x with
 | lst xs=>
  dsimp only at h
  cases hi:PV.ints xs with
  |none=>rw[hi] at h;exact h.elim
  |some ns=>rw[hi] at h;exact⟨xs,ns,rfl,hi,h.1,h.2⟩
 |_=>exact h.elim
def nH(a b:b5):b5:=λenv Q=>a env λx=>k6 32 x λns=>b env λy=>k6 32 y λms=>Q (.lst ((aV (oD ns ms)).map PV.int))
section
variable{X:Cx}{md:List Md}{a b:Expr}{pa pb:b5}{p p1 p2 pos pos1 pos2 pos3:Pos}
theorem FH{G:Addr->Prop}{H:Hp}{v:V}{xs:List PV}{ns:List Int}(r:Rep G H v (.lst xs))(h:PV.ints xs=some ns):∃l,v= .ref l/\H l=some (.lst (List.map V.int ns)):=by
 rw[PV.ints_of h] at r
 obtain⟨l,vs,rfl,_,e,rs⟩:=Rep.ofList r
 rw[rs.ints] at e
 exact⟨l,rfl,e⟩
theorem IP (hc:X.calm=true) (hg0:X.env.scope.names.lookup ("sorted" : Str)=some .globalImplicit) (hm0:X.mg "sorted"=none) (hg1:X.env.scope.names.lookup ("set" : Str)=some .globalImplicit) (hm1:X.mg "set"=none) (ha:VE X md a .bw pa) (hb:VE X md b .bw pb)
  (h1:starEach [a] X.env=(false,eval a X.env)::starEach [] X.env:=by rfl) (h1':starEach [b] X.env=(false,eval b X.env)::starEach [] X.env:=by rfl)
  (h2:starEach [.BinOp (.Call (.Name "set" p1) [a] [] pos1) .BitXor (.Call (.Name "set" p2) [b] [] pos2) pos3] X.env=(false,eval (.BinOp (.Call (.Name "set" p1) [a] [] pos1) .BitXor (.Call (.Name "set" p2) [b] [] pos2) pos3) X.env)::starEach [] X.env:=by rfl)
  (hl1:(backTo pos1 (starEach [] X.env)).any (·.1)=false:=by rfl) (hl1':(backTo pos2 (starEach [] X.env)).any (·.1)=false:=by rfl) (hl2:(backTo pos (starEach [] X.env)).any (·.1)=false:=by rfl) :
  VE X md (.Call (.Name "sorted" p) [.BinOp (.Call (.Name "set" p1) [a] [] pos1) .BitXor (.Call (.Name "set" p2) [b] [] pos2) pos3] [] pos) (.o .fl) (nH pa pb):=
 ⟨(nI (zR hc) hg0 hm0 zN (iB (AC a45 (jB (zQ hc) hg1 hm1 NW (iB ha.h lX h1) (by decide) (by decide) h1 hl1) (jB (zQ hc) hg1 hm1 NW (iB hb.h lX h1') (by decide) (by decide) h1' hl1')) lX h2) (by decide) (by decide) h2 hl2).imp λσ H Q h=>by
 obtain⟨env,W0,H0,W,Q',R,q,k⟩:=h
 refine⟨env,W0,H0,W,_,R,q,λx v W1 H1 g1 r1 q1=>?_⟩
 obtain⟨xs,ns,rfl,hi,hlt,q1⟩:=wN q1
 obtain⟨l,rfl,e⟩:=FH r1 hi
 have R1:=R.step g1
 refine⟨l,ns,rfl,dO.of e,by omega,λc S n hc' hS hn=>?_⟩
 have gl:Go W1 H1 W1 (bX H1 c (f6 X.prog X.w c S n)):=Go.laid R1.ok hc'
 have R2:=R1.step gl
 refine⟨env,W0,H0,W1,_,R2,q1,λy u W3 H3 g3 r3 q3=>?_⟩
 obtain⟨ys,ms,rfl,hi2,hlt2,q3⟩:=wN q3
 obtain⟨l',rfl,e'⟩:=FH r3 hi2
 have R3:=R2.step g3
 refine⟨l',ms,rfl,dO.of e',by omega,λc2 T m hc2 hT hm=>?_⟩
 have gl2:Go W3 H3 W3 (bX H3 c2 (f6 X.prog X.w c2 T m)):=Go.laid R3.ok hc2
 have at1:H3 c=some (f6 X.prog X.w c S n):=g3.kp c _ bM λz=>R1.ok.offS hc' z
 have nc:c≠c2:=λz=>by rw[z,hc2] at at1;cases at1
 refine⟨c,c2,S,T,n,m,rfl,rfl,by rw[aL nc];exact at1,bM,by omega,by omega,λc3 U r hc3 hr hU=>?_⟩
 have gl3:Go W3 (bX H3 c2 (f6 X.prog X.w c2 T m)) W3 (bX (bX H3 c2 (f6 X.prog X.w c2 T m)) c3 (f6 X.prog X.w c3 U r)):=Go.laid gl2.ok hc3
 refine⟨c3,U,r,rfl,bM,by omega,λl2 zs hl2' hlt3 hms=>?_⟩
 have:zs=aV (oD ns ms):=FT hlt3 λj=>by
  rw[<- hms j,hU j,n9,<- hS j,<- hT j]
  cases S j<;>cases T j<;>simp
 subst this
 exact (k.after ((((g1.trans gl).trans g3).trans gl2).trans gl3)).newL gl3.ok hl2' (tF _) q3⟩
end
end L2
namespace PySem
open PySem.AutoSeq1 (wpAny_loadPart')
theorem tup_add_two (l:Addr) (items:Array Value) (n:Nat) (dd:Option Addr) (sl:Array (Option Value)) (b:Addr) (items2:Array Value) (n2:Nat) (dd2:Option Addr) (sl2:Array (Option Value)) (hc0:¬items.isEmpty=true) (hc1:¬items2.isEmpty=true) (hs0:items.size+items2.size<=sizeLine) :
  Meets (Builtin.«tuple.__add__» ⟨[.ref l,.ref b],[]⟩) (λ_ R s=>s.heap.get? l=some {cls:=.type "tuple",dict:=dd,data:=.seq items n,slots:=sl}/\s.heap.get? b=some {cls:=.type "tuple",dict:=dd2,data:=.seq items2 n2,slots:=sl2}/\R (.ok (.ret (Value.ref s.heap.objs.size))) {s with heap:=s.heap.push {cls:=Value.type "tuple",data:=Data.seq (items++items2)},toks:=s.toks}):=
 .of_wp λprog w A R s h=>by obtain⟨hp,g,d,tk,os⟩:=s;obtain⟨hl,hb,h⟩:=h;have f1:=AutoSeq1.idx_int;have f2:=AutoSeq1.sub_tuple_tuple;have f3:=AutoSeq1.sub_list_list;have f4:=AutoSeq1.sub_tuple_list;have f5:=AutoSeq1.sub_list_tuple;wp_walk using a5f hl,a5f hb;exact⟨_,rfl,h⟩
end PySem
namespace L2
open PySem PySem.Spec PyProof.Rows
def a4R:R2:=λx y H Q=>∃l b xs zs,x= .ref l/\y= .ref b/\H l=some (.tup xs)/\H b=some (.tup zs)/\0<xs.length/\0<zs.length/\xs.length+zs.length<=sizeLine/\∀p,H p=none->Q (.ref p) (bX H p (.tup (xs++zs)))
theorem VF {X:Cx}:nY X (binaryOp .Add) a4R:=by
 intro pins s σ H x y v u Q I rx ry h
 obtain⟨l,b,xs,zs,rfl,rfl,hH,hB,h1,h2,hz,q⟩:=h
 cases rx
 cases ry
 obtain⟨z,its,r,o,e,hc,n,hd⟩:=I.hok l _ hH
 obtain⟨z2,its2,r2,o2,e2,hc2,n2,hd2⟩:=I.hok b _ hB
 obtain⟨c,dd,da,sl⟩:=o
 obtain⟨c2,dd2,da2,sl2⟩:=o2
 cases hc
 cases hd
 cases hc2
 cases hd2
 have l1:=r.length
 have l2:=r2.length
 refine PySem.concat_meets ⟨_,e,rfl⟩ ⟨_,e2,rfl⟩ noFill_tuple_add seq_tuple_add F.slot_tuple_add F.entry_tuple_add (F.args_tuple_add_2 _ _) (PySem.tup_add_two l its.toArray n dd sl b its2.toArray n2 dd2 sl2 ?_ ?_ ?_) ⟨e,e2,?_⟩
 ·rw[List.isEmpty_toArray,List.isEmpty_iff];intro z;rw[z,a3h] at l1;omega
 ·rw[List.isEmpty_toArray,List.isEmpty_iff];intro z;rw[z,a3h] at l2;omega
 ·rw[a0r,a0r];omega
 ·have ea:its.toArray++its2.toArray=(its++its2).toArray:=by simp
  rw[ea]
  exact⟨.ref _,_,I.laid (t':=s.toks) (o:=.tup (xs++zs)) (λ_ _ q=>a0f _ q) (a0o _) ⟨by rw[a1l];omega,its++its2,r.append r2,_,a1e _ rfl,rfl,0,rfl⟩,rfl,q _ I.fresh⟩
def EQ:P2:=λx y Q=>match x,y with
 |.tup xs,.tup ys=>0<xs.length/\0<ys.length/\xs.length+ys.length<=sizeLine/\Q (.tup (xs++ys))
 |_,_=>False
theorem XD {X:Cx} {md:List Md} {a b:Expr} {pa pb:b5} {el:El} {pos:Pos} (ha:VE X md a (.p el) pa) (hb:VE X md b (.p el) pb):VE X md (.BinOp a .Add b pos) (.v el) (bA EQ pa pb):=
 ⟨(AC VF ha.h hb.h).imp λσ H K=>by
  rintro⟨env,W0,H0,W,Q,R,q,k⟩
  refine⟨env,W0,H0,W,_,R,q,λx v W1 H1 g1 r1 q1=>⟨env,W0,H0,W1,_,R.step g1,q1,λy u W2 H2 g2 r2 q2=>?_⟩⟩
  have k2:=k.after (g1.trans g2)
  have r1':RepP (el.G W2.F H0) W2.S H2 v x:=ResE.go (m:=.p el) r1 g1.ok g2
  cases x with
  | tup xs=>cases y with
   | tup ys=>
    obtain⟨a,vs,rfl,e,rs⟩:=r1'.ofTup
    obtain⟨b,us,rfl,e',rs'⟩:=RepP.ofTup r2
    exact⟨a,b,vs,us,rfl,rfl,e,e',by rw[rs.len];exact q2.1,by rw[rs'.len];exact q2.2.1,by rw[rs.len,rs'.len];exact q2.2.2.1,λp hp=>k2.newT g2.ok hp (rs.append rs') q2.2.2.2⟩
   |_=>exact q2.elim
  |_=>exact q2.elim⟩
def uU(X:Cx)(N':List Str)(scope:Scope)(C:Addr)(s:Shared)(H:Hp)(fp:List Addr)(A:Around)(code:Value):Cx where
 prog:=X.prog
 w:=X.w
 K:=X.K
 mg:=X.mg
 base:=X.base
 A:=A
 N:=N'
 s₀:=s
 H₀:=H
 env:=genEnv scope (lN scope X.env) C code builtinsNs X.env
 outer:=X.stack
 stack:=genEnv scope (lN scope X.env) C code builtinsNs X.env::X.stack
 ex:=fp
 fn:=λ_=>false
 calm:=true
 pn:=[]
 xe:=λ_ _=>False
section
variable{X:Cx}{scope:Scope}{N':List Str}{n:Nat}{cap:List Nat}
theorem P6 {pins pl:List (Addr×Obj)} {σ:St} {H:Hp} {s:Shared} {h1:Heap} {m0:Str->Option Value} {fp:List Addr} {tk:Nat} {A:Around} {code:Value} {g0:Array GenState} (S:LcOk X.N X.env.scope scope N' n cap) (I:Inv X pins σ H s) (hf:∀b∈fp,iY X pins H b) (hfs:∀b∈fp,b<s.heap.objs.size)
  (hA:A.handled=none) (hAf:A.frames=some (genEnv scope (lN scope X.env) s.heap.objs.size code builtinsNs X.env::X.stack)) (hg0:AllBare g0)
  (ns:h1.Ns s.heap.objs.size m0) (k:∀b o,s.heap.get? b=some o->h1.get? b=some o)
  (hpl:∀p∈pl,h1.get? p.1=some p.2/\s.heap.objs.size<p.1/\∀v,p.2.data≠ .cell v) :
  Inv (uU X N' scope s.heap.objs.size {s with gens:=g0} H fp A code) pl (yO n cap σ) H {s with heap:=h1,toks:=tk,gens:=g0}:=by
 have hfree:∀y∈scope.names,y.2= .free->∃c,X.env.cells.lookup y.1=some c:=λy hy e=>I.ok.has y.1 (.inl (S.frees y hy e))
 have sub:∀ {x:Str} {c:Ac},(lN scope X.env).lookup x=some c->X.env.cells.lookup x=some c:=λe=>jH hfree e
 have okY:(uU X N' scope s.heap.objs.size {s with gens:=g0} H fp A code).Ok:=by
  refine ⟨I.ok.mod,S.kind,I.ok.glob,rfl,a0o _,λx y c a b=>I.ok.inj x y c (sub a) (sub b),λx hx=>?_,λx c z=>absurd z a0m,λ_=>hA,hAf,.inr ⟨rfl,rfl⟩,λb hb=>⟨?_,λx c e=>(hf b hb).2.2.2.2.1 x c (sub e)⟩,
   I.bs,a1b I.ok.bsz I.sz,λb o e hb=>?_,λb hb hs=>?_,I.stack,I.stkFree,I.tb⟩
  ·have hx':scope.names.lookup x=some .cell\/scope.names.lookup x=some .free:=hx
   rcases hx' with e|e
   ·exact absurd rfl (S.nocell _ (eF e))
   ·exact qF (eF e)
  ·exact a0x (hfs b hb)
  ·rcases (hf b hb).2.2.2.1 with z|z
   ·exact I.ok.noex b o e z
   ·exact absurd (a0z (a0q e) I.ok.bsz) (Nat.not_lt.mpr z)
  ·rcases a0l.mp (I.stkSub b hs) with z|z
   ·exact (hf b hb).2.1 z
   ·exact (hf b hb).2.2.1 z
 refine⟨okY,rfl,⟨hg0,λ_ _ e=>e⟩,Un.kept k,⟨m0,ns,λi x v e1 e2 e3=>?_⟩,λx c e=>?_,I.fresh,λx c e=>I.freeC x c (sub e),λp hp=>?_,I.hok.kept k,?_⟩
 ·have e2':(List.replicate n none++cap.map λi=>σ.getD i none)[i]? =some (some v):=e2
  by_cases hi:i<n
  ·rw[a1f (by simpa using hi),a2a] at e2'
   split at e2'<;>cases e2'
  ·rw [a1g (by simpa using a4b hi),a1w,a0h] at e2'
   cases hc:cap[i-n]? with
   |none=>rw[hc] at e2';cases e2'
   | some j=>
    rw[hc] at e2'
    have ev:σ.getD j none=some v:=a1i e2'
    have ex':(N'.drop n)[i-n]? =some x:=by rw[a7f,show n+(i-n)=i by omega];exact e1
    have exN:X.N[j]? =some x:=by
     rw[S.caps,a0h,hc] at ex'
     have hj:=S.capl j (a0k hc)
     have z:X.N.getD j Str.empty=x:=a1i ex'
     rw[a0c,a0a hj] at z
     rw[a0a hj]
     exact congrArg some z
    have eσ:σ[j]? =some (some v):=by
     rw[a0c] at ev
     cases q:σ[j]? with
     |none=>rw[q] at ev;cases ev
     |some o=>rw[q] at ev;exact congrArg some ev
    have lf:=S.capf x (a0k ex')
    have mem:=eF lf
    have kx:X.env.kindOf x=some .cell:=S.frees _ mem rfl
    obtain⟨m,_,hl⟩:=I.loc
    obtain⟨u,ru,lu⟩:=hl j x v exN eσ (.inr (.inl kx))
    refine⟨u,ru,.inr ⟨.inr lf,?_⟩⟩
    rcases lu with ⟨kl,_⟩|⟨_,c,hc',hcell⟩
    ·rw[kx] at kl;cases kl
    ·obtain⟨d,hd⟩:=qF (env:=X.env) mem
     have:=sub hd
     rw[hc'] at this
     cases this
     obtain⟨oc,h1',h2'⟩:=hcell
     exact⟨c,hd,oc,k c oc h1',h2'⟩
 ·obtain⟨v,oc,h1',h2'⟩:=I.cell x c (sub e)
  exact⟨v,oc,k c oc h1',h2'⟩
 ·obtain ⟨q1,q2,q3⟩:=hpl p hp
  refine⟨q1,I.hok.fresh (a3r q2),a4t q2,λz=>?_,q3⟩
  exact absurd z (by
   intro z
   rcases a0l.mp (I.stkSub _ z) with z|z
   ·rw[z] at q2;exact absurd (a2r q2 I.lt) (a5n _)
   ·exact I.nofs (a3r q2) z)
 ·show (List.replicate n none++cap.map λi=>σ.getD i none).length=N'.length
  rw[S.len];simp
theorem LF {pins:List (Addr×Obj)} {σ:St} {H:Hp} {s:Shared} {c P:Addr} {pos:Pos} {qual:Str} {Q:Value->Shared->Prop} (I:Inv X pins σ H s) (hcd:X.env.code= .ref c) (hC:PySem.W.CodeHd X.base c P) (hP:P∈X.base.life.registered)
  (h:∀code h' tk,Inv X pins σ H {s with heap:=h',toks:=tk}->(∀b o,b≠P->s.heap.get? b=some o->h'.get? b=some o)->Q code {s with heap:=h',toks:=tk}) :
  wpAny (model X.prog X.w) X.A (genexprCode X.env pos qual scope) Q X.xe s:=by
 have hT:=I.tb P hP
 obtain⟨ps,ep,tok⟩:=I.hok P _ hT
 have hC':PySem.W.CodeHd s.heap c P:=hC.keeps I.bk
 have hok:=hC'.code ep tok
 have nP:∀b,H b=none->b≠P:=λb e z=>by rw[z,hT] at e;cases e
 cases hnf:codeAmong pos ps.toList with
 |some c'=>exact wpAny_genexprCode_hit hcd hok hnf (h c' s.heap s.toks I λ_ _ _ e=>e)
 | none=>
  refine wpAny_genexprCodeX hcd hok (hC'.tab ep) hnf λc' h' tk hx hge hlt hcode hrec htab _=>h _ h' tk ?_ hx
  refine I.step (g':=s.gens) (d':=s.drawn) (ch:=[]) (λ_ z=>nomatch z) (λb o _ _ _ e m=>hx b o (nP b m) e) (λb o _ _ _ e m=>⟨o.slots,hx b o (nP b m) e⟩) (λb o _ e m=>m) (λb o _ e=>?_) (λ_ _ e=>e) (λ_ _ _ e=>e) (λ_ e=>e) (λm hm=>hm.at' λo e=>hx _ o (nP _ I.free) e) (λb u e=>?_) I.bare
  ·by_cases hb:b=P
   ·exact⟨_,by rw[hb];exact htab.2⟩
   ·exact⟨o,hx b o hb e⟩
  ·by_cases hb:b=P
   ·subst hb
    rw[hT] at e;cases e
    obtain⟨_,_,_,_,_,_,_,_,_,_,_,_,_,_,_,_,_,_,_,htr,_⟩:=hcode
    exact⟨_,htab.2,htr⟩
   ·refine (I.hok b u e).stay (λd v hd q=>hx d v (λz=>?_) q) (λ_ q=>q) λ_ _ q=>q
    rcases hd with hd|hd
    ·exact hb (hd.symm.trans z)
    ·rw[z,hT] at hd;cases hd
end
theorem FJ {s:Shared} {g:Nat} {gs:GenState} (h:s.gens[g]? =some .running):(s.setGen g gs).setGen g .running=s:=by
 have e:(s.gens.setIfInBounds g gs).setIfInBounds g .running=s.gens:=by
  apply Array.ext_getElem?
  intro i
  by_cases hi:i=g
  ·subst hi
   have hlt:i<s.gens.size:=by
    rcases Nat.lt_or_ge i s.gens.size with z|z
    ·exact z
    ·rw[a3a z] at h;cases h
   rw[a6p (by simpa using hlt),h]
  ·rw[a3z (a3b hi),a3z (a3b hi)]
 obtain⟨hp,gg,d,t,o⟩:=s
 show Shared.mk _ _ _ _ _=_
 simp only[Shared.setGen] at e ⊢
 rw[e]
def YP(R:Result->Shared->Prop)(a:Addr)(g:Nat)(dec:Bool):Protocol:=λ_ _ v s₁ kap=>∃b,v= .bool b/\(b=dec->∀gs',gs'.bare=true->R (.ok (.ret (.bool dec))) (s₁.setGen g gs'))/\
 (b= !dec->s₁.heap.NoLimit/\s₁.heap.IsGen a g/\s₁.gens[g]? =some .running/\kap (.send .none) s₁)
section
variable{prog:Program}{w:World}{A:Around}{R:Result->Ab->Prop}{a:Ac}{g:Nat}{Fin:Ab->Prop}
theorem NL (hh:A.handled=none) (hroom:A.depth<recursionLimit)
  (fin:∀s₁ h',Fin s₁->(∀b o,s₁.heap.get? b=some o->h'.get? b=some o)->R (.ok (.ret (.bool true))) {s₁.setGen g .finished with heap:=h'}) :
  ∀ (n:Nat) (gs:GenState) (s:Shared),s.heap.NoLimit->s.heap.IsGen a g->s.gens[g]? =some gs->
   gs.Goes (model prog w) A.in1.in1 (λ_ _ r s₁=>r= .ok .next/\Fin s₁) (YP R a g false) n (.send .none) (s.setGen g .running)->
   codeAny (model prog w) A (.builtin "all.loop" ⟨[.ref a],[]⟩) R s:=by
 intro n
 induction n with
 | zero=>
  intro gs s hl hg hgs hgo
  refine a4a F.entry_all_loop ?_
  rw[a3n a6t _]
  show wpAny _ A.in1 (pyNext (.ref a) >>=_) _ _ s
  refine a0b (wpAny_pyNext_genexpQ (A:=A.in1) (P:=λ_ _ s₁=>Fin s₁) hh hl hroom hg hgs hgo (λv s₁ gs' hb hv=>?_) (λs₁ hp h' hk=>?_))
  ·obtain ⟨b,rfl,hF,hT⟩:=hv
   refine a0b (a2e (a3o ?_))
   refine a0b (wpAny_letGo ?_)
   cases b with
   | false=>
    simp only[a5w,a6q]
    exact a0b (a3q (a0d (hF rfl gs' hb)))
   |true=>exact (hT rfl).2.2.2.elim
  ·exact a0b (a3q (a0d (fin s₁ h' hp hk)))
 | succ m ih=>
  intro gs s hl hg hgs hgo
  refine a4a F.entry_all_loop ?_
  rw[a3n a6t _]
  show wpAny _ A.in1 (pyNext (.ref a) >>=_) _ _ s
  refine a0b (wpAny_pyNext_genexpQ (A:=A.in1) (P:=λ_ _ s₁=>Fin s₁) hh hl hroom hg hgs hgo (λv s₁ gs' hb hv=>?_) (λs₁ hp h' hk=>?_))
  ·obtain ⟨b,rfl,hF,hT⟩:=hv
   refine a0b (a2e (a3o ?_))
   refine a0b (wpAny_letGo ?_)
   cases b with
   | false=>
    simp only[a5w,a6q]
    exact a0b (a3q (a0d (hF rfl gs' hb)))
   | true=>
    obtain⟨h1,h2,h3,h4⟩:=hT rfl
    simp only[a6e]
    refine a0d ⟨a5x a6t _,ih gs' (s₁.setGen g gs') h1 h2 (setGen_self h3) ?_⟩
    rw[FJ h3]
    exact h4
  ·exact a0b (a3q (a0d (fin s₁ h' hp hk)))
end
def a65 (dec:Bool) (J:It) (g:TG) (te:TE) (Q:VK) (σ:St) (H:Hp):Prop:=∃W:Nat->Nat->St->Hp->Prop,(∃m,W 0 m σ H)/\∀i k σ H,W i k σ H->
 (J.stop i H/\Q (.bl (!dec)) H)\/(J.go i H/\∃N:St->Hp->Prop,(∀σ' H',N σ' H'->∃m,m<k/\W (i+1) m σ' H')/\
  ∀v H3,J.yld i H v H3->g v σ H3 λσ' H'=>te σ' H' λx H4=>∃b:Bool,x= .bl b/\(b=(!dec)->N σ' H4)/\(b=dec->Q (.bl dec) H4))
def a57(dec:Bool)(wi:TI)(g:TG)(te:TE)(n:Nat)(cap:List Nat):TE:=λσ H Q=>wi σ H λJ H1=>a65 dec J g te Q (yO n cap σ) H1
theorem a5J{M:Model}{A:Around}{α:Type}{t:Sem α}{Q Q':α->Ab->Prop}{E:Value->Ab->Prop}{s:Ab}(h:wpAny M A t Q (λ_ _=>False) s)(k:∀a s,Q a s->Q' a s):wpAny M A t Q' E s:=a1j h k λ_ _ z=>z.elim
section
variable{X:Cx}{elt target iter:Expr}{scope:Scope}{gpos pos:Pos}{N':List Str}{n:Nat}{cap:List Nat}{wi:TI}{g:TG}{te:TE}
abbrev BM(X:Cx)(N':List Str)(scope:Scope)(s:Shared)(H:Hp)(fp:List Addr)(code:Value)(elt target iter:Expr)(gpos:Pos)(it:Addr):Cx:=
 uU X N' scope s.heap.objs.size {s with gens:=s.gens.push .running} H fp (X.A.in1.in1.over (.compLoop (.GeneratorExp elt [⟨target,iter,[],0⟩] scope gpos) 0 (.ref it) .none (genEnv scope (lN scope X.env) s.heap.objs.size code builtinsNs X.env)) []) code
theorem P3 {s:Shared} {H0:Hp} {fp:List Addr} {code:Value} {it a:Addr} {go:Obj} {gi:Nat} {tn:Nat->Heap->Prop} {J:It} {Q:VK} {R:Result->Shared->Prop} {dec:Bool} {W:Nat->Nat->St->Hp->Prop}
  (T:Turn X.prog X.w X.K target J fp it tn)
  (hfp:∀(H':Hp),(∀b∈fp,H' b=none)->∀b∈fp,iY (BM X N' scope s H0 fp code elt target iter gpos it) [(a,go)] H' b)
  (hgo:∀h:Heap,h.get? a=some go->h.IsGen a gi) (hgi:(s.gens.push GenState.running)[gi]? =some .running)
  (hg:PG (BM X N' scope s H0 fp code elt target iter gpos it) target g) (he:PE (BM X N' scope s H0 fp code elt target iter gpos it) elt te)
  (turn:∀i k σ H,W i k σ H->(J.stop i H/\Q (.bl (!dec)) H)\/(J.go i H/\∃N:St->Hp->Prop,(∀σ' H',N σ' H'->∃m,m<k/\W (i+1) m σ' H')/\
   ∀v H3,J.yld i H v H3->g v σ H3 λσ' H'=>te σ' H' λx H4=>∃b:Bool,x= .bl b/\(b=(!dec)->N σ' H4)/\(b=dec->Q (.bl dec) H4)))
  (bad:∀s₁ gs' σ H,Inv (BM X N' scope s H0 fp code elt target iter gpos it) [(a,go)] σ H s₁->Q (.bl dec) H->gs'.bare=true->R (.ok (.ret (.bool dec))) (s₁.setGen gi gs'))
  (hco:scope.isCoroutine=false) :
  ∀ (nn k i:Nat) (σ:St) (H:Hp) (s₀ s₁:Shared),k<nn->Inv (BM X N' scope s H0 fp code elt target iter gpos it) [(a,go)] σ H s₁->tn i s₁.heap->(∀b∈fp,H b=none)->W i k σ H->
   Seg (model X.prog X.w) X.A.in1.in1 (λ_ _ r s₂=>r= .ok .next/\∃σ H,Inv (BM X N' scope s H0 fp code elt target iter gpos it) [(a,go)] σ H s₂/\Q (.bl (!dec)) H) (YP R a gi dec) nn s₀
    (.compLoop (.GeneratorExp elt [⟨target,iter,[],0⟩] scope gpos) 0 (.ref it) .none (BM X N' scope s H0 fp code elt target iter gpos it).env)
    ((model X.prog X.w).den (.compLoop (.GeneratorExp elt [⟨target,iter,[],0⟩] scope gpos) 0 (.ref it) .none (BM X N' scope s H0 fp code elt target iter gpos it).env)) [] s₁:=by
 intro nn
 induction nn with
 |zero=>intro k i σ H s₀ s₁ hk;omega
 | succ nn ih=>
  intro k i σ H s₀ s₁ hk I st fr w
  show Seg _ X.A.in1.in1 _ _ _ s₀ _ ((compTurn (.GeneratorExp elt [⟨target,iter,[],0⟩] scope gpos) 0 (.ref it) .none (BM X N' scope s H0 fp code elt target iter gpos it).env).onRaise (leaving (BM X N' scope s H0 fp code elt target iter gpos it).env)) [] s₁
  rw[compTurn_gen,Sem.onRaise_eq_wrap]
  refine a2z (a2y ?_)
  rcases turn i k σ H w with ⟨stop,q⟩|⟨hgo',N,hN,step⟩
  ·refine a2z (a5J (T.done (BM X N' scope s H0 fp code elt target iter gpos it) rfl rfl rfl rfl i [(a,go)] s₁ σ H (λ_ _=>False) I (hfp H fr) st stop) λr s2 hr=>?_)
   obtain⟨rfl,I2⟩:=hr
   exact seg_end (.ok .next) ⟨rfl,σ,H,I2,q⟩
  ·refine a2z (a5J (T.item (BM X N' scope s H0 fp code elt target iter gpos it) rfl rfl rfl rfl i [(a,go)] s₁ σ H (λ_ _=>False) I (hfp H fr) st hgo') λr s2 h2=>?_)
   obtain⟨u,rfl,h2⟩:=h2
   refine a2z (a5J h2 λ_ s3 h3=>?_)
   obtain⟨x,H3,I3,r3,y3,D9,fr3⟩:=h3
   have I3':=I3.pinned (hfp H3 fr3) (T.obj _ _ D9)
   refine a2z (a5J (hg _ s3 σ H3 x u _ I3' r3 (step x H3 y3)) λ_ s4 h4=>?_)
   obtain⟨σ4,H4,I4,q4⟩:=h4
   refine a2z (wpAny_tests_nil ?_)
   simp only[a6e]
   have hy:∀v,yieldOut (BM X N' scope s H0 fp code elt target iter gpos it).env v=yieldValue v:=λv=>by
    have:(BM X N' scope s H0 fp code elt target iter gpos it).env.scope.isCoroutine=false:=hco
    simp only[yieldOut,this,a5w,a6q]
   simp only[hy]
   rw[Sem.bind_eq_wrap',Sem.bind_eq_wrap',Sem.wrap_wrap,Sem.wrap_wrap]
   refine seg_wrap (a5J (he _ s4 σ4 H4 _ I4 q4) λy s5 h5=>?_)
   obtain⟨v',H5,I5,r5,b,rfl,qt,qf⟩:=h5
   obtain rfl:y=Value.bool b:=r5
   have J5:Inv (BM X N' scope s H0 fp code elt target iter gpos it) [(a,go)] σ4 H5 s5:=I5.unpinned
   refine seg_at (seg_yield rfl rfl rfl ⟨b,rfl,λhb gs' hgb=>bad s5 gs' σ4 H5 J5 (qf hb) hgb,λhb=>⟨J5.nolimit,hgo _ (J5.pin (a,go) (by simp)).1,J5.bare.2 _ _ hgi,?_⟩⟩)
   obtain⟨m',hm,w'⟩:=hN σ4 H5 (qt hb)
   have pin:∀b∈fp,∀o,s3.heap.get? b=some o->s5.heap.get? b=some o/\H5 b=none:=λb hb o e=>by
    have z:=I5.pin (b,o) (a0t _ (a0t _ (eG hb e)))
    exact⟨z.1,z.2.1⟩
   refine seg_again rfl (ih m' (i+1) σ4 H5 s5 s5 ∅ J5 (T.keep _ _ _ D9 λb hb o e=>(pin b hb o e).1) (λb hb=>?_) w')
   obtain⟨o,e,_⟩:=T.obj _ _ D9 b hb
   exact (pin b hb o e).2
end
theorem NO{gens:Array GenState}{g:Nat}{gs:GenState}(h:AllBare gens)(hg:gs.bare=true):AllBare (gens.setIfInBounds g gs):=λy hy=>by
 obtain⟨i,hi,rfl⟩:=Array.mem_iff_getElem.mp hy
 have hi':i<gens.size:=by simpa using hi
 rw[Array.getElem_setIfInBounds hi']
 split
 ·exact hg
 ·exact h _ (Array.getElem_mem hi')
theorem KF {k:Nat} {A:Around} {ge:Expr} {it:Value} {env:Env} (h:∃a b c d,ge= .GeneratorExp a b c d) (r:Room (k+1) A):Room k (A.in1.in1.over (.compLoop ge 0 it .none env) []):=by
 obtain⟨a,b,c,d,rfl⟩:=h
 refine⟨r.hd,?_,?_,?_⟩
 ·have:=r.dp
  show A.depth+0+1+3*k+5<_
  omega
 ·have:=r.un
  show A.units+1+1+0+3+16*k+200<_
  omega
 ·show pushGuards [] (pushGuards [] A.guards)=_
  rw[r.gd];rfl
section
variable{X:Cx}{elt target iter:Expr}{scope:Scope}{gpos pos p:Pos}{N':List Str}{n k:Nat}{cap:List Nat}{wi:TI}{g:TG}{te:TE}{c P:Ac}{x:Str}
theorem a14 (hc:X.calm=true) (hr:Room (k+1) X.A) (S:LcOk X.N X.env.scope scope N' n cap) (hcd:X.env.code= .ref c) (hC:PySem.W.CodeHd X.base c P) (hP:P∈X.base.life.registered)
  (h0:scope.names.lookup (".0" : Str)=some NameKind.local) (hco:scope.isCoroutine=false) (hi:PI X target iter wi)
  (hg:∀C s H fp A code,PG (uU X N' scope C s H fp A code) target g) (he:∀C s H fp A code,Room k A->PE (uU X N' scope C s H fp A code) elt te)
  (hgl:Gl X x) (hm:X.mg x=none) (hv:bootBuiltins x=some (.builtin "all")) (hn:x≠ "__name__":=by decide) (hdb:(x==("__debug__" : Str))=false:=by decide)
  (hs:∀x,genFold iter X.env x=pure x:=by intro _;rfl) :
  PE X (.Call (.Name x p) [.GeneratorExp elt [⟨target,iter,[],0⟩] scope gpos] [] pos) (a57 false wi g te n cap):=by
 intro pins s σ H Q I h
 have hfree:∀y∈scope.names,y.2= .free->∃c,X.env.cells.lookup y.1=some c:=λy hy e=>I.ok.has y.1 (.inl (S.frees y hy e))
 refine a6g (p9 I hgl hm hv ?_ hn hdb)
 refine PyProof.Rows.callWith_builtin1 (e:=.GeneratorExp elt [⟨target,iter,[],0⟩] scope gpos) (rest:=[]) ?_ rfl rfl
 rw[show starEach [.GeneratorExp elt [⟨target,iter,[],0⟩] scope gpos] X.env=(false,eval (.GeneratorExp elt [⟨target,iter,[],0⟩] scope gpos) X.env)::starEach [] X.env from rfl]
 show wpAny _ _ (spliced ((false,eval (.GeneratorExp elt [⟨target,iter,[],0⟩] scope gpos) X.env)::backTo pos (starEach [] X.env))) _ _ s
 refine Calls.spliced_cons ?_
 refine wpAny_GeneratorExp_make hco (jI hfree) S.nocell h0 S.kind hr.depth ?_ hs
 refine d8 (hi pins s σ H _ I h) λxv s1 h1=>d8 h1 λitv s2 h2=>?_
 obtain⟨it,fp,tn,J,H2,rfl,I2,T,st2,f2,W,⟨m0,w0⟩,turn⟩:=h2
 refine⟨I2.nolimit,LF I2 hcd hC hP λcode h3 tk3 I3 hx3=>?_⟩
 generalize hs3:({s2 with heap:=h3,toks:=tk3}:Ab)=s3 at*
 have e3:s3.heap=h3:=by rw[<- hs3]
 have hT2:H2 P=some .tbl:=I2.tb P hP
 have fpP:∀b∈fp,b≠P:=λb hb z=>by have:=(f2 b hb).1;rw[z,hT2] at this;cases this
 have D9:tn 0 s3.heap:=T.keep 0 _ _ st2 λb hb o e=>by rw[e3];exact hx3 b o (fpP b hb) e
 obtain⟨bm,ob,B⟩:=I3.ok.mod.bmod
 have B3:=B.keeps I3.bk
 rw[show X.env.globals=mainGlobals from I3.ok.glob]
 refine wpAny_builtinsFor B3.ns B3.name B3.ne B3.obj B3.cls B3.dict B3.data ?_
 intro h' hn' hs'
 refine Calls.spliced_nil ?_
 have hlt:∀b∈fp,b<s3.heap.objs.size:=λb hb=>by
  obtain⟨o,e,_⟩:=T.obj 0 _ D9 b hb
  exact a0q e
 have hsz:h'.objs.size=s3.heap.objs.size+1:=by rw[hs'.1,a2x]
 have k4:∀b o,s3.heap.get? b=some o->h'.get? b=some o:=λb o e=>hs'.extBut b o (a0x (a0q e)) (a0f _ e)
 generalize hgo:({cls:=.type "generator",data:=.fields #[.int s3.gens.size 0,.str "<genexpr>" (s3.toks+1),.str (X.env.qual++ "<genexpr>") (s3.toks+1+1)]}:Obj)=gobj
 have isg:∀h:Heap,h.get? h'.objs.size=some gobj->h.IsGen h'.objs.size s3.gens.size:=λh e=>⟨_,_,_,e,(congrArg Obj.cls hgo.symm).trans rfl,(congrArg Obj.data hgo.symm).trans rfl,(congrArg Obj.slots hgo.symm).trans rfl⟩
 have hgdat:∀v,gobj.data≠ .cell v:=λv z=>by rw[<- hgo] at z;cases z
 have getA:(h'.push gobj).get? h'.objs.size=some gobj:=a1e _ (by rw[<- hgo];rfl)
 have hrun:(s3.gens.push GenState.running)[s3.gens.size]? =some .running:=a6d ..
 have bareR:AllBare (s3.gens.push .running):=I3.bare.1.push rfl
 have hAf:(X.A.in1.in1.over (.compLoop (.GeneratorExp elt [⟨target,iter,[],0⟩] scope gpos) 0 (.ref it) .none (genEnv scope (lN scope X.env) s3.heap.objs.size code builtinsNs X.env)) []).frames=some (genEnv scope (lN scope X.env) s3.heap.objs.size code builtinsNs X.env::X.stack):=by
  show pushEnvs [genEnv scope (lN scope X.env) s3.heap.objs.size code builtinsNs X.env] (pushEnvs [] X.A.frames)=_
  rw[I3.ok.frames];rfl
 have IY:=P6 (tk:=s3.toks+1+1+1) (h1:=h'.push gobj) (g0:=s3.gens.push .running) (pl:=[(h'.objs.size,gobj)]) S I3 f2 hlt (A:=X.A.in1.in1.over (.compLoop (.GeneratorExp elt [⟨target,iter,[],0⟩] scope gpos) 0 (.ref it) .none (genEnv scope (lN scope X.env) s3.heap.objs.size code builtinsNs X.env)) []) (code:=code)
  (KF ⟨_,_,_,_,rfl⟩ hr).hd hAf bareR (hn'.push _) (λb o e=>a0f _ (k4 b o e)) (λq hq=>by
   have:q=(h'.objs.size,gobj):=by simpa using hq
   subst this
   exact⟨getA,by rw[hsz];exact a2p _,hgdat⟩)
 have fpY:∀H':Hp,(∀b∈fp,H' b=none)->∀b∈fp,iY (BM X N' scope s3 H2 fp code elt target iter gpos it) [(h'.objs.size,gobj)] H' b:=λH' hn b hb=>by
  obtain⟨_,f1,f2',f3,f4,f5⟩:=f2 b hb
  refine⟨hn b hb,a0x (hlt b hb),λz=>?_,.inl hb,λx c e=>f4 x c (jH hfree e),λq hq=>?_⟩
  ·rcases a0l.mp (I3.stkSub b z) with z|z
   ·exact f1 z
   ·exact f2' z
  ·have:q=(h'.objs.size,gobj):=by simpa[uU] using hq
   subst this
   show h'.objs.size≠b
   exact a4t (a0z (hlt b hb) (by rw[hsz];exact Nat.le_succ _))
 have back:∀(s4:Shared) (σ4:St) (H4:Hp) (gs:GenState) (h5:Heap),Inv (BM X N' scope s3 H2 fp code elt target iter gpos it) [(h'.objs.size,gobj)] σ4 H4 s4->gs.bare=true->(∀b o,s4.heap.get? b=some o->h5.get? b=some o)->Inv X pins σ H4 {s4.setGen s3.gens.size gs with heap:=h5}:=λs4 σ4 H4 gs h5 I4 hb hk=>by
  have ub:=I4.base
  refine I3.call' (s':={s4.setGen s3.gens.size gs with heap:=h5}) (ch:=fp) I4.os ⟨λb o e z1 z2 z3=>hk _ _ (ub.keep b o e z1 z2 z3),λb o e z1 z2 z3=>?_,ub.free,λb o e z=>?_,ub.tups,ub.frzs,ub.tbls⟩ (I4.hok.kept hk) ⟨NO I4.bare.1 hb,λi y e=>?_⟩ λb hb=>⟨(f2 b hb).2.2.2.1,(f2 b hb).2.1,(f2 b hb).2.2.2.2.1,(f2 b hb).2.2.2.2.2⟩
  ·obtain⟨sl,e'⟩:=ub.slot b o e z1 z2 z3
   exact⟨sl,hk _ _ e'⟩
  ·obtain⟨o',e'⟩:=ub.there b o e z
   exact⟨o',hk _ _ e'⟩
  ·have hi:i<s3.gens.size:=by
    rcases Nat.lt_or_ge i s3.gens.size with z|z
    ·exact z
    ·rw[a3a z] at e;cases e
   show (s4.gens.setIfInBounds s3.gens.size gs)[i]? =some y
   rw[a3z (a4t hi)]
   refine I4.bare.2 i y ?_
   show (s3.gens.push GenState.running)[i]? =some y
   rw[a6l hi]
   rw[a0v hi] at e
   exact e
 refine call_function_tree F.kind_all F.plain_all F.entry_all (F.args_all1 _) ?_
 unfold Builtin.«all»
 refine a0b (m:=oneArg "all" _) (a0d ?_)
 refine a0b (wpAny_pyIter_gen (isg _ getA) ?_)
 refine a0d ⟨a5x a6t _,?_⟩
 have bad:∀s₁ gs' σ' H',Inv (BM X N' scope s3 H2 fp code elt target iter gpos it) [(h'.objs.size,gobj)] σ' H' s₁->Q (.bl false) H'->gs'.bare=true->
   (λ(r:Result) s'=>match r with|.ok (.ret v)=>EP X pins σ Q v s'|.ok _=>False|.error e=>X.xe e s') (.ok (.ret (.bool false))) (s₁.setGen s3.gens.size gs'):=λs₁ gs' σ' H' I' q' hb=>⟨.bl false,H',back s₁ σ' H' gs' s₁.heap I' hb (λ_ _ e=>e),rfl,q'⟩
 refine NL (Fin:=λs₂=>∃σ' H',Inv (BM X N' scope s3 H2 fp code elt target iter gpos it) [(h'.objs.size,gobj)] σ' H' s₂/\Q (.bl true) H') hr.hd hr.depth ?_ (m0+1) _ _ IY.nolimit (isg _ getA) (a6d ..) ?_
 ·rintro s₁ h5 ⟨σ',H',I',q'⟩ hk
  exact⟨.bl true,H',back s₁ σ' H' .finished h5 I' rfl hk,rfl,q'⟩
 ·refine ⟨rfl,?_⟩
  have e5:(s3.gens.push (GenState.fresh (.compStart (.GeneratorExp elt [⟨target,iter,[],0⟩] scope gpos) 0 (.ref it) .none (genEnv scope (lN scope X.env) s3.heap.objs.size code builtinsNs X.env)))).setIfInBounds s3.gens.size .running=s3.gens.push .running:=by
   apply Array.ext_getElem?
   intro i
   by_cases hi:i=s3.gens.size
   ·subst hi
    rw[a6p (by simp),a6d]
   ·rw[a3z (a3b hi)]
    by_cases hl:i<s3.gens.size
    ·rw[a6l hl,a6l hl]
    ·rw[a3a (by simp;omega),a3a (by simp;omega)]
  have loop:=P3 (R:=λ(r:Result) s'=>match r with|.ok (.ret v)=>EP X pins σ Q v s'|.ok _=>False|.error e=>X.xe e s') T fpY isg hrun (hg _ _ _ _ _ _) (he _ _ _ _ _ _ (KF ⟨_,_,_,_,rfl⟩ hr)) turn bad hco (m0+1) m0 0 (yO n cap σ) H2
   {s3 with heap:=h'.push gobj,toks:=s3.toks+1+1+1,gens:=s3.gens.push .running} {s3 with heap:=h'.push gobj,toks:=s3.toks+1+1+1,gens:=s3.gens.push .running} (a2p _) IY (T.keep 0 _ _ D9 λb hb o e=>a0f _ (k4 b o e)) (λb hb=>(f2 b hb).1) w0
  have st5:tn 0 (h'.push gobj):=T.keep 0 _ _ D9 λb hb o e=>a0f _ (k4 b o e)
  have e6:(({s3 with gens:=s3.gens.push (.fresh (.compStart (.GeneratorExp elt [⟨target,iter,[],0⟩] scope gpos) 0 (.ref it) .none (genEnv scope (lN scope X.env) s3.heap.objs.size code builtinsNs X.env))),toks:=s3.toks+1+1+1,heap:=h'.push gobj}:Shared).setGen s3.gens.size .running)={s3 with heap:=h'.push gobj,toks:=s3.toks+1+1+1,gens:=s3.gens.push .running}:=by
   simp only[Shared.setGen,e5]
  rw[e6]
  show Seg _ X.A.in1.in1 _ _ _ _ _ ((compStart (.GeneratorExp elt [⟨target,iter,[],0⟩] scope gpos) 0 (.ref it) .none (genEnv scope (lN scope X.env) s3.heap.objs.size code builtinsNs X.env)).onRaise (leaving (genEnv scope (lN scope X.env) s3.heap.objs.size code builtinsNs X.env))) [] _
  unfold compStart
  rw[Sem.onRaise_eq_wrap]
  show Seg _ _ _ _ _ _ _ ((ask >>=_).wrap _ _ _ _) [] _
  refine a2z (a3t ?_)
  split
  ·exact seg_again rfl loop
  ·first
    |exact a2z (a3q (a2z (a2y (a2z (T.self _ 0 _ _ _ st5 (seg_again rfl loop))))))
    |(refine a2z (a3q ?_);show Seg _ _ _ _ _ _ _ ((standAt iter.pos >>=_).wrap _ _ _ _) [] _;exact a2z (a2y (a2z (T.self _ 0 _ _ _ st5 (seg_again rfl loop)))))
end
def u6 (g:iS) (te:b5) (Q:PV->Prop):List PV->b9->Prop
 |[],_=>Q (.bl true)
 | x::xs,env=>g x env λenv1=>te env1 λv=>match v with
  |.bl b=>Br b (u6 g te Q xs env1) (Q (.bl false))
  |_=>False
def wK(s:mS)(g:iS)(te:b5)(cp:b9->b9):b5:=λenv Q=>s env λitems=>u6 g te Q items (cp env)
theorem NK {K:PySem.W.Frag} {md mb:List Md} {eli:El} {s:mS} {g:iS} {te:b5} {n:Nat} {cap:List Nat} {σ:St} {H:Hp} {Q:VK} {cp:b9->b9} (hcp:∀env,cp env=oC n cap env) (hle:jL mb (f7 n cap md)=true)
  (h:fY K md (.v .fl) (wK s g te cp) σ H Q):a57 false (wD K md eli s) (tX K (f7 n cap md) mb eli g) (fY K mb (.v .fl) te) n cap σ H Q:=by
 obtain⟨env,W0,H0,W,Q',R,q,k⟩:=h
 refine⟨env,W0,H0,W,_,R,q,λitems W1 H1 J g1 sr q1=>?_⟩
 rw[hcp] at q1
 have R1:=R.step g1
 have Rb:=CJ (n:=n) (cap:=cap) R1 (λa=>∃o,H1 a=some o) (λa o e=>⟨o,e⟩)
 generalize hW1b:({W1 with L:=λa=>∃o,H1 a=some o}:Wd)=W1b at Rb
 generalize hW0b:({W0 with L:=λa=>∃o,H1 a=some o}:Wd)=W0b at Rb
 have f1:W1b.F=W1.F:=by rw[<- hW1b]
 have s1:W1b.S=W1.S:=by rw[<- hW1b]
 have z1:W1b.Z=W1.Z:=by rw[<- hW1b]
 have okb:Wok W1b H1:=Rb.ok
 have exW:∀ {Wb:Wd} {Hb:Hp},Go W1b H1 Wb Hb->Ex W1 H1 Wb Hb:=λgb=>by
  have x:=gb.ex okb
  exact⟨λa h=>x.lF a (by rw[f1];exact h),λa o h e=>x.kp a o (by rw[f1];exact h) e,x.im⟩
 have gf:∀ {Wb:Wd} {Hb:Hp},Go W1b H1 Wb Hb->Go W H {Wb with L:=W.L} Hb:=fun {Wb Hb} gb=>by
  have a:=g1
  refine⟨λb h=>gb.lF b (by rw[f1];exact a.lF b h),λb h=>gb.lS b (by rw[s1];exact a.lS b h),λb h=>?_,λb h=>?_,λb o e s=>?_,⟨gb.ok.fF,gb.ok.sS,gb.ok.dj,gb.ok.zZ,gb.ok.zF,gb.ok.zS⟩,?_,rfl,λb h=>gb.lZ b (by rw[z1];exact a.lZ b h),λb h=>?_⟩
  ·rcases gb.nF b h with z|z
   ·exact a.nF b (by rw[<- f1];exact z)
   ·exact .inr (a.free z)
  ·rcases gb.nS b h with z|z
   ·exact a.nS b (by rw[<- s1];exact z)
   ·exact .inr (a.free z)
  ·refine gb.kp b o (a.kp b o e s) ?_
   rw[s1];exact a.nSS e s
  ·show Wb.K=W.K
   rw[gb.kk,<- hW1b];exact a.kk
  ·rcases gb.nZ b h with z|z
   ·exact a.nZ b (by rw[<- z1];exact z)
   ·exact .inr (a.free z)
 refine ⟨λi m σb Hb=>m=items.length-i/\i<=items.length/\∃(envb:b9) (Wb:Wd),Rl K (f7 n cap md) W0b H0 Wb σb envb Hb/\Go W1b H1 Wb Hb/\u6 g te Q' (items.drop i) envb,
  ⟨items.length,by simp,a3c _,oC n cap env,W1b,Rb,Go.refl okb,by simpa using q1⟩,?_⟩
 rintro i m σb Hb ⟨rfl,hi,envb,Wb,Rr,gb,qb⟩
 by_cases hlt:i<items.length
 ·rw [a3g hlt] at qb
  refine .inr ⟨sr.go i Wb Hb (exW gb) hlt,λσ' H'=>i+1<=items.length/\∃(envb:b9) (Wb:Wd),Rl K (f7 n cap md) W0b H0 Wb σ' envb H'/\Go W1b H1 Wb H'/\u6 g te Q' (items.drop (i+1)) envb,
   λσ' H' z=>⟨items.length-(i+1),by omega,rfl,z.1,z.2⟩,λv H3 y=>?_⟩
  obtain⟨g3,x,ex,rx⟩:=sr.yld i Wb Hb v H3 (exW gb) Rr.ok hlt y
  rw[a0a hlt] at ex
  cases ex
  refine⟨envb,W0b,H0,Wb,_,_,Rr.step g3,rx,qb,λenv' σ' R' z=>?_⟩
  refine⟨env',W0b,H0,Wb,_,R',z,λy u W5 H5 g5 r5 q5=>?_⟩
  cases y with
  | bl b=>
   obtain rfl:=Rep.ofBl r5
   refine⟨b,rfl,λhb=>?_,λhb=>?_⟩
   ·subst hb
    exact⟨hlt,env',W5,(R'.step g5).less hle,gb.trans (g3.trans g5),q5⟩
   ·subst hb
    exact k (.bl false) (.bl false) _ H5 (gf (gb.trans (g3.trans g5))) (.bl false) q5
  |_=>exact q5.elim
 ·have e:i=items.length:=by omega
  subst e
  rw[a5k] at qb
  exact .inl ⟨sr.stop Wb Hb (exW gb),k (.bl true) (.bl true) _ Hb (gf gb) (.bl true) qb⟩
section
variable{X:Cx}{elt target iter:Expr}{scope:Scope}{gpos pos p:Pos}{N':List Str}{n k:Nat}{cap:List Nat}{md mb:List Md}{eli:El}{s:mS}{g:iS}{te:b5}{x:Str}
def DI(base:Heap)(cdv:Value):Prop:=∃c P,cdv= .ref c/\PySem.W.CodeHd base c P/\P∈base.life.registered
theorem tP {cp:b9->b9} (hcp:∀env,cp env=oC n cap env) (hc:X.calm=true) (hr:Room (k+1) X.A) (S:LcOk X.N X.env.scope scope N' n cap) (ht:DI X.base X.env.code) (h0:scope.names.lookup (".0" : Str)=some NameKind.local) (hco:scope.isCoroutine=false)
  (hle:jL mb (f7 n cap md)=true) (hi:VI X md eli target iter s) (hg:∀C s H fp A code,VG (uU X N' scope C s H fp A code) (f7 n cap md) mb eli target g)
  (he:∀C s H fp A code,Room k A->VE (uU X N' scope C s H fp A code) mb elt (.v .fl) te)
  (hgl:X.env.scope.names.lookup x=some .globalImplicit) (hm:X.mg x=none) (hv:bootBuiltins x=some (.builtin "all")) (hn:x≠ "__name__") (hdb:(x==("__debug__" : Str))=false)
  (hs:∀x,genFold iter X.env x=pure x:=by intro _;rfl) :
  VE X md (.Call (.Name x p) [.GeneratorExp elt [⟨target,iter,[],0⟩] scope gpos] [] pos) (.v .fl) (wK s g te cp):=by
 obtain⟨c,P,h1,h2,h3⟩:=ht
 exact⟨(a14 hc hr S h1 h2 h3 h0 hco hi.h (λC s H fp A code=>(hg C s H fp A code).h) (λC s H fp A code r=>(he C s H fp A code r).h) hgl hm hv hn hdb hs).imp λσ H Q h=>NK hcp hle h⟩
end
section
variable{X:Cx}{scope:Scope}{N':List Str}{C:Ac}{s:Ab}{H:Hp}{fp:List Ac}{A:Around}{code:Value}{i:Nat}{x:Str}{pos:Pos}
theorem qM(hN:N'.Nodup)(hi:N'[i]? =some x)(h:scope.names.lookup x=some .local):QG (uU X N' scope C s H fp A code) (.Name x pos) (l6 i):=CB hN hi (Or.inl h) (Or.inr h)
theorem kI(hi:N'[i]? =some x)(h:scope.names.lookup x=some .local)(hd:(x==("__debug__" : Str))=false)(hcd:(x==("__classdict__" : Str))=false):QE (uU X N' scope C s H fp A code) (.Name x pos) (g8 i):=F8 hi (Or.inl h) hd hcd
theorem p5(hi:N'[i]? =some x)(h:scope.names.lookup x=some .free)(hd:(x==("__debug__" : Str))=false)(hcd:(x==("__classdict__" : Str))=false):QE (uU X N' scope C s H fp A code) (.Name x pos) (g8 i):=F8 hi (Or.inr (Or.inr h)) hd hcd
theorem E6(h:scope.names.lookup x=some .globalImplicit):(uU X N' scope C s H fp A code).env.scope.names.lookup x=some .globalImplicit:=h
end
structure DfT(K:PySem.W.Frag)(mg:Str->Option Value)(base:Heap)(x:Str)(st:Stmt):Prop where
 ex:∃(f:Ac) (oc:Value) (od an:Option Ac) (osl:Array (Option Value)) (kV doc pm cdv ct:Value),mg x=some (.ref f)/\K.lookup f=some ⟨oc,od,.func (PySem.W.fnOf x x (c5 st) (aW st) (aB st) .none kV doc pm an cdv ct),osl⟩/\PySem.W.codeIn K cdv x=true/\PySem.W.keepIn K (.ref f)=true/\DI base cdv
theorem YC {P:Program} {w:World} {K:PySem.W.Frag} {mg:Str->Option Value} {base:Heap} {x:Str} {st:Stmt} {N ps:List Str} {k:Nat} {ms mn:List Md} {rm:Md} {p:bJ} {d:PN} (hd:∀xs R,d xs R->p {nx:=λ_=>fP rm R,rt:=R} (c0 N xs)) (D:DfT K mg base x st) (S:FnScope N ps (aB st))
  (hb:∀(kV doc pm:Value) (an:Option Ac) (cdv ct:Value) (us:List Value),us.length=ps.length->bindArgs (PySem.W.fnOf x x (c5 st) (aW st) (aB st) .none kV doc pm an cdv ct) ⟨us,[]⟩=pure (ps.zip us))
  (hm:ms.all iT=true) (hr:jM rm=true)
  (hlen:ms.length=ps.length) (hbody:∀(f:Addr) (cdv:Value) (A:Around) (outer:List Env) (s:Shared) (H:Hp) (E:XK),DI base cdv->Room k (A.deeper (envOfC x (aB st) s.heap.objs.size f cdv))->
   VSs (cX jV P w K mg base N x (aB st) f cdv A outer s H E).nox (cC N ms) mn [] rm (aW st) p) :
  Cal P w K mg base (k+1) x ps (DB K ms rm d):=by
 obtain⟨f,oc,od,an,osl,kV,doc,pm,cdv,ct,m,l,c,kp,ht⟩:=D.ex
 have F:=OZ l c kp
 refine⟨f,_,m,kp,F.binds hb,⟨oc,od,osl,l⟩,XT l c S (λvs H Q E h=>?_) λA outer s H vs Q E hr' h=>?_⟩
 ·obtain⟨xs,W,R,_,_,r,_⟩:=h
  have:=r.len
  omega
 ·obtain ⟨xs,W,R,hk,wk,r,q,kk⟩:=h
  have q:=hd xs R q
  refine⟨_,(hbody f cdv A outer s H E ht hr').h.nox,c0 N xs,B4 W H,H,B4 W H,{nx:=λ_=>fP rm R,rt:=R},FI hk wk r hm,q,?_,?_,λ_ _ _ _ _ _ z=>z.elim,λ_ _ _ _ _ _ z=>z.elim⟩
  ·intro env W' σ H' Rr _ z
   have z':fP rm R:=z
   unfold fP at z'
   cases rm with
   | v e=>
    obtain⟨W2,g2,r2⟩:=rQ (rm:=.v e) wk hr Rr.go (v:=.non) (x:=.non) .non
    exact kk .non .non W2 H' g2 r2 z'
   |_=>exact z'.elim
  ·intro y v W' H' g r1 z
   obtain⟨W2,g2,r2⟩:=rQ wk hr g r1
   exact kk y v W2 H' g2 r2 z
def B5:Md->Bool
 |.v _=>true
 |.st=>true
 |.scr=>true
 |_=>false
def RS:Md->Bool
 |.v _=>true
 |.z .sh=>true
 |.st=>true
 |_=>false
theorem MO {K:PySem.W.Frag} {N:List Str} {ms:List Md} {vs:List V} {xs:List PV} {W:Wd} {H:Hp} (hk:W.K=K) (w:Wok W H) (r:ResEs H H W H ms vs xs) (hm:ms.all B5=true):Rl K (cC N ms) W H W (start N vs) (c0 N xs) H:=by
 have hlen:=r.len
 have pm:∀m,B5 m=true->a6U m=m:=λm h=>by cases m<;>first|rfl|cases h
 have getm:∀i m,ms[i]? =some m->(cC N ms).getD i .no=m:=λi m e=>by
  have hi:=(a0e.mp e).1
  unfold cC
  rw[a0c,a1f (by simpa using hi),a0h,e]
  exact pm m (a1a.mp hm m (a0k e))
 have none_:∀i,ms.length<=i->(cC N ms).getD i .no= .no:=λi hi=>by
  unfold cC
  rw[a0c,a1g (by simpa using hi),a2a]
  split<;>rfl
 have nown:∀i,((cC N ms).getD i .no).own=false:=λi=>by
  cases e:ms[i]? with
  |none=>rw[none_ i (a5z.mp e)];rfl
  | some m=>
   rw[getm i m e]
   have:=a1a.mp hm m (a0k e)
   cases m<;>first|rfl|cases this
 refine⟨w,Go.refl w,?_,λi x e=>?_,λi j x y a hij oi=>(by rw[nown i] at oi;cases oi),?_,hk⟩
 ·simp[start,c0,hlen.1]
 ·unfold c0 at e
  by_cases hi:i<xs.length
  ·rw [a1f (by simpa using hi),a0h] at e
   cases ex:xs[i]? with
   |none=>rw[ex] at e;cases e
   | some y=>
    rw[ex] at e
    cases e
    obtain⟨m,v,e1,e2,q⟩:=r.at ex
    refine⟨v,?_,?_⟩
    ·unfold start
     rw[a1f (by simpa[hlen.1] using hi),a0h,e2];rfl
    ·rw[getm i m e1]
     exact q
  ·rw[a1g (by simpa using hi),a2a] at e
   split at e<;>cases e
 ·unfold iL
  rw[a2o,a1a,a1a]
  refine .inr λm h=>?_
  unfold cC at h
  rcases a1c.mp h with z|z
  ·obtain⟨m',h1,rfl⟩:=a0s.mp z
   have:=a1a.mp hm m' h1
   cases m'<;>first|rfl|cases this
  ·rw[(a7b.mp z).2];rfl
theorem a5L {P:Program} {w:World} {K:PySem.W.Frag} {mg:Str->Option Value} {base:Heap} {x:Str} {st:Stmt} {N ps:List Str} {k:Nat} {ms mn:List Md} {rm:Md} {p:bJ} {d:PN} (hd:∀xs R,d xs R->p {nx:=λ_=>fP rm R,rt:=R} (c0 N xs)) (D:Df K mg x st) (S:FnScope N ps (aB st))
  (hb:∀(kV doc pm:Value) (an:Option Ac) (cdv ct:Value) (us:List Value),us.length=ps.length->bindArgs (PySem.W.fnOf x x (c5 st) (aW st) (aB st) .none kV doc pm an cdv ct) ⟨us,[]⟩=pure (ps.zip us))
  (hm:ms.all B5=true) (hr:RS rm=true)
  (hlen:ms.length=ps.length) (hbody:∀(f:Addr) (cdv:Value) (A:Around) (outer:List Env) (s:Shared) (H:Hp) (E:XK),Room k (A.deeper (envOfC x (aB st) s.heap.objs.size f cdv))->
   VSs (cX jV P w K mg base N x (aB st) f cdv A outer s H E).nox (cC N ms) mn [] rm (aW st) p) :
  Cal P w K mg base (k+1) x ps (DB K ms rm d):=by
 refine D.ok S hb (λvs H Q E h=>?_) (λf cdv A outer s H vs Q E hr' h=>?_)
 ·obtain⟨xs,W,R,_,_,r,_⟩:=h
  have:=r.len
  omega
 ·obtain ⟨xs,W,R,hk,wk,r,q,kk⟩:=h
  have q:=hd xs R q
  refine⟨_,(hbody f cdv A outer s H E hr').h,c0 N xs,W,H,W,{nx:=λ_=>fP rm R,rt:=R},MO hk wk r hm,q,?_,?_,λ_ _ _ _ _ _ z=>z.elim,λ_ _ _ _ _ _ z=>z.elim⟩
  ·intro env W' σ H' Rr _ z
   have z':fP rm R:=z
   unfold fP at z'
   cases rm with
   |v e=>exact kk .non .non W' H' Rr.go .non z'
   |_=>exact z'.elim
  ·exact λy v W' H' g r1 z=>kk y v W' H' g r1 z
theorem ResEs.argF {B H0 H B' H0':Hp} {W:Wd} {ms:List Md} {vs:List V} {xs:List PV} (r:ResEs B H0 W H ms vs xs) (h:ms.all (λm=>iT m||m== .v .sh||m== .v .fl)=true):ResEs B' H0' W H ms vs xs:=by
 induction r with
 |nil=>exact .nil
 | cons q _ ih=>
  rw[List.all_cons,a1d] at h
  refine .cons ?_ (ih h.2)
  rename_i m _ _ _ _ _ _
  rcases a2o _ _▸h.1 with z|z
  ·rcases a2o _ _▸z with z|z
   ·exact q.arg z
   ·rw[a3v] at z;subst z;exact q
  ·rw[a3v] at z;subst z;exact q
theorem ResE.retF{B H1 H2:Hp}{W0 W1 W2:Wd}{rm:Md}{v:V}{x:PV}(g:Go W0 B W1 H1)(hr:(jM rm||rm== .v .sh)=true)(r:ResE H1 H1 W2 H2 rm v x):ResE B H1 W2 H2 rm v x:=by
 rcases a2o _ _▸hr with z|z
 ·exact r.ret g z
 ·rw[a3v] at z;subst z;exact r
section
variable{X:Cx}{md:List Md}{e:Expr}{es:List Expr}{pt:qB}{p pos:Pos}{k:Nat}{x:Str}{ps:List Str}{ms:List Md}{rm:Md}{pn:PN}
theorem XE (C:Cal X.prog X.w X.K X.mg X.base k x ps (DB X.K ms rm pn)) (hr:Room k X.A) (hm:ms.all (λm=>iT m||m== .v .sh||m== .v .fl)=true) (hrm:(jM rm||rm== .v .sh)=true) (ha:VA X md (e::es) ms pt) (hg:X.env.scope.names.lookup x=some .globalImplicit)
  (hdb:(x==("__debug__" : Str))=false) (he:starEach (e::es) X.env=(false,eval e X.env)::starEach es X.env:=by rfl) (hpl:(backTo pos (starEach es X.env)).any (·.1)=false:=by rfl) :
  VE X md (.Call (.Name x p) (e::es) [] pos) rm (bT pn pt):=⟨(QO C hr ha.h hg hdb he hpl).imp λσ H K=>by
 rintro⟨env,W0,H0,W,Q,R,q,k⟩
 refine⟨env,W0,H0,W,_,R,q,λxs vs W1 H1 g1 r1 q1=>?_⟩
 refine⟨xs,W1,Q,g1.kk.trans R.kk,g1.ok,by rw[a5r];exact r1.argF hm,q1,λy v W2 H2 g2 r2 q2=>?_⟩
 exact k y v W2 H2 (g1.trans g2) (ResE.base g1 (ResE.retF (R.go.trans g1) hrm r2)) q2⟩
end
open PySem PySem.W PyProof.Rows
section
variable{O:KeyOrd}{K:Nat->O.α}{cmp:Nat->Nat->(Bool->Ab->Prop)->Ab->Prop}{s:Ab}{n:Nat}
variable(hc:∀i j (C:Bool->Ab->Prop),i<n->j<n->C (O.blt (K i) (K j)) s->cmp i j C s)(hn:0<n)
include hc hn
omit hc hn in
omit hc hn in
end
theorem qH (l:Addr) (da:Data) (dd:Option Addr) (sl:Array (Option Value)) (b:Str) (u:Tok) :
  Meets (Builtin.«dict.__eq__» ⟨[.ref l,.str b u],[]⟩) (λ_ R s=>s.heap.get? l=some {cls:=.type "dict",dict:=dd,data:=da,slots:=sl}/\R (.ok (.ret .notImplemented)) s):=
 .of_wp λprog w A R s h=>by obtain⟨hp,g,d,tk,os⟩:=s;obtain⟨hl,h⟩:=h;have f1:=F.sub_str_dict;wp_walk using a5f hl,wpAny_load hl;exact⟨_,rfl,h⟩
theorem sA (b:Str) (u:Tok) (l:Addr) (c:Value) (es:Array DictEntry) (ep:Nat) (dd:Option Addr) (sl:Array (Option Value)) :
  Meets (Builtin.«str.__eq__» ⟨[.str b u,.ref l],[]⟩) (λ_ R s=>s.heap.get? l=some {cls:=c,dict:=dd,data:=.dict es ep,slots:=sl}/\R (.ok (.ret .notImplemented)) s):=
 .of_wp λprog w A R s h=>by obtain⟨hp,g,d,tk,os⟩:=s;obtain⟨hl,h⟩:=h;wp_walk using a5f hl,wpAny_load hl;exact⟨_,rfl,h⟩
theorem FE {M:Model} {A:Around} {s:Shared} {l:Addr} {es:Array DictEntry} {ep:Nat} {dd:Option Addr} {sl:Array (Option Value)} (b:Str) (u:Tok) (ho:s.heap.get? l=some {cls:=.type "dict",dict:=dd,data:=.dict es ep,slots:=sl}) (hu:A.units<cLine):PySem.SeqAt.RcAt A s (.ref l) (.str b u) false:=λprog w E Q h=>by
 exact PySem.SeqAt.rc_eq_decline_or (k:=false) ⟨_,ho,rfl⟩ (typeIs_str s b u) (by decide) F.sub_str_dict F.slot_dict_eq F.slot_str_eq_refl
  (λ_ hq=>call_meets F.slot_dict_eq ⟨_,ho,rfl⟩ F.entry_dict_eq (F.args_dict_eq_2 _ _) (qH l (.dict es ep) dd sl b u) ⟨ho,hq⟩)
  (λ_ hq=>call_meets F.slot_str_eq_refl (typeIs_str s b u) F.entry_str_eq (F.args_str_eq_2 _ _) (sA b u l (.type "dict") es ep dd sl) ⟨ho,hq⟩)
  (λ_ hq=>a6b (rfl:isSame (.ref l) (.str b u)=pure false) hq) (.inr hu) h
def lT:PV->Bool
 |.dic _ _=>true
 |_=>false
def a4S:R2:=λx y H Q=>∃(G:Ac->Prop) (px:PV) (t:Str),Rep G H x px/\y= .str t/\(px.dep<=60\/lT px=true)/\Q (.bl (px.eqB (.str t))) H
theorem DX (ks:List d9) (xs:List PV) (t:Str):(PV.dic ks xs).eqB (.str t)=false:=by
 have h:¬(PV.dic ks xs).norm=(PV.str t).norm:=λh=>by
  rw[PV.norm.eq_def,PV.norm.eq_def] at h
  cases h
 unfold PV.eqB
 simp[h]
theorem WF {X:Cx} (hu:X.A.units+64<cLine):QOp X (compareOp .Eq) a4S:=⟨by
 intro pins s σ H x y v u Q I rx ry h
 obtain⟨G,px,t,r1,rfl,hd,q⟩:=h
 by_cases h60:px.dep<=60
 ·exact a0R (X:=X) ∅ _ _ _ _ _ _ _ _ _ I rx ry ⟨G,G,px,.str t,r1,.str _,h60,by rw[PV.dep];decide,q⟩
 ·cases px with
  | dic ks xs=>
   obtain⟨a,vs,rfl,_,e,_,_⟩:=r1.ofDic
   cases rx
   obtain⟨tk,rfl⟩:=ry
   obtain⟨_,_,ws,_,m⟩ : _<=sizeLine/\(a==sysModules)=false/\∃ws,KV (ks.zip vs) ws/\s.heap.DictOf (dY X.prog X.w) a ws:=I.hok a _ e
   obtain⟨⟨cls,dd,data,sl⟩,es,ep,ho,⟨hc,_,_⟩,hda,_⟩:=m
   simp only at hc hda
   subst hc hda
   rw[DX] at q
   exact PySem.W.cmp_ofEq (FE (M:=model X.prog X.w) t tk ho ∅ X.prog X.w X.xe _ ⟨.bl _,H,I,rfl,q⟩)
  |_=>rcases hd with z|z<;>first|exact absurd z h60|cases z⟩
def a11:P2:=λx y Q=>match y with
 |.str t=>(x.dep<=60\/lT x=true)/\Q (.bl (x.eqB (.str t)))
 |_=>False
theorem WQ:SimOp a4S (.v .fl) a11:=⟨λB W H x y px py Q K w rx ry q k=>by
 cases py with
 |str t=>exact⟨_,px,t,rx,ry.ofStr,q.1,k.atom w (.bl _) q.2⟩
 |_=>exact q.elim⟩
theorem a12{x:PV}{t:Str}{Q:PV->Prop}(h:x.dep<=60\/lT x=true)(q:Q (.bl (x.eqB (.str t)))):a11 x (.str t) Q:=⟨h,q⟩
abbrev RD.pC(x:PV):b5:=λ_ Q=>Q x
abbrev RD.aA(i:Nat):b5:=λenv Q=>match oA env i with
 |some (some x)=>Q x
 |_=>False
abbrev RD.bA(r:P2)(a b:b5):b5:=λenv Q=>a env λx=>b env λy=>r x y Q
abbrev RD.C6(r:PV->(PV->Prop)->Prop)(a:b5):b5:=λenv Q=>a env λx=>r x Q
abbrev RD.aE:qB:=λ_ Q=>Q []
abbrev RD.a8(a:b5)(r:qB):qB:=λenv Q=>a env λx=>r env λxs=>Q (x::xs)
abbrev RD.bT(r:PN)(a:qB):b5:=λenv Q=>a env λxs=>r xs Q
abbrev RD.nG(a:b5):gJ:=λenv Q=>a env λx=>match x with
 |.bl b=>Q b
 |_=>False
abbrev RD.iV(a b:b5):b5:=λenv Q=>a env λx=>match x with
 |.bl k=>Br k (b env Q) (Q (.bl false))
 |_=>False
abbrev RD.EV(a:b5):b5:=λenv Q=>a env λx=>match x with
 |.bl k=>Q (.bl (!k))
 |_=>False
abbrev RD.MH(a b:gJ):gJ:=λenv Q=>a env λk=>Br k (b env Q) (Q false)
abbrev RD.VL(a b:gJ):gJ:=λenv Q=>a env λk=>Br k (Q true) (b env Q)
abbrev RD.qX(a:gJ):gJ:=λenv Q=>a env λk=>Q (!k)
abbrev RD.pF(r r':P2)(a b c:b5):b5:=λenv Q=>a env λx=>b env λy=>r x y λz=>match z with
 |.bl k=>Br k (c env λw=>r' y w Q) (Q (.bl false))
 |_=>False
abbrev RD.oJ(a:b5):b5:=λenv Q=>a env λx=>x.flat=true/\Q x
abbrev RD.pG(a:b5):b5:=λenv Q=>a env λx=>match x with
 |.lst xs=>PV.flats xs=true/\Q (.lst xs)
 |_=>False
abbrev RD.bB(a:qB):b5:=λenv Q=>a env λxs=>Q (.lst xs)
abbrev RD.bC(a:qB):b5:=λenv Q=>a env λxs=>Q (.tup xs)
abbrev RD.pI(C:Int->Int->Prop)(f:Int->Int->PV):P2:=λx y Q=>match x,y with
 |.int i,.int j=>C i j/\Q (f i j)
 |_,_=>False
abbrev RD.C4(f:Int->Int->PV):P2:=λx y Q=>match x,y with
 |.int i,.int j=>Q (f i j)
 |_,_=>False
abbrev RD.pU(f:Int->PV):PV->(PV->Prop)->Prop:=λx Q=>match x with
 |.int i=>Q (f i)
 |_=>False
abbrev RD.A1:P2:=λx y Q=>match x,y with
 |.str i,.str j=>i.length+j.length<=sizeLine/\Q (.str (i++j))
 |_,_=>False
abbrev RD.QF:P2:=λx y Q=>match y with
 |.non=>Q (.bl x.isNon)
 |_=>False
abbrev RD.wQ:P2:=λx y Q=>match y with
 |.non=>Q (.bl (!x.isNon))
 |_=>False
abbrev RD.dZ:NJ:=λ_ Q=>Q none
abbrev RD.gN(a:b5):NJ:=λenv Q=>a env λx=>match x with
 |.int i=>Q (some i)
 |_=>False
abbrev RD.qZ(x:PV)(lo hi:Option Int)(Q:PV->Prop):Prop:=match x with
 |.lst xs=>Q (.lst (mQ xs lo hi))
 |_=>False
abbrev RD.MK(x:PV)(lo hi:Option Int)(Q:PV->Prop):Prop:=match x with
 |.tup xs=>¬(HT.sIx xs.length 0 lo=0/\HT.sIx xs.length xs.length hi=xs.length)/\Q (.tup (mQ xs lo hi))
 |_=>False
abbrev RD.dW(r:PV->Option Int->Option Int->(PV->Prop)->Prop)(a:b5)(lo hi:NJ):b5:=λenv Q=>a env λx=>lo env λl=>hi env λh=>r x l h Q
abbrev RD.kK:P2:=λx y Q=>match x,y with
 |.lst xs,.lst ys=>xs.length+ys.length<=sizeLine/\Q (.lst (xs++ys))
 |_,_=>False
abbrev RD.HX:P2:=λx y Q=>match x,y with
 |.lst xs,.int k=>-(2^63)<=k/\k<2^63/\xs.length*k.toNat<=sizeLine/\Q (.lst (List.replicate k.toNat xs).flatten)
 |_,_=>False
abbrev RD.kM:PN:=λxs Q=>match xs with
 |[.lst ys]=>Q (.int ys.length)
 |[.tup ys]=>Q (.int ys.length)
 |[.str s]=>s.length<=sizeLine/\Q (.int s.length)
 |_=>False
abbrev RD.qV:PN:=λxs Q=>match xs with
 |[.scr ns]=>Q (.int ns.length)
 |_=>False
abbrev RD.A3:PN:=λxs Q=>match xs with
 |[.int i,.int j]=>Q (.int (max i j))
 |_=>False
abbrev RD.ET:PN:=λxs Q=>match xs with
 |[.int i,.int j]=>Q (.int (min i j))
 |_=>False
abbrev RD.qW:PN:=λxs Q=>match xs with
 |[.lst ys]=>Q (.lst ys)
 |[.tup ys]=>Q (.lst ys)
 |_=>False
abbrev RD.sZ:PN:=λxs Q=>match xs with
 |[.lst ys]=>Q (.tup ys)
 |[.tup ys]=>Q (.tup ys)
 |_=>False
abbrev RD.bG:bJ:=λE env=>E.nx env
abbrev RD.aN(p q:bJ):bJ:=λE env=>p {E with nx:=q E} env
abbrev RD.l7(c:gJ)(a b:bJ):bJ:=λE env=>c env λk=>Br k (a E env) (b E env)
abbrev RD.bS(a:b5):bJ:=λE env=>a env E.rt
abbrev RD.c4(i:Nat)(a:b5):bJ:=λE env=>a env λx=>E.nx (kS env i (some x))
abbrev RD.aF(i:Nat):iS:=λx env R=>R (kS env i (some x))
abbrev RD.cL:uQ:=λxs env R=>match xs with
 |[]=>R env
 |_=>False
abbrev RD.aK(g:iS)(u:uQ):uQ:=λxs env R=>match xs with
 |x::r=>g x env λenv'=>u r env' R
 |[]=>False
abbrev RD.bU(n:Nat)(g:uQ):iS:=λx env R=>match x with
 |.tup xs=>xs.length=n/\g xs env R
 |_=>False
abbrev RD.qS(a:b5)(g:iS):bJ:=λE env=>a env λx=>g x env E.nx
abbrev RD.cW(a:b5):mS:=λenv Q=>a env λx=>match x with
 |.lst xs=>Q xs
 |_=>False
abbrev RD.F0(a:b5):mS:=λenv Q=>a env λx=>match x with
 |.tup xs=>Q xs
 |_=>False
abbrev RD.iM(a:b5):mS:=λenv Q=>a env λx=>match x with
 |.int j=>-(2^62)<=j/\j<2^62/\Q (d4 0 j.toNat)
 |_=>False
abbrev RD.kL(s:mS)(g:iS)(b:bJ):bJ:=λE env=>s env λitems=>qT g b E items env
abbrev RD.a32(T:String)(x:PV):Prop:=match x with
 |.lst _=>T="list"
 |.dic _ _=>T="dict"
 |_=>False
abbrev RD.eH(T:String)(i:Nat)(pm:PV->List PV->(PV->Prop)->Prop)(t:qB):bJ:=λE env=>match oA env i with
 |some (some x)=>RD.a32 T x/\t env λys=>pm x ys λx'=>E.nx (kS env i (some x'))
 |_=>False
abbrev RD.cB:PV->List PV->(PV->Prop)->Prop:=λx ys R=>match x,ys with
 |.lst xs,[y]=>xs.length<sizeLine/\R (.lst (xs++[y]))
 |_,_=>False
abbrev RD.QK (i:Nat) (pe pj:b5):bJ:=λE env=>pe env λy=>match oA env i with
 | some (some (.lst xs))=>pj env λj=>(match j with
  | .int k=>(match yD xs.length k with
   |some n=>E.nx (kS env i (some (.lst (xs.set n y))))
   |none=>False)
  |_=>False)
 |_=>False
abbrev RD.yE(s:mS)(g:iS)(tt:gJ)(te:b5)(cp:b9->b9):b5:=λenv Q=>s env λitems=>items.length<=sizeLine/\oB g tt te Q items [] (cp env)
abbrev RD.gO:gJ:=λ_ Q=>Q true
abbrev RD.C3:P2:=RD.C4 λi j=>.bl (decide (i=j))
abbrev RD.QH:P2:=RD.C4 λi j=>.bl (!decide (i=j))
abbrev RD.dA:P2:=RD.C4 λi j=>.int (i+j)
abbrev RD.l8:P2:=RD.C4 λi j=>.int (i-j)
abbrev RD.u7:P2:=RD.pI yF λi j=>.int (i*j)
abbrev RD.A4:P2:=RD.pI (λ_ j=>0<j) λi j=>.int (i % j)
abbrev RD.qY:P2:=RD.pI yG λi j=>.int (i^j.toNat)
abbrev RD.MI:P2:=RD.C4 λi j=>.bl (decide (i<j))
abbrev RD.ES:P2:=RD.C4 λi j=>.bl (decide (i<=j))
abbrev RD.yW:P2:=RD.C4 λi j=>.bl (decide (j<i))
abbrev RD.gM:PV->(PV->Prop)->Prop:=RD.pU λi=>.int (-i)
abbrev RD.wO(a:b5):b5:=λenv Q=>a env λx=>match x with
 |.int j=>0<=j/\j<=1000/\Q (.lst (d4 0 j.toNat))
 |_=>False
abbrev RD.wM(te:b5):G3:=λacc env K=>te env λv=>match v with
 |.int i=>acc.length<63/\K (acc++[i]) env
 |_=>False
abbrev RD.ER(s:mS)(g:iS)(tt:gJ)(a:G3):G3:=λacc env K=>s env λitems=>mR g tt a K items acc env
abbrev RD.o7(s:mS)(g:iS)(tt:gJ)(a:G3)(cp:b9->b9):b5:=λenv Q=>s env λitems=>mR g tt a (λacc _=>Q (.lst ((aV acc).map PV.int))) items [] (cp env)
abbrev RD.hZ(a:b5):mS:=λenv Q=>a env λx=>match x with
 |.lst xs=>Q (qJ xs)
 |_=>False
abbrev RD.MJ(i j:Nat)(pa:qB):bJ:=λE env=>pa env λxs=>match xs with
 |[x,y]=>E.nx (kS (kS env i (some x)) j (some y))
 |_=>False
abbrev RD.QN(a k:b5):b5:=λenv Q=>a env λx=>k env λy=>match x,y with
 |.lst xs,.int i=>i=-1/\Q (.lst xs.reverse)
 |_,_=>False
abbrev RD.xC(a b:b5):mS:=λenv Q=>a env λx=>b env λy=>match x,y with
 |.lst xs,.lst ys=>Q (zE xs ys)
 |_,_=>False
abbrev RD.QJ(a b:b5):b5:=λenv Q=>a env λx=>match x with
 |.lst xs=>Br (!xs.isEmpty) (Q (.lst xs)) (b env Q)
 |_=>False
abbrev RD.lW (i:Nat) (y:PV) (pj:b5) (Kp:b9->Prop) (env:b9):Prop:=match oA env i with
 | some (some (.lst xs))=>pj env λj=>(match j with
  | .int k=>(match yD xs.length k with
   |some n=>Kp (kS env i (some (.lst (xs.set n y))))
   |none=>False)
  |_=>False)
 |_=>False
abbrev RD.A5(i i':Nat)(pe pj pj':b5):bJ:=λE env=>pe env λt=>match t with
 |.tup [y,z]=>RD.lW i y pj (λenv1=>RD.lW i' z pj' E.nx env1) env
 |_=>False
abbrev RD.EU:P2:=λx y Q=>match x,y with
 |.bl b,.bl c=>Q (.bl (!(b==c)))
 |_,_=>False
abbrev RD.a30(s:mS)(g:iS)(tt:gJ)(tk tv:b5)(cp:b9->b9):b5:=λenv Q=>s env λitems=>yV g tt tk tv Q items [] [] (cp env)
abbrev RD.nH(a b:b5):b5:=λenv Q=>a env λx=>k6 32 x λns=>b env λy=>k6 32 y λms=>Q (.lst ((aV (oD ns ms)).map PV.int))
abbrev RD.EQ:P2:=λx y Q=>match x,y with
 |.tup xs,.tup ys=>0<xs.length/\0<ys.length/\xs.length+ys.length<=sizeLine/\Q (.tup (xs++ys))
 |_,_=>False
abbrev RD.wK(s:mS)(g:iS)(te:b5)(cp:b9->b9):b5:=λenv Q=>s env λitems=>u6 g te Q items (cp env)
theorem a6K:@RD.pC= @pC:=rfl
theorem ZM:@RD.aA= @aA:=rfl
theorem a3N:@RD.bA= @bA:=rfl
theorem a3P:@RD.C6= @C6:=rfl
theorem Z8:@RD.aE= @aE:=rfl
theorem U4:@RD.a8= @a8:=rfl
theorem a3J:@RD.bT= @bT:=rfl
theorem a3I:@RD.nG= @nG:=rfl
theorem U3:@RD.iV= @iV:=rfl
theorem UF:@RD.EV= @EV:=rfl
theorem YV:@RD.MH= @MH:=rfl
theorem a3O:@RD.VL= @VL:=rfl
theorem Z9:@RD.qX= @qX:=rfl
theorem OC:@RD.pF= @pF:=rfl
theorem U6:@RD.oJ= @oJ:=rfl
theorem OE:@RD.pG= @pG:=rfl
theorem Z5:@RD.bB= @bB:=rfl
theorem ZL:@RD.bC= @bC:=rfl
theorem a6L:@RD.pI= @pI:=rfl
theorem a3L:@RD.C4= @C4:=rfl
theorem a6M:@RD.pU= @pU:=rfl
theorem U1:@RD.A1= @A1:=rfl
theorem Z2:@RD.QF= @QF:=rfl
theorem UE:@RD.wQ= @wQ:=rfl
theorem LQ:@RD.dZ= @dZ:=rfl
theorem UG:@RD.gN= @gN:=rfl
theorem ZJ:@RD.qZ= @qZ:=rfl
theorem ZK:@RD.MK= @MK:=rfl
theorem OJ:@RD.dW= @dW:=rfl
theorem YX:@RD.kK= @kK:=rfl
theorem ZE:@RD.HX= @HX:=rfl
theorem Z4:@RD.kM= @kM:=rfl
theorem LO:@RD.qV= @qV:=rfl
theorem U7:@RD.A3= @A3:=rfl
theorem U8:@RD.ET= @ET:=rfl
theorem LP:@RD.qW= @qW:=rfl
theorem OK:@RD.sZ= @sZ:=rfl
theorem UC:@RD.bG= @bG:=rfl
theorem ZH:@RD.aN= @aN:=rfl
theorem Z1:@RD.l7= @l7:=rfl
theorem ZF:@RD.bS= @bS:=rfl
theorem ZI:@RD.c4= @c4:=rfl
theorem OM:@RD.aF= @aF:=rfl
theorem UL:@RD.cL= @cL:=rfl
theorem OL:@RD.aK= @aK:=rfl
theorem UM:@RD.bU= @bU:=rfl
theorem YW:@RD.qS= @qS:=rfl
theorem UN:@RD.cW= @cW:=rfl
theorem UO:@RD.F0= @F0:=rfl
theorem OO:@RD.iM= @iM:=rfl
theorem YZ:@RD.kL= @kL:=rfl
theorem a3Q:@RD.a32= @a32:=rfl
theorem OH:@RD.eH= @eH:=rfl
theorem HB:@RD.cB= @cB:=rfl
theorem ZD:@RD.QK= @QK:=rfl
theorem a3M:@RD.yE= @yE:=rfl
theorem UK:@RD.gO= @gO:=rfl
theorem YY:@RD.C3= @C3:=rfl
theorem Z7:@RD.QH= @QH:=rfl
theorem U0:@RD.dA= @dA:=rfl
theorem UJ:@RD.l8= @l8:=rfl
theorem UA:@RD.u7= @u7:=rfl
theorem U9:@RD.A4= @A4:=rfl
theorem UH:@RD.qY= @qY:=rfl
theorem Z6:@RD.MI= @MI:=rfl
theorem Z3:@RD.ES= @ES:=rfl
theorem Z0:@RD.yW= @yW:=rfl
theorem UB:@RD.gM= @gM:=rfl
theorem OG:@RD.wO= @wO:=rfl
theorem OD:@RD.wM= @wM:=rfl
theorem U5:@RD.ER= @ER:=rfl
theorem LR:@RD.o7= @o7:=rfl
theorem ON:@RD.hZ= @hZ:=rfl
theorem ZC:@RD.MJ= @MJ:=rfl
theorem ZG:@RD.QN= @QN:=rfl
theorem UP:@RD.xC= @xC:=rfl
theorem ZA:@RD.QJ= @QJ:=rfl
theorem OI:@RD.lW= @lW:=rfl
theorem UI:@RD.A5= @A5:=rfl
theorem UD:@RD.EU= @EU:=rfl
theorem a3K:@RD.a30= @a30:=rfl
theorem HA:@RD.nH= @nH:=rfl
theorem U2:@RD.EQ= @EQ:=rfl
theorem YU:@RD.wK= @wK:=rfl
structure NV(N:List Str)(nm:Str)(st:Stmt)(x:Str)(i:Nat):Prop where
 lo:KY (aB st) x
 h:∀ {P:Program} {w:World} {K:Aa} {mg:Str->Option Value} {base:Heap} {f:Ac} {cdv:Value} {A:Around} {outer:List Env} {s:Ab} {H:Hp} {E:XK} {pos:Pos},QE (cX jV P w K mg base N nm (aB st) f cdv A outer s H E).nox (.Name x pos) (g8 i)
theorem Y0{N:List Str}{nm:Str}{st:Stmt}{x:Str}{i:Nat}(lo:KY (aB st) x)(h1:N[i]? =some x)(h2:(x==("__debug__" : Str))=false)(h3:(x==("__classdict__" : Str))=false):NV N nm st x i:=⟨lo,F8 h1 (lo.elim Or.inl (λz=>Or.inr (Or.inl z))) h2 h3⟩
structure NVs(N:List Str)(st:Stmt):Prop where
 h:∀x∈N,((aB st).names.lookup x=some NameKind.local\/(aB st).names.lookup x=some NameKind.cell)/\(x==("__debug__" : Str))=false/\(x==("__classdict__" : Str))=false
theorem NVs.nv{N:List Str}{nm:Str}{st:Stmt}{x:Str}{i:Nat}(s:NVs N st)(e:N[i]? =some x):NV N nm st x i:=Y0 (s.h x (a0k e)).1 e (s.h x (a0k e)).2.1 (s.h x (a0k e)).2.2
theorem ZQ{N P:List Str}{sc:Scope}(a:sc.kind= .function)(b:sc.isCoroutine=false)(c:sc.isGenerator=false)(d:N.take P.length=P)(h:N.Nodup/\(∀x∈P,sc.names.lookup x=some .local\/sc.names.lookup x=some .cell)/\∀y∈sc.names,y.2≠ .free):FnScope N P sc:=⟨a,b,c,h.1,d,h.2.1,h.2.2⟩
abbrev GL(st:Stmt)(x:String):Prop:=(aB st).names.lookup (Str.ofString x)=some NameKind.globalImplicit
structure DfA(K:PySem.W.Frag)(x:Str)(st:Stmt):Prop where
 ex:∃(f:Ac) (oc:Value) (od an:Option Ac) (osl:Array (Option Value)) (kV doc pm cdv ct:Value),PySem.W.nsIn K mainGlobals x=some (some (.ref f))/\K.lookup f=some ⟨oc,od,.func (PySem.W.fnOf x x (c5 st) (aW st) (aB st) .none kV doc pm an cdv ct),osl⟩/\PySem.W.codeIn K cdv x=true/\PySem.W.keepIn K (.ref f)=true
theorem YS {K:PySem.W.Frag} {x:Str} {st:Stmt} {f:Addr} {oc:Value} {od an:Option Addr} {osl:Array (Option Value)} {kV doc pm cdv ct:Value} (a:PySem.W.nsIn K mainGlobals x=some (some (.ref f)))
  (l:K.lookup f=some ⟨oc,od,.func (PySem.W.fnOf x x (c5 st) (aW st) (aB st) .none kV doc pm an cdv ct),osl⟩) (c:PySem.W.codeIn K cdv x=true) (k:PySem.W.keepIn K (.ref f)=true):DfA K x st:=⟨⟨f,oc,od,an,osl,kV,doc,pm,cdv,ct,a,l,c,k⟩⟩
theorem DfA.df{K:PySem.W.Frag}{h:Heap}{mg:Str->Option Value}{x:Str}{st:Stmt}(D:DfA K x st)(X:K.In h)(G:h.Ns mainGlobals mg):Df K mg x st:=by
 obtain⟨f,oc,od,an,osl,kV,doc,pm,cdv,ct,a,l,c,k⟩:=D.ex
 exact a3G X G a l c k
theorem i8{N N':List Str}{osc scope:Scope}{n:Nat}{cap:List Nat}(k:scope.kind= .function)(l:N'.length=n+cap.length)(h:(∀y∈scope.names,y.2≠ .cell)/\(∀y∈scope.names,y.2= .local->scope.names.lookup y.1=some .local)/\(∀y∈scope.names,y.2= .free->osc.names.lookup y.1=some .cell)/\(N'.drop n=cap.map λi=>N.getD i Str.empty)/\(∀i∈cap,i<N.length)/\∀x∈N'.drop n,scope.names.lookup x=some NameKind.free):LcOk N osc scope N' n cap:=⟨k,h.1,h.2.1,h.2.2.1,h.2.2.2.1,h.2.2.2.2.1,h.2.2.2.2.2,l⟩
theorem a0F{f:FuncData}{ps:List Str}:∀ {us:List Value},us.length=1->(∀a:Value,bindArgs f ⟨[a],[]⟩=pure (ps.zip [a]))->bindArgs f ⟨us,[]⟩=pure (ps.zip us)
 |[a],_,k=>k a
theorem a0G{f:FuncData}{ps:List Str}:∀ {us:List Value},us.length=2->(∀a b:Value,bindArgs f ⟨[a,b],[]⟩=pure (ps.zip [a,b]))->bindArgs f ⟨us,[]⟩=pure (ps.zip us)
 |[a,b],_,k=>k a b
theorem a3Y{f:FuncData}{ps:List Str}:∀ {us:List Value},us.length=3->(∀a b c:Value,bindArgs f ⟨[a,b,c],[]⟩=pure (ps.zip [a,b,c]))->bindArgs f ⟨us,[]⟩=pure (ps.zip us)
 |[a,b,c],_,k=>k a b c
theorem a6S{f:FuncData}{ps:List Str}:∀ {us:List Value},us.length=4->(∀a b c d:Value,bindArgs f ⟨[a,b,c,d],[]⟩=pure (ps.zip [a,b,c,d]))->bindArgs f ⟨us,[]⟩=pure (ps.zip us)
 |[a,b,c,d],_,k=>k a b c d
theorem DfA.dfT{K:PySem.W.Frag}{h base:Heap}{mg:Str->Option Value}{x:Str}{st:Stmt}{t:Addr×Addr}(D:DfA K x st)(X:K.In h)(G:h.Ns mainGlobals mg)(ht:PySem.W.tabIn K x=some t)(q:PySem.W.CodeHd base t.1 t.2/\t.2∈base.life.registered):DfT K mg base x st:=by
 obtain⟨f,oc,od,an,osl,kV,doc,pm,cdv,ct,a,l,c,k⟩:=D.ex
 exact⟨f,oc,od,an,osl,kV,doc,pm,cdv,ct,a4u X G a,l,c,k,t.1,t.2,PySem.W.law_code X G ht (a4u X G a) (X _ _ l) rfl,q.1,q.2⟩
theorem jW {g:iS} {te:b5} {Q:PV->Prop}:∀ {items:List PV} {env:b9} (I:Nat->b9->Prop),I 0 env->
  (∀(i:Nat) (x:PV) (env:b9) (N:b9->Prop),items[i]? =some x->I i env->(∀env',I (i+1) env'->N env')->g x env λenv1=>te env1 λv=>match v with
   |.bl b=>Br b (N env1) (Q (.bl false))
   |_=>False)->
  (∀env,I items.length env->Q (.bl true))->u6 g te Q items env
 |[],env,I,h0,hs,hd=>hd env h0
 | x::xs,env,I,h0,hs,hd=>by
  rw[u6]
  refine hs 0 x env (λe=>u6 g te Q xs e) rfl h0 λenv' h=>?_
  exact jW (λi=>I (i+1)) h (λi y e N hy=>hs (i+1) y e N (by simpa using hy)) λe h=>hd e (by simpa using h)
abbrev LJ(st:PV->b9)(rn:(PV->Prop)->Prop)(r:bJ):PN:=λxs R=>match xs with
 |[a0]=>r {nx:=λ_=>rn R,rt:=R} (st a0)
 |_=>False
theorem N8 {N:List Str} {rm:Md} {st:PV->b9} {rn:(PV->Prop)->Prop} {r p:bJ} (e:r=p) (hs:∀a0,st a0=c0 N [a0]:=by (intros;rfl)) (hr:∀R,rn R=fP rm R:=by (intro _;rfl)):∀xs R,LJ st rn r xs R->p {nx:=λ_=>fP rm R,rt:=R} (c0 N xs):=λxs R h=>by
 match xs,h with
 | [a0],h=>
  subst e
  have h2:r {nx:=λ_=>rn R,rt:=R} (st a0):=h
  rw[hs,show (λ_:b9=>rn R)=λ_=>fP rm R from funext λ_=>hr R] at h2
  exact h2
abbrev BI(st:PV->PV->b9)(rn:(PV->Prop)->Prop)(r:bJ):PN:=λxs R=>match xs with
 |[a0,a1]=>r {nx:=λ_=>rn R,rt:=R} (st a0 a1)
 |_=>False
theorem D7 {N:List Str} {rm:Md} {st:PV->PV->b9} {rn:(PV->Prop)->Prop} {r p:bJ} (e:r=p) (hs:∀a0 a1,st a0 a1=c0 N [a0,a1]:=by (intros;rfl)) (hr:∀R,rn R=fP rm R:=by (intro _;rfl)):∀xs R,BI st rn r xs R->p {nx:=λ_=>fP rm R,rt:=R} (c0 N xs):=λxs R h=>by
 match xs,h with
 | [a0,a1],h=>
  subst e
  have h2:r {nx:=λ_=>rn R,rt:=R} (st a0 a1):=h
  rw[hs,show (λ_:b9=>rn R)=λ_=>fP rm R from funext λ_=>hr R] at h2
  exact h2
abbrev O6(st:PV->PV->PV->b9)(rn:(PV->Prop)->Prop)(r:bJ):PN:=λxs R=>match xs with
 |[a0,a1,a2]=>r {nx:=λ_=>rn R,rt:=R} (st a0 a1 a2)
 |_=>False
theorem SX {N:List Str} {rm:Md} {st:PV->PV->PV->b9} {rn:(PV->Prop)->Prop} {r p:bJ} (e:r=p) (hs:∀a0 a1 a2,st a0 a1 a2=c0 N [a0,a1,a2]:=by (intros;rfl)) (hr:∀R,rn R=fP rm R:=by (intro _;rfl)):∀xs R,O6 st rn r xs R->p {nx:=λ_=>fP rm R,rt:=R} (c0 N xs):=λxs R h=>by
 match xs,h with
 | [a0,a1,a2],h=>
  subst e
  have h2:r {nx:=λ_=>rn R,rt:=R} (st a0 a1 a2):=h
  rw[hs,show (λ_:b9=>rn R)=λ_=>fP rm R from funext λ_=>hr R] at h2
  exact h2
abbrev a6J(st:PV->PV->PV->PV->b9)(rn:(PV->Prop)->Prop)(r:bJ):PN:=λxs R=>match xs with
 |[a0,a1,a2,a3]=>r {nx:=λ_=>rn R,rt:=R} (st a0 a1 a2 a3)
 |_=>False
theorem a7K {N:List Str} {rm:Md} {st:PV->PV->PV->PV->b9} {rn:(PV->Prop)->Prop} {r p:bJ} (e:r=p) (hs:∀a0 a1 a2 a3,st a0 a1 a2 a3=c0 N [a0,a1,a2,a3]:=by (intros;rfl)) (hr:∀R,rn R=fP rm R:=by (intro _;rfl)):∀xs R,a6J st rn r xs R->p {nx:=λ_=>fP rm R,rt:=R} (c0 N xs):=λxs R h=>by
 match xs,h with
 | [a0,a1,a2,a3],h=>
  subst e
  have h2:r {nx:=λ_=>rn R,rt:=R} (st a0 a1 a2 a3):=h
  rw[hs,show (λ_:b9=>rn R)=λ_=>fP rm R from funext λ_=>hr R] at h2
  exact h2
abbrev jU(k:Nat)(x:Str)(ps:List Str)(ms:List Md)(rm:Md)(d:PN)(P:Program)(w:World)(K:Aa)(mg:Str->Option Value)(base:Heap):Prop:=Cal P w K mg base k x ps (DB K ms rm d)
structure SN(N ps:List Str)(st:Stmt):Prop where
 s:FnScope N ps (aB st)
 n:NVs N st
theorem bL {N P:List Str} {st:Stmt} (h1:(aB st).kind= .function:=by rfl) (h2:(aB st).isCoroutine=false:=by rfl) (h3:(aB st).isGenerator=false:=by rfl) (h4:N.take P.length=P:=by rfl)
  (h5:N.Nodup/\(∀x∈P,(aB st).names.lookup x=some .local\/(aB st).names.lookup x=some .cell)/\∀y∈(aB st).names,y.2≠ .free:=by decide+kernel)
  (h6:∀x∈N,((aB st).names.lookup x=some NameKind.local\/(aB st).names.lookup x=some NameKind.cell)/\(x==("__debug__" : Str))=false/\(x==("__classdict__" : Str))=false:=by decide+kernel):SN N P st:=⟨ZQ h1 h2 h3 h4 h5,⟨h6⟩⟩
def Md.lendb:Md->Bool
 |.no=>false
 |.st=>false
 |.scr=>false
 |_=>true
def Md.peekb(el:El):Md->Bool
 |.v e=>e.le el
 |.o e=>e.le el
 |.z e=>e.le el
 |.p e=>e.le el
 |.c e=>e.le el
 |_=>false
section
variable{X:Cx}{md:List Md}{e:Expr}{i:Nat}
theorem SH(h:QE X e (g8 i))(hm:(md.getD i .no).lendb=true):VE X md e .bw (aA i):=by
 cases hmd:md.getD i .no with
 |o el=>exact fB (m:=.p el) (CW h hmd) rfl
 |no=>rw[hmd] at hm;cases hm
 |st=>rw[hmd] at hm;cases hm
 |scr=>rw[hmd] at hm;cases hm
 |_=>exact fB (b7 h hmd rfl) rfl
theorem a5O(el:El)(h:QE X e (g8 i))(hm:(md.getD i .no).peekb el=true):VE X md e (.p el) (aA i):=by
 cases hmd:md.getD i .no with
 |o k=>exact fB (m:=.p k) (CW h hmd) (by rw[hmd] at hm;exact hm)
 |no=>rw[hmd] at hm;cases hm
 |st=>rw[hmd] at hm;cases hm
 |scr=>rw[hmd] at hm;cases hm
 |bw=>rw[hmd] at hm;cases hm
 |_=>exact fB (b7 h hmd rfl) (by rw[hmd] at hm;exact hm)
end
theorem dB{x:Str}(h:(x==("__debug__" : Str))=false:=by decide+kernel):(x==("__debug__" : Str))=false:=h
section
variable{P:Program}{w:World}{K:Aa}{mg:Str->Option Value}{base:Heap}{N ps:List Str}{nm:Str}{st:Stmt}{f:Ac}{cdv:Value}{A:Around}{outer:List Env}{s:Ab}{H:Hp}{E:XK}{md lm:List Md}{m rm:Md}{el:El}{x:Str}{i:Nat}{pos pos':Pos}{a:Expr}{pe:b5}
theorem vb(z:SN N ps st)(e:N[i]? =some x:=by rfl)(hm:(md.getD i .no).lendb=true:=by rfl):VE (cX jV P w K mg base N nm (aB st) f cdv A outer s H E).nox md (.Name x pos) .bw (aA i):=SH (z.n.nv e).h hm
theorem vp(el:El)(z:SN N ps st)(e:N[i]? =some x:=by rfl)(hm:(md.getD i .no).peekb el=true:=by rfl):VE (cX jV P w K mg base N nm (aB st) f cdv A outer s H E).nox md (.Name x pos) (.p el) (aA i):=a5O el (z.n.nv e).h hm
theorem vr(m:Md)(z:SN N ps st)(e:N[i]? =some x:=by rfl)(hm:md.getD i .no=m:=by rfl)(hl:m.own=false:=by rfl):VE (cX jV P w K mg base N nm (aB st) f cdv A outer s H E).nox md (.Name x pos) m (aA i):=b7 (z.n.nv e).h hm hl
theorem vk(el:El)(z:SN N ps st)(e:N[i]? =some x:=by rfl)(hm:md.getD i .no= .o el:=by rfl):VE (cX jV P w K mg base N nm (aB st) f cdv A outer s H E).nox md (.Name x pos) (.p el) (aA i):=CW (z.n.nv e).h hm
theorem qn(z:SN N ps st)(e:N[i]? =some x:=by rfl):QE (cX jV P w K mg base N nm (aB st) f cdv A outer s H E).nox (.Name x pos) (g8 i):=(z.n.nv e).h
theorem ln(z:SN N ps st)(i:Nat)(e:N[i]? =some x:=by rfl):KY (aB st) x:=(z.n.nv (nm:=x) e).lo
theorem gn(i:Nat)(z:SN N ps st)(e:N[i]? =some x:=by rfl)(hm:iL (md.set i (.v el))=true:=by rfl)(hl:i<md.length:=by decide):VG (cX jV P w K mg base N nm (aB st) f cdv A outer s H E).nox md (md.set i (.v el)) el (.Name x pos) (aF i):=XF z.s.nd e (ln z i e) (.inl rfl) hm hl
theorem mC(i:Nat)(z:SN N ps st)(he:VE (cX jV P w K mg base N nm (aB st) f cdv A outer s H E).nox md a m pe)(e:N[i]? =some x:=by rfl)(hs:swapsWith a (some (.Name x pos')) pos.line (cX jV P w K mg base N nm (aB st) f cdv A outer s H E).nox.env=pure false:=by rfl)(hm:iL (md.set i m)=true:=by rfl)(hl:i<md.length:=by decide):VS (cX jV P w K mg base N nm (aB st) f cdv A outer s H E).nox md (md.set i m) lm rm (.Assign [.Name x pos'] a pos) (c4 i pe):=a2V z.s.nd e (ln z i e) hs (.inl rfl) he hm hl
theorem gD(h:(aB st).names.lookup x=some .globalImplicit:=by decide+kernel):(cX jV P w K mg base N nm (aB st) f cdv A outer s H E).nox.env.scope.names.lookup x=some .globalImplicit:=h
theorem cD(h:(aB st).names.lookup x=some .cell:=by decide+kernel):(cX jV P w K mg base N nm (aB st) f cdv A outer s H E).nox.env.scope.names.lookup x=some .cell:=h
end
section
variable{X:Cx}{N':List Str}{scope:Scope}{C:Ac}{s1:Ab}{H1:Hp}{fp:List Ac}{i:Nat}{x:Str}{pos:Pos}{md:List Md}{m:Md}{el:El}
theorem gL(h:scope.names.lookup x=some .globalImplicit:=by decide+kernel):(b6 X N' scope C s1 H1 fp).env.scope.names.lookup x=some .globalImplicit:=a4N h
theorem qo(hi:N'[i]? =some x:=by rfl)(h:scope.names.lookup x=some .local:=by decide+kernel)(hd:(x==("__debug__" : Str))=false:=by decide+kernel)(hcd:(x==("__classdict__" : Str))=false:=by decide+kernel):QE (b6 X N' scope C s1 H1 fp) (.Name x pos) (g8 i):=RC hi h hd hcd
theorem qk(ho:X.env.scope.names.lookup x=some .cell)(hi:N'[i]? =some x:=by rfl)(h:scope.names.lookup x=some .free:=by decide+kernel)(hk:X.env.scope.kind= .function:=by rfl)(hd:(x==("__debug__" : Str))=false:=by decide+kernel)(hcd:(x==("__classdict__" : Str))=false:=by decide+kernel):QE (b6 X N' scope C s1 H1 fp) (.Name x pos) (g8 i):=RB hi h hk ho hd hcd
theorem bo(hi:N'[i]? =some x:=by rfl)(h:scope.names.lookup x=some .local:=by decide+kernel)(hd:(x==("__debug__" : Str))=false:=by decide+kernel)(hcd:(x==("__classdict__" : Str))=false:=by decide+kernel)(hm:(md.getD i .no).lendb=true:=by rfl):VE (b6 X N' scope C s1 H1 fp) md (.Name x pos) .bw (aA i):=SH (RC hi h hd hcd) hm
theorem bk(ho:X.env.scope.names.lookup x=some .cell)(hi:N'[i]? =some x:=by rfl)(h:scope.names.lookup x=some .free:=by decide+kernel)(hk:X.env.scope.kind= .function:=by rfl)(hd:(x==("__debug__" : Str))=false:=by decide+kernel)(hcd:(x==("__classdict__" : Str))=false:=by decide+kernel)(hm:(md.getD i .no).lendb=true:=by rfl):VE (b6 X N' scope C s1 H1 fp) md (.Name x pos) .bw (aA i):=SH (RB hi h hk ho hd hcd) hm
theorem gq(i:Nat)(hN:N'.Nodup:=by decide+kernel)(hi:N'[i]? =some x:=by rfl)(h:scope.names.lookup x=some .local:=by decide+kernel)(hm:iL (md.set i (.v el))=true:=by rfl)(hl:i<md.length:=by decide):VG (b6 X N' scope C s1 H1 fp) md (md.set i (.v el)) el (.Name x pos) (aF i):=fD (a4O hN hi h) hm hl
end
section
variable{X:Cx}{md:List Md}{e:Expr}{es:List Expr}{pt:qB}{p pos:Pos}{k n:Nat}{x:Str}{ps:List Str}{ms:List Md}{m rm:Md}{pn:PN}
theorem eR (hr:Room n X.A) (C:Cal X.prog X.w X.K X.mg X.base k x ps (DB X.K ms rm pn)) (ha:VA X md (e::es) ms pt) (hg:X.env.scope.names.lookup x=some .globalImplicit) (hk:k<=n:=by decide) (hm:ms.all iT=true:=by rfl) (hrm:jM rm=true:=by rfl)
  (hdb:(x==("__debug__" : Str))=false:=by decide+kernel) (he:starEach (e::es) X.env=(false,eval e X.env)::starEach es X.env:=by rfl) (hpl:(backTo pos (starEach es X.env)).any (·.1)=false:=by rfl):VE X md (.Call (.Name x p) (e::es) [] pos) rm (bT pn pt):=a2P C (hr.mono hk) hm hrm ha hg hdb he hpl
theorem a7F (hr:Room n X.A) (C:Cal X.prog X.w X.K X.mg X.base k x ps (DB X.K ms rm pn)) (ha:VA X md (e::es) ms pt) (hg:X.env.scope.names.lookup x=some .globalImplicit) (hk:k<=n:=by decide) (hm:ms.all (λm=>iT m||m== .v .sh||m== .v .fl)=true:=by rfl) (hrm:(jM rm||rm== .v .sh)=true:=by rfl)
  (hdb:(x==("__debug__" : Str))=false:=by decide+kernel) (he:starEach (e::es) X.env=(false,eval e X.env)::starEach es X.env:=by rfl) (hpl:(backTo pos (starEach es X.env)).any (·.1)=false:=by rfl):VE X md (.Call (.Name x p) (e::es) [] pos) rm (bT pn pt):=XE C (hr.mono hk) hm hrm ha hg hdb he hpl
end
section
variable{P:Program}{w:World}{K:PySem.W.Frag}{mg:Str->Option Value}{base:Heap}{N ps:List Str}{nm:Str}{st:Stmt}{f:Addr}{cdv:Value}{A:Around}{outer:List Env}{s:Shared}{H:Hp}{E:XK}{md lm:List Md}{rm:Md}{el eli:El}{x:Str}{pos pos' pos2:Pos}
 {elt target iter:Expr} {ifs:List Expr} {scope:Scope} {si:mS} {g:iS} {tt:gJ} {te:b5} {cp:b9->b9}
theorem XG (N':List Str) (n:Nat) (cap:List Nat) (mb:List Md) (hi:VI (cX jV P w K mg base N nm (aB st) f cdv A outer s H E).nox md eli target iter si) (hg:∀C s1 H1 fp,VG (b6 (cX jV P w K mg base N nm (aB st) f cdv A outer s H E).nox N' scope C s1 H1 fp) (f7 n cap md) mb eli target g) (ht:∀C s1 H1 fp,VTs (b6 (cX jV P w K mg base N nm (aB st) f cdv A outer s H E).nox N' scope C s1 H1 fp) mb ifs tt) (he:∀C s1 H1 fp,VE (b6 (cX jV P w K mg base N nm (aB st) f cdv A outer s H E).nox N' scope C s1 H1 fp) mb elt (.v el) te)
  (hcp:∀env,cp env=oC n cap env:=by intro _;rfl) (h1:scope.kind= .function:=by rfl) (h2:N'.length=n+cap.length:=by rfl)
  (h3:(∀y∈scope.names,y.2≠ .cell)/\(∀y∈scope.names,y.2= .local->scope.names.lookup y.1=some .local)/\(∀y∈scope.names,y.2= .free->(aB st).names.lookup y.1=some .cell)/\(N'.drop n=cap.map λi=>N.getD i Str.empty)/\(∀i∈cap,i<N.length)/\∀x∈N'.drop n,scope.names.lookup x=some NameKind.free:=by decide+kernel)
  (hle:jL mb (f7 n cap md)=true:=by rfl) (hbl:mD mb=true:=by rfl) (hs:∀x,foldedSetIterable iter (cX jV P w K mg base N nm (aB st) f cdv A outer s H E).nox.env x=pure x:=by intro _;rfl) :
  VE (cX jV P w K mg base N nm (aB st) f cdv A outer s H E).nox md (.ListComp elt [⟨target,iter,ifs,0⟩] scope pos) (.o el) (yE si g tt te cp):=a5M hcp rfl (i8 (osc:=aB st) h1 h2 h3) hle hbl hi hg ht he hs
theorem a55 (i:Nat) (z:SN N ps st) (N':List Str) (n:Nat) (cap:List Nat) (mb:List Md) (hi:VI (cX jV P w K mg base N nm (aB st) f cdv A outer s H E).nox md eli target iter si) (hg:∀C s1 H1 fp,VG (b6 (cX jV P w K mg base N nm (aB st) f cdv A outer s H E).nox N' scope C s1 H1 fp) (f7 n cap md) mb eli target g) (ht:∀C s1 H1 fp,VTs (b6 (cX jV P w K mg base N nm (aB st) f cdv A outer s H E).nox N' scope C s1 H1 fp) mb ifs tt) (he:∀C s1 H1 fp,VE (b6 (cX jV P w K mg base N nm (aB st) f cdv A outer s H E).nox N' scope C s1 H1 fp) mb elt (.v el) te)
  (e:N[i]? =some x:=by rfl) (hsw:swapsWith (.ListComp elt [⟨target,iter,ifs,0⟩] scope pos) (some (.Name x pos')) pos2.line (cX jV P w K mg base N nm (aB st) f cdv A outer s H E).nox.env=pure true:=by rfl) (hm:iL (md.set i (.o el))=true:=by rfl) (hl:i<md.length:=by decide)
  (hcp:∀env,cp env=oC n cap env:=by intro _;rfl) (h1:scope.kind= .function:=by rfl) (h2:N'.length=n+cap.length:=by rfl)
  (h3:(∀y∈scope.names,y.2≠ .cell)/\(∀y∈scope.names,y.2= .local->scope.names.lookup y.1=some .local)/\(∀y∈scope.names,y.2= .free->(aB st).names.lookup y.1=some .cell)/\(N'.drop n=cap.map λi=>N.getD i Str.empty)/\(∀i∈cap,i<N.length)/\∀x∈N'.drop n,scope.names.lookup x=some NameKind.free:=by decide+kernel)
  (hle:jL mb (f7 n cap md)=true:=by rfl) (hbl:mD mb=true:=by rfl) (hs:∀x,foldedSetIterable iter (cX jV P w K mg base N nm (aB st) f cdv A outer s H E).nox.env x=pure x:=by intro _;rfl) :
  VS (cX jV P w K mg base N nm (aB st) f cdv A outer s H E).nox md (md.set i (.o el)) lm rm (.Assign [.Name x pos'] (.ListComp elt [⟨target,iter,ifs,0⟩] scope pos) pos2) (c4 i (yE si g tt te cp)):=SO z.s.nd e (ln z i e) hsw (.inl rfl) hm hl hcp rfl (i8 (osc:=aB st) h1 h2 h3) hle hbl hi hg ht he hs
end
section
variable{P:Program}{w:World}{K:Aa}{mg:Str->Option Value}{base:Heap}{x:Str}{st:Stmt}{N:List Str}{k:Nat}{ms mn:List Md}{rm:Md}{p:bJ}{d:PN}{y1 y2 y3 y4 y5 y6:Str}
theorem XB (hd:∀xs R,d xs R->p {nx:=λ_=>fP rm R,rt:=R} (c0 N xs)) (D:Df K mg x st) (z:SN N [y1] st) (hbody:∀(f:Addr) (cdv:Value) (A:Around) (outer:List Env) (s:Shared) (H:Hp) (E:XK),Room k (A.deeper (envOfC x (aB st) s.heap.objs.size f cdv))->VSs (cX jV P w K mg base N x (aB st) f cdv A outer s H E).nox (cC N ms) mn [] rm (aW st) p)
  (hb:∀(kV doc pm:Value) (an:Option Ac) (cdv ct:Value) (u1:Value),bindArgs (PySem.W.fnOf x x (c5 st) (aW st) (aB st) .none kV doc pm an cdv ct) ⟨[u1],[]⟩=pure (([y1]:List Str).zip [u1]):=by (intros;rfl)) (hm:ms.all iT=true:=by rfl) (hr:jM rm=true:=by rfl) (hl:ms.length=1:=by rfl):Cal P w K mg base (k+1) x [y1] (DB K ms rm d):=
 XC hd D z.s (λkV doc pm an cdv ct us hl=>a0F hl (hb kV doc pm an cdv ct)) hm hr hl hbody
theorem DA (hd:∀xs R,d xs R->p {nx:=λ_=>fP rm R,rt:=R} (c0 N xs)) (D:Df K mg x st) (z:SN N [y1,y2] st) (hbody:∀(f:Addr) (cdv:Value) (A:Around) (outer:List Env) (s:Shared) (H:Hp) (E:XK),Room k (A.deeper (envOfC x (aB st) s.heap.objs.size f cdv))->VSs (cX jV P w K mg base N x (aB st) f cdv A outer s H E).nox (cC N ms) mn [] rm (aW st) p)
  (hb:∀(kV doc pm:Value) (an:Option Ac) (cdv ct:Value) (u1 u2:Value),bindArgs (PySem.W.fnOf x x (c5 st) (aW st) (aB st) .none kV doc pm an cdv ct) ⟨[u1,u2],[]⟩=pure (([y1,y2]:List Str).zip [u1,u2]):=by (intros;rfl)) (hm:ms.all iT=true:=by rfl) (hr:jM rm=true:=by rfl) (hl:ms.length=2:=by rfl):Cal P w K mg base (k+1) x [y1,y2] (DB K ms rm d):=
 XC hd D z.s (λkV doc pm an cdv ct us hl=>a0G hl (hb kV doc pm an cdv ct)) hm hr hl hbody
theorem YB (hd:∀xs R,d xs R->p {nx:=λ_=>fP rm R,rt:=R} (c0 N xs)) (D:Df K mg x st) (z:SN N [y1,y2,y3] st) (hbody:∀(f:Addr) (cdv:Value) (A:Around) (outer:List Env) (s:Shared) (H:Hp) (E:XK),Room k (A.deeper (envOfC x (aB st) s.heap.objs.size f cdv))->VSs (cX jV P w K mg base N x (aB st) f cdv A outer s H E).nox (cC N ms) mn [] rm (aW st) p)
  (hb:∀(kV doc pm:Value) (an:Option Ac) (cdv ct:Value) (u1 u2 u3:Value),bindArgs (PySem.W.fnOf x x (c5 st) (aW st) (aB st) .none kV doc pm an cdv ct) ⟨[u1,u2,u3],[]⟩=pure (([y1,y2,y3]:List Str).zip [u1,u2,u3]):=by (intros;rfl)) (hm:ms.all iT=true:=by rfl) (hr:jM rm=true:=by rfl) (hl:ms.length=3:=by rfl):Cal P w K mg base (k+1) x [y1,y2,y3] (DB K ms rm d):=
 XC hd D z.s (λkV doc pm an cdv ct us hl=>a3Y hl (hb kV doc pm an cdv ct)) hm hr hl hbody
theorem a7Q (hd:∀xs R,d xs R->p {nx:=λ_=>fP rm R,rt:=R} (c0 N xs)) (D:Df K mg x st) (z:SN N [y1,y2,y3,y4] st) (hbody:∀(f:Addr) (cdv:Value) (A:Around) (outer:List Env) (s:Shared) (H:Hp) (E:XK),Room k (A.deeper (envOfC x (aB st) s.heap.objs.size f cdv))->VSs (cX jV P w K mg base N x (aB st) f cdv A outer s H E).nox (cC N ms) mn [] rm (aW st) p)
  (hb:∀(kV doc pm:Value) (an:Option Ac) (cdv ct:Value) (u1 u2 u3 u4:Value),bindArgs (PySem.W.fnOf x x (c5 st) (aW st) (aB st) .none kV doc pm an cdv ct) ⟨[u1,u2,u3,u4],[]⟩=pure (([y1,y2,y3,y4]:List Str).zip [u1,u2,u3,u4]):=by (intros;rfl)) (hm:ms.all iT=true:=by rfl) (hr:jM rm=true:=by rfl) (hl:ms.length=4:=by rfl):Cal P w K mg base (k+1) x [y1,y2,y3,y4] (DB K ms rm d):=
 XC hd D z.s (λkV doc pm an cdv ct us hl=>a6S hl (hb kV doc pm an cdv ct)) hm hr hl hbody
theorem a7R (hd:∀xs R,d xs R->p {nx:=λ_=>fP rm R,rt:=R} (c0 N xs)) (D:DfT K mg base x st) (z:SN N [y1] st) (hbody:∀(f:Addr) (cdv:Value) (A:Around) (outer:List Env) (s:Shared) (H:Hp) (E:XK),DI base cdv->Room k (A.deeper (envOfC x (aB st) s.heap.objs.size f cdv))->VSs (cX jV P w K mg base N x (aB st) f cdv A outer s H E).nox (cC N ms) mn [] rm (aW st) p)
  (hb:∀(kV doc pm:Value) (an:Option Ac) (cdv ct:Value) (u1:Value),bindArgs (PySem.W.fnOf x x (c5 st) (aW st) (aB st) .none kV doc pm an cdv ct) ⟨[u1],[]⟩=pure (([y1]:List Str).zip [u1]):=by (intros;rfl)) (hm:ms.all iT=true:=by rfl) (hr:jM rm=true:=by rfl) (hl:ms.length=1:=by rfl):Cal P w K mg base (k+1) x [y1] (DB K ms rm d):=
 YC hd D z.s (λkV doc pm an cdv ct us hl=>a0F hl (hb kV doc pm an cdv ct)) hm hr hl hbody
theorem a7S (hd:∀xs R,d xs R->p {nx:=λ_=>fP rm R,rt:=R} (c0 N xs)) (D:DfT K mg base x st) (z:SN N [y1,y2,y3] st) (hbody:∀(f:Addr) (cdv:Value) (A:Around) (outer:List Env) (s:Shared) (H:Hp) (E:XK),DI base cdv->Room k (A.deeper (envOfC x (aB st) s.heap.objs.size f cdv))->VSs (cX jV P w K mg base N x (aB st) f cdv A outer s H E).nox (cC N ms) mn [] rm (aW st) p)
  (hb:∀(kV doc pm:Value) (an:Option Ac) (cdv ct:Value) (u1 u2 u3:Value),bindArgs (PySem.W.fnOf x x (c5 st) (aW st) (aB st) .none kV doc pm an cdv ct) ⟨[u1,u2,u3],[]⟩=pure (([y1,y2,y3]:List Str).zip [u1,u2,u3]):=by (intros;rfl)) (hm:ms.all iT=true:=by rfl) (hr:jM rm=true:=by rfl) (hl:ms.length=3:=by rfl):Cal P w K mg base (k+1) x [y1,y2,y3] (DB K ms rm d):=
 YC hd D z.s (λkV doc pm an cdv ct us hl=>a3Y hl (hb kV doc pm an cdv ct)) hm hr hl hbody
theorem a83 (hd:∀xs R,d xs R->p {nx:=λ_=>fP rm R,rt:=R} (c0 N xs)) (D:Df K mg x st) (z:SN N [y1] st) (hbody:∀(f:Addr) (cdv:Value) (A:Around) (outer:List Env) (s:Shared) (H:Hp) (E:XK),Room k (A.deeper (envOfC x (aB st) s.heap.objs.size f cdv))->VSs (cX jV P w K mg base N x (aB st) f cdv A outer s H E).nox (cC N ms) mn [] rm (aW st) p)
  (hb:∀(kV doc pm:Value) (an:Option Ac) (cdv ct:Value) (u1:Value),bindArgs (PySem.W.fnOf x x (c5 st) (aW st) (aB st) .none kV doc pm an cdv ct) ⟨[u1],[]⟩=pure (([y1]:List Str).zip [u1]):=by (intros;rfl)) (hm:ms.all B5=true:=by rfl) (hr:RS rm=true:=by rfl) (hl:ms.length=1:=by rfl):Cal P w K mg base (k+1) x [y1] (DB K ms rm d):=
 a5L hd D z.s (λkV doc pm an cdv ct us hl=>a0F hl (hb kV doc pm an cdv ct)) hm hr hl hbody
end
end L2
set_option maxHeartbeats 4000000
local macro_rules | `(tactic| walk_at "rp") => `(tactic| ((conv => rhs; simp only [← L2.a6K, ← L2.ZM, ← L2.a3N, ← L2.a3P, ← L2.Z8, ← L2.U4, ← L2.a3J, ← L2.a3I, ← L2.U3, ← L2.UF, ← L2.YV, ← L2.a3O, ← L2.Z9, ← L2.OC, ← L2.U6, ← L2.OE, ← L2.Z5, ← L2.ZL, ← L2.a6L, ← L2.a3L, ← L2.a6M, ← L2.U1, ← L2.Z2, ← L2.UE, ← L2.LQ, ← L2.UG, ← L2.ZJ, ← L2.ZK, ← L2.OJ, ← L2.YX, ← L2.ZE, ← L2.Z4, ← L2.LO, ← L2.U7, ← L2.U8, ← L2.LP, ← L2.OK, ← L2.UC, ← L2.ZH, ← L2.Z1, ← L2.ZF, ← L2.ZI, ← L2.OM, ← L2.UL, ← L2.OL, ← L2.UM, ← L2.YW, ← L2.UN, ← L2.UO, ← L2.OO, ← L2.YZ, ← L2.a3Q, ← L2.OH, ← L2.HB, ← L2.ZD, ← L2.a3M, ← L2.UK, ← L2.YY, ← L2.Z7, ← L2.U0, ← L2.UJ, ← L2.UA, ← L2.U9, ← L2.UH, ← L2.Z6, ← L2.Z3, ← L2.Z0, ← L2.UB, ← L2.OG, ← L2.OD, ← L2.U5, ← L2.LR, ← L2.ON, ← L2.ZC, ← L2.ZG, ← L2.UP, ← L2.ZA, ← L2.OI, ← L2.UI, ← L2.UD, ← L2.a3K, ← L2.HA, ← L2.U2, ← L2.YU]); try rfl))
namespace Lib
open PySem L2
abbrev cA:PN:=JZ
def xA:bJ:=(bS (bT EW (a8 (yE (cW (aA 1)) (aF 0) gO (bA iA (bA iA (aA 1) (aA 0)) (pC (.int 3))) (λenv=>[none,jn (oA env 0)])) aE)))
abbrev xP:{r:bJ // r=xA}:=⟨_,by unfold xA;walk_at "rp"⟩
def fN:PN:=BI (λa0 a1=>[some a0,some a1]) (λR=>R .non) xP.1
def EY: bJ:=(aN (c4 2 (pC (.str "abcdefghijklmnopqrstuvwxyz")))
 (aN (c4 3 (pC (.str "")))
 (aN (kL (iM (bT cA (a8 (aA 0) (a8 (pC (.int 8)) aE)))) (aF 4) (aN (c4 3 (bA A1 (aA 3) (bA iA (aA 2) (bT cA (a8 (aA 0) (a8 (pC (.int 26)) aE))))))
 bG))
 (bS (bA A1 (aA 3) (bA iA (aA 2) (aA 1)))))))
abbrev F6:{r:bJ // r=EY}:=⟨_,by unfold EY;walk_at "rp"⟩
def l4:PN:=BI (λa0 a1=>[some a0,some a1,none,none,none]) (λR=>R .non) F6.1
def EX: bJ:=(aN (c4 2 (bA iA (bB (a8 (pC (.int 3)) (a8 (pC (.int 6)) (a8 (pC (.int 9)) (a8 (pC (.int 14)) aE))))) (bT cA (a8 (aA 0) (a8 (pC (.int 4)) aE)))))
 (aN (c4 3 (bA dA (pC (.int 1)) (bT cA (a8 (aA 0) (a8 (bA iA (bB (a8 (pC (.int 1)) (a8 (pC (.int 1)) (a8 (pC (.int 7)) (a8 (bA qY (pC (.int 10)) (pC (.int 10))) aE))))) (bT cA (a8 (aA 0) (a8 (pC (.int 4)) aE)))) aE)))))
 (aN (c4 4 (bA iA (bB (a8 (pC (.int 0)) (a8 (C6 gM (pC (.int 3))) (a8 (C6 gM (bA qY (pC (.int 10)) (pC (.int 12)))) (a8 (bA l8 (bA qY (pC (.int 10)) (pC (.int 12))) (bA u7 (pC (.int 28)) (aA 3))) aE))))) (bT cA (a8 (aA 0) (a8 (pC (.int 4)) aE)))))
 (aN (c4 5 (bB aE))
 (aN (kL (iM (bT cA (a8 (aA 0) (a8 (bA dA (aA 1) (pC (.int 1))) aE)))) (aF 6) (aN (c4 7 (bT cA (a8 (aA 0) (a8 (aA 2) aE))))
 (aN (c4 8 (bA dA (bA dA (aA 7) (pC (.int 1))) (bT cA (a8 (aA 0) (a8 (aA 2) aE)))))
 (aN (c4 9 (bT cA (a8 (aA 0) (a8 (bA iA (bB (a8 (pC (.int 4)) (a8 (pC (.int 12)) (a8 (pC (.int 100)) (a8 (bA dA (bA qY (pC (.int 10)) (pC (.int 12))) (pC (.int 1))) aE))))) (bT cA (a8 (aA 0) (a8 (pC (.int 4)) aE)))) aE))))
 (aN (c4 10 (bC (a8 (bA dA (aA 4) (bA u7 (aA 3) (aA 7))) (a8 (bA dA (aA 4) (bA u7 (aA 3) (aA 8))) aE))))
 (aN (l7 (MH (nG (bA yW (aA 6) (pC (.int 0)))) (nG (bA C3 (bT cA (a8 (aA 0) (a8 (pC (.int 6)) aE))) (pC (.int 0))))) (aN (c4 10 (dW MK (bA iA (aA 5) (C6 gM (pC (.int 1)))) (gN (pC (.int 1))) (gN (pC (.int 3)))))
 bG) bG)
 (aN (eH "list" 5 cB (a8 (bC (a8 (bT l4 (a8 (aA 0) (a8 (aA 6) aE))) (a8 (bA iA (aA 10) (pC (.int 0))) (a8 (bA iA (aA 10) (pC (.int 1))) (a8 (aA 9) aE))))) aE))
 bG)))))))
 (bS (aA 5)))))))
abbrev F5:{r:bJ // r=EX}:=⟨_,by unfold EX;walk_at "rp"⟩
def l3:PN:=BI (λa0 a1=>[some a0,some a1,none,none,none,none,none,none,none,none,none]) (λ_=>False) F5.1
def A6:bJ:=(bS (pF ES MI (bA iA (aA 0) (pC (.int 1))) (aA 1) (bA iA (aA 0) (pC (.int 2)))))
abbrev AF:{r:bJ // r=A6}:=⟨_,by unfold A6;walk_at "rp"⟩
def fU:PN:=BI (λa0 a1=>[some a0,some a1]) (λR=>R .non) AF.1
def A9:bJ:=(bS (bT kM (a8 (yE (cW (aA 1)) (aF 0) (nG (bT fU (a8 (bA iA (aA 2) (aA 0)) (a8 (aA 1) aE)))) (aA 0) (λenv=>[none,jn (oA env 2),jn (oA env 0)])) aE)))
abbrev AI:{r:bJ // r=A9}:=⟨_,by unfold A9;walk_at "rp"⟩
def gW:PN:=O6 (λa0 a1 a2=>[some a0,some a1,some a2]) (λR=>R .non) AI.1
def rF:bJ:=(bS (o7 (cW (aA 0)) (aF 0) gO (ER (F0 (dW MK (aA 0) (gN (pC (.int 1))) (gN (pC (.int 3))))) (aF 1) gO (wM (aA 1))) (λenv=>[none,none])))
abbrev rO:{r:bJ // r=rF}:=⟨_,by unfold rF;walk_at "rp"⟩
def dF:PN:=LJ (λa0=>[some a0]) (λ_=>False) rO.1
def wZ: bJ:=(aN (c4 2 (bB aE))
 (aN (c4 3 (pC (.int 0)))
 (aN (kL (cW (bT dF (a8 (yE (cW (aA 1)) (aF 0) gO (bA iA (aA 1) (aA 0)) (λenv=>[none,jn (oA env 0)])) aE))) (aF 4) (aN (c4 5 (bT gW (a8 (aA 0) (a8 (aA 1) (a8 (aA 4) aE)))))
 (aN (l7 (nG (bA QH (aA 5) (aA 3))) (aN (eH "list" 2 cB (a8 (bC (a8 (aA 4) (a8 (aA 5) aE))) aE))
 bG) bG)
 (aN (c4 3 (aA 5))
 bG))))
 (bS (aA 2)))))
abbrev xM:{r:bJ // r=wZ}:=⟨_,by unfold wZ;walk_at "rp"⟩
def gX:PN:=BI (λa0 a1=>[some a0,some a1,none,none,none,none]) (λ_=>False) xM.1
def wR: bJ:=(aN (qS (bC (a8 (pC (.int 0)) (a8 (pC .non) aE))) (bU 2 (aK (aF 2) (aK (aF 3) cL))))
 (aN (kL (cW (bT gX (a8 (aA 0) (a8 (aA 1) aE)))) (bU 2 (aK (aF 4) (aK (aF 5) cL))) (aN (l7 (nG (bA yW (aA 5) (aA 2))) (aN (qS (bC (a8 (aA 5) (a8 (aA 4) aE))) (bU 2 (aK (aF 2) (aK (aF 3) cL))))
 bG) bG)
 bG))
 (bS (bC (a8 (aA 2) (a8 (aA 3) (a8 (pG (yE (cW (aA 1)) (aF 0) (nG (bT fU (a8 (bA iA (aA 2) (aA 0)) (a8 (aA 1) aE)))) (aA 0) (λenv=>[none,jn (oA env 3),jn (oA env 0)]))) aE)))))))
abbrev xF:{r:bJ // r=wR}:=⟨_,by unfold wR;walk_at "rp"⟩
def fL:PN:=BI (λa0 a1=>[some a0,some a1,none,none,none,none]) (λR=>R .non) xF.1
def AB:bJ:=(bS (bT EW (a8 (yE (cW (aA 1)) (bU 2 (aK (aF 0) (aK (aF 1) cL))) (nG (bT fU (a8 (aA 2) (a8 (aA 0) aE)))) (aA 1) (λenv=>[none,none,jn (oA env 0)])) aE)))
abbrev AK:{r:bJ // r=AB}:=⟨_,by unfold AB;walk_at "rp"⟩
def jA:PN:=BI (λa0 a1=>[some a0,some a1]) (λR=>R .non) AK.1
def AA:bJ:=(bS (bT A3 (a8 (pC (.int 0)) (a8 (bA l8 (bA iA (aA 0) (pC (.int 3))) (bT jA (a8 (aA 0) (a8 (aA 1) aE)))) aE))))
abbrev AJ:{r:bJ // r=AA}:=⟨_,by unfold AA;walk_at "rp"⟩
def j9:PN:=BI (λa0 a1=>[some a0,some a1]) (λR=>R .non) AJ.1
def x8:bJ:=(bS (bT EW (a8 (yE (cW (aA 0)) (aF 0) gO (bT j9 (a8 (aA 0) (a8 (aA 1) aE))) (λenv=>[none,jn (oA env 1)])) aE)))
abbrev xN:{r:bJ // r=x8}:=⟨_,by unfold x8;walk_at "rp"⟩
def gY:PN:=BI (λa0 a1=>[some a0,some a1]) (λR=>R .non) xN.1
def wW:bJ:=(bS (iV (bT pH (a8 (aA 0) (a8 (pC (.ty "int")) aE))) (EV (bT pH (a8 (aA 0) (a8 (pC (.ty "bool")) aE))))))
abbrev xI:{r:bJ // r=wW}:=⟨_,by unfold wW;walk_at "rp"⟩
def fM:PN:=LJ (λa0=>[some a0]) (λR=>R .non) xI.1
def k7:bJ:=(bS (iV (bT fM (a8 (aA 0) aE)) (pF ES ES (aA 1) (aA 0) (aA 2))))
abbrev k8:{r:bJ // r=k7}:=⟨_,by unfold k7;walk_at "rp"⟩
def bK:PN:=O6 (λa0 a1 a2=>[some a0,some a1,some a2]) (λR=>R .non) k8.1
def oK: bJ:=(aN (l7 (qX (nG (bT pH (a8 (aA 0) (a8 (pC (.ty "list")) aE))))) (bS (pC (.bl false))) bG)
 (aN (c4 2 (pC (.int 0)))
 (aN (kL (cW (aA 0)) (aF 3) (aN (l7 (qX (nG (bT bK (a8 (aA 3) (a8 (aA 2) (a8 (bA l8 (aA 1) (pC (.int 1))) aE)))))) (bS (pC (.bl false))) bG)
 (aN (c4 2 (bA dA (aA 3) (pC (.int 1))))
 bG)))
 (bS (pC (.bl true))))))
abbrev oO:{r:bJ // r=oK}:=⟨_,by unfold oK;walk_at "rp"⟩
def dP:PN:=BI (λa0 a1=>[some a0,some a1,none,none]) (λR=>R .non) oO.1
def A7:bJ:=(bS (bT dP (a8 (aA 1) (a8 (bT kM (a8 (aA 0) aE)) aE))))
abbrev AG:{r:bJ // r=A7}:=⟨_,by unfold A7;walk_at "rp"⟩
def j7:PN:=BI (λa0 a1=>[some a0,some a1]) (λR=>R .non) AG.1
def uA:bJ:=(bS (iV (bT j7 (a8 (aA 0) (a8 (aA 2) aE))) (bA ES (bA iA (bT fL (a8 (aA 0) (a8 (aA 2) aE))) (pC (.int 0))) (aA 1))))
abbrev uF:{r:bJ // r=uA}:=⟨_,by unfold uA;walk_at "rp"⟩
def fT:PN:=O6 (λa0 a1 a2=>[some a0,some a1,some a2]) (λR=>R .non) uF.1
def uD:bJ:=(bS (bT EW (a8 (yE (cW (aA 0)) (bU 2 (aK (aF 0) (aK (aF 1) cL))) gO (aA 1) (λenv=>[none,none])) aE)))
abbrev uI:{r:bJ // r=uD}:=⟨_,by unfold uD;walk_at "rp"⟩
def fX:PN:=LJ (λa0=>[some a0]) (λR=>R .non) uI.1
def K0:bJ:=(bS (bA dA (bA u7 (bT fX (a8 (aA 2) aE)) (aA 1)) (bT gY (a8 (aA 0) (a8 (aA 2) aE)))))
abbrev K9:{r:bJ // r=K0}:=⟨_,by unfold K0;walk_at "rp"⟩
def o3:PN:=O6 (λa0 a1 a2=>[some a0,some a1,some a2]) (λR=>R .non) K9.1
def rD: bJ:=(aN (c4 1 (yE (iM (bT kM (a8 (aA 0) aE))) (aF 0) gO (bC (a8 (aA 0) (a8 (bA dA (aA 0) (pC (.int 1))) (a8 (pC (.int 0)) (a8 (pC .non) aE))))) (fun env=>[none])))
 (aN (c4 2 (yE (hZ (aA 0)) (bU 2 (aK (aF 0) (aK (aF 1) cL))) (nG (bA yW (aA 1) (pC (.int 0)))) (bC (a8 (bA dA (aA 0) (pC (.int 1))) (a8 (aA 0) (a8 (pC (.int 0)) (a8 (pC .non) aE))))) (λenv=>[none,none])))
 (bS (pG (bA kK (aA 1) (QN (aA 2) (C6 gM (pC (.int 1)))))))))
abbrev rM:{r:bJ // r=rD}:=⟨_,by unfold rD;walk_at "rp"⟩
def eW:PN:=LJ (λa0=>[some a0,none,none]) (λ_=>False) rM.1
def mJ: bJ:=(aN (c4 3 (a30 (hZ (aA 1)) (bU 2 (aK (aF 0) (aK (aF 1) cL))) gO (aA 1) (oJ (aA 0)) (fun env=>[none, none])))
 (aN (c4 4 (bB aE))
 (aN (kL (hZ (aA 0)) (bU 2 (aK (aF 5) (aK (bU 4 (aK (aF 6) (aK (aF 7) (aK (aF 8) (aK (aF 9) cL))))) cL))) (aN (l7 (nG (bA a7L (aA 5) (aA 2))) (aN (eH "list" 4 cB (a8 (oJ (bC (a8 (bA wL (aA 3) (aA 8)) (a8 (bA wL (aA 3) (aA 7)) (a8 (C6 gM (aA 9)) (a8 (aA 5) aE)))))) aE))
 bG) (aN (eH "list" 4 cB (a8 (oJ (bC (a8 (bA wL (aA 3) (aA 7)) (a8 (bA wL (aA 3) (aA 8)) (a8 (aA 9) (a8 (aA 5) aE)))))) aE))
 bG))
 bG))
 (bS (aA 4)))))
abbrev mN:{r:bJ // r=mJ}:=⟨_,by unfold mJ;walk_at "rp"⟩
def cO:PN:=O6 (λa0 a1 a2=>[some a0,some a1,some a2,none,none,none,none,none,none,none]) (λ_=>False) mN.1
def lA: bJ:=(aN (MJ 3 4 (a8 (bA HX (bB (a8 (pC .non) aE)) (aA 1)) (a8 (bA HX (bB (a8 (pC .non) aE)) (aA 1)) aE)))
 (aN (QK 3 (pC (.int 0)) (aA 2))
 (aN (c4 5 (pC (.bl true)))
 (aN (HY (nG (aA 5)) (aN (c4 5 (pC (.bl false)))
 (aN (kL (cW (aA 0)) (aF 6) (aN (qS (aA 6) (bU 4 (aK (aF 7) (aK (aF 8) (aK (aF 9) (aK (aF 10) cL))))))
 (aN (l7 (MH (nG (bA wQ (bA iA (aA 3) (aA 7)) (pC .non))) (VL (nG (bA QF (bA iA (aA 3) (aA 8)) (pC .non))) (nG (bA yW (bA dA (bA iA (aA 3) (aA 7)) (aA 9)) (bA iA (aA 3) (aA 8)))))) (aN (A5 3 4 (oJ (bC (a8 (bA dA (bA iA (aA 3) (aA 7)) (aA 9)) (a8 (aA 6) aE)))) (aA 8) (aA 8))
 (aN (c4 5 (pC (.bl true)))
 bG)) bG)
 bG)))
 bG)))
 (bS (bC (a8 (aA 3) (a8 (aA 4) aE))))))))
abbrev lD:{r:bJ // r=lA}:=⟨_,by unfold lA;walk_at "rp"⟩
def cG:PN:=O6 (λa0 a1 a2=>[some a0,some a1,some a2,none,none,none,none,none,none,none,none]) (λR=>R .non) lD.1
def mI: bJ:=(aN (c4 2 (bB aE))
 (aN (HY (nG (bA wQ (bA iA (aA 0) (aA 1)) (pC .non))) (aN (qS (bA iA (aA 0) (aA 1)) (bU 4 (aK (aF 1) (aK (aF 3) (aK (aF 4) (aK (aF 5) cL))))))
 (aN (l7 (nG (bA wQ (aA 5) (pC .non))) (aN (eH "list" 2 cB (a8 (oJ (aA 5)) aE))
 bG) bG)
 bG)))
 (bS (aA 2))))
abbrev mM:{r:bJ // r=mI}:=⟨_,by unfold mI;walk_at "rp"⟩
def cN:PN:=BI (λa0 a1=>[some a0,some a1,none,none,none,none]) (λ_=>False) mM.1
def rC:bJ:=(bS (nH (aA 0) (aA 1)))
abbrev rL:{r:bJ // r=rC}:=⟨_,by unfold rC;walk_at "rp"⟩
def eV:PN:=BI (λa0 a1=>[some a0,some a1]) (λ_=>False) rL.1
def uC: bJ:=(aN (c4 2 (yE (iM (bT kM (a8 (aA 1) aE))) (aF 0) gO (bA l8 (bA iA (aA 1) (bA dA (aA 0) (pC (.int 1)))) (bA iA (aA 1) (aA 0))) (fun env=>[none, jn (oA env 0)])))
 (bS (pG (yE (xC (aA 1) (aA 2)) (bU 2 (aK (aF 0) (aK (aF 1) cL))) (nG (bA yW (aA 1) (pC (.int 0)))) (bC (a8 (aA 0) (a8 (aA 1) aE))) (λenv=>[none,none])))))
abbrev uH:{r:bJ // r=uC}:=⟨_,by unfold uC;walk_at "rp"⟩
def fW:PN:=BI (λa0 a1=>[some a0,some a1,none]) (λ_=>False) uH.1
def uB:bJ:=(bS (QJ (bT dF (a8 (aA 0) aE)) (bB (a8 (pC (.int 0)) aE))))
abbrev uG:{r:bJ // r=uB}:=⟨_,by unfold uB;walk_at "rp"⟩
def fV:PN:=LJ (λa0=>[some a0]) (λ_=>False) uG.1
def x9: bJ:=(aN (c4 4 (yE (xC (aA 2) (aA 1)) (bU 2 (aK (aF 0) (aK (aF 1) cL))) gO (bA l8 (aA 0) (bT gW (a8 (aA 2) (a8 (aA 3) (a8 (aA 1) aE))))) (fun env=>[none, none, jn (oA env 0), jn (oA env 3)])))
 (bS (bA kK (bT eW (a8 (aA 4) aE)) (bT cO (a8 (aA 0) (a8 (aA 1) (a8 (aA 3) aE)))))))
abbrev xO:{r:bJ // r=x9}:=⟨_,by unfold x9;walk_at "rp"⟩
def gZ:PN:=a6J (λa0 a1 a2 a3=>[some a0,some a1,some a2,some a3,none]) (λ_=>False) xO.1
def rB: bJ:=(aN (c4 2 (bT fV (a8 (aA 0) aE)))
 (aN (MJ 3 4 (a8 (bB aE) (a8 (bB aE) aE)))
 (aN (kL (iM (bA dA (aA 1) (pC (.int 1)))) (aF 5) (aN (c4 6 (bT gZ (a8 (aA 0) (a8 (aA 2) (a8 (bA HX (bB (a8 (aA 5) aE)) (bA l8 (bT kM (a8 (aA 2) aE)) (pC (.int 1)))) (a8 (aA 3) aE))))))
 (aN (qS (bT cG (a8 (aA 6) (a8 (bT kM (a8 (aA 2) aE)) (a8 (pC (.int 0)) aE)))) (bU 2 (aK (aF 7) (aK (aF 8) cL))))
 (aN (eH "list" 4 cB (a8 (bC (a8 (aA 3) (a8 (bT fW (a8 (aA 7) (a8 (dW qZ (aA 2) dZ (gN (C6 gM (pC (.int 1))))) aE))) aE))) aE))
 (aN (c4 3 (bT eV (a8 (aA 3) (a8 (bT cN (a8 (aA 8) (a8 (bA l8 (bT kM (a8 (aA 2) aE)) (pC (.int 1))) aE))) aE))))
 bG)))))
 (bS (aA 4)))))
abbrev rK:{r:bJ // r=rB}:=⟨_,by unfold rB;walk_at "rp"⟩
def eU:PN:=BI (λa0 a1=>[some a0,some a1,none,none,none,none,none,none,none]) (λ_=>False) rK.1
def mG:bJ:=(bS (bA iA (bT fL (a8 (aA 0) (a8 (wO (bT kM (a8 (aA 0) aE))) aE))) (pC (.int 0))))
abbrev mK:{r:bJ // r=mG}:=⟨_,by unfold mG;walk_at "rp"⟩
def c7:PN:=LJ (λa0=>[some a0]) (λR=>R .non) mK.1
def rE:bJ:=(bS (iV (bT pH (a8 (aA 0) (a8 (pC (.ty "list")) aE))) (bA C3 (bT kM (a8 (aA 0) aE)) (aA 1))))
abbrev rN:{r:bJ // r=rE}:=⟨_,by unfold rE;walk_at "rp"⟩
def dD:PN:=BI (λa0 a1=>[some a0,some a1]) (λR=>R .non) rN.1
def oN:bJ:=(bS (iV (bT pH (a8 (aA 0) (a8 (pC (.ty "tuple")) aE))) (bA C3 (bT kM (a8 (aA 0) aE)) (aA 1))))
abbrev oR:{r:bJ // r=oN}:=⟨_,by unfold oN;walk_at "rp"⟩
def cF:PN:=BI (λa0 a1=>[some a0,some a1]) (λR=>R .non) oR.1
def mH:bJ:=(bS (iV (bT cF (a8 (aA 0) (a8 (aA 2) aE))) (bA a11 (bA iA (aA 0) (pC (.int 0))) (aA 1))))
abbrev mL:{r:bJ // r=mH}:=⟨_,by unfold mH;walk_at "rp"⟩
def cM:PN:=O6 (λa0 a1 a2=>[some a0,some a1,some a2]) (λR=>R .non) mL.1
def rA:bJ:=(bS (wK (iM (bA l8 (bT kM (a8 (aA 0) aE)) (pC (.int 1)))) (aF 0) (bA MI (bA iA (bA iA (aA 1) (aA 0)) (pC (.int 0))) (bA iA (bA iA (aA 1) (bA dA (aA 0) (pC (.int 1)))) (pC (.int 0)))) (λenv=>[none,jn (oA env 0)])))
abbrev rJ:{r:bJ // r=rA}:=⟨_,by unfold rA;walk_at "rp"⟩
def eT:PN:=LJ (λa0=>[some a0]) (λR=>R .non) rJ.1
def wV: bJ:=(aN (l7 (qX (nG (bT cF (a8 (aA 0) (a8 (pC (.int 2)) aE))))) (bS (pC (.bl false))) bG)
 (aN (qS (aA 0) (bU 2 (aK (aF 1) (aK (aF 2) cL))))
 (bS (iV (bT bK (a8 (aA 1) (a8 (C6 gM (pC (.int 1000000000000))) (a8 (bA l8 (pC (.int 1000000000000)) (pC (.int 1))) aE)))) (bT bK (a8 (aA 2) (a8 (pC (.int 1)) (a8 (pC (.int 10000000000000)) aE))))))))
abbrev xH:{r:bJ // r=wV}:=⟨_,by unfold wV;walk_at "rp"⟩
def gV:PN:=LJ (λa0=>[some a0,none,none]) (λR=>R .non) xH.1
def wU: bJ:=(aN (l7 (VL (qX (nG (bT pH (a8 (aA 0) (a8 (pC (.ty "list")) aE))))) (nG (bA yW (bT kM (a8 (aA 0) aE)) (pC (.int 48))))) (bS (pC (.bl false))) bG)
 (bS (iV (wK (cW (aA 0)) (aF 0) (bT gV (a8 (aA 0) aE)) (λenv=>[none])) (bT eT (a8 (aA 0) aE)))))
abbrev xG:{r:bJ // r=wU}:=⟨_,by unfold wU;walk_at "rp"⟩
def gU:PN:=LJ (λa0=>[some a0]) (λR=>R .non) xG.1
def A8: bJ:=(aN (l7 (qX (nG (bT cF (a8 (aA 2) (a8 (pC (.int 2)) aE))))) (bS (pC (.bl false))) bG)
 (aN (qS (aA 2) (bU 2 (aK (aF 3) (aK (aF 4) cL))))
 (bS (iV (bT fM (a8 (aA 3) aE)) (iV (bT fT (a8 (aA 0) (a8 (aA 1) (a8 (aA 4) aE)))) (bA C3 (bT fN (a8 (aA 0) (a8 (aA 4) aE))) (aA 3)))))))
abbrev AH:{r:bJ // r=A8}:=⟨_,by unfold A8;walk_at "rp"⟩
def j8:PN:=O6 (λa0 a1 a2=>[some a0,some a1,some a2,none,none]) (λR=>R .non) AH.1
def oM:bJ:=(bS (bA C3 (bT o3 (a8 (aA 0) (a8 (aA 2) (a8 (aA 3) aE)))) (bA iA (bA iA (aA 1) (aA 2)) (pC (.int 0)))))
abbrev oQ:{r:bJ // r=oM}:=⟨_,by unfold oM;walk_at "rp"⟩
def cV:PN:=a6J (λa0 a1 a2 a3=>[some a0,some a1,some a2,some a3]) (λR=>R .non) oQ.1
def EZ: bJ:=(aN (c4 1 (bT eU (a8 (aA 0) (a8 (bT c7 (a8 (aA 0) aE)) aE))))
 (aN (c4 2 (yE (cW (aA 1)) (bU 2 (aK (aF 0) (aK (aF 1) cL))) gO (bC (a8 (bT fN (a8 (aA 2) (a8 (aA 0) aE))) (a8 (aA 0) aE))) (λenv=>[none,none,jn (oA env 0)])))
 (bS (bC (a8 (pC (.str "row")) (a8 (aA 2) (a8 (yE (cW (aA 1)) (bU 2 (aK (aF 0) (aK (aF 1) cL))) gO (aA 1) (λenv=>[none,none])) aE)))))))
abbrev F7:{r:bJ // r=EZ}:=⟨_,by unfold EZ;walk_at "rp"⟩
def l5:PN:=LJ (λa0=>[some a0,none,none]) (λR=>R .non) F7.1
def u9:bJ:=(bS (iV (bT dD (a8 (aA 1) (a8 (aA 2) aE))) (wK (hZ (aA 1)) (bU 2 (aK (aF 0) (aK (aF 1) cL))) (bT j8 (a8 (aA 2) (a8 (aA 0) (a8 (aA 1) aE)))) (λenv=>[none,none,jn (oA env 0)]))))
abbrev uE:{r:bJ // r=u9}:=⟨_,by unfold u9;walk_at "rp"⟩
def fS:PN:=O6 (λa0 a1 a2=>[some a0,some a1,some a2]) (λR=>R .non) uE.1
def l9: bJ:=(aN (l7 (VL (qX (nG (bT dD (a8 (aA 2) (a8 (bT kM (a8 (aA 1) aE)) aE))))) (VL (qX (nG (wK (cW (aA 2)) (aF 0) (bT gU (a8 (aA 0) aE)) (fun env=>[none])))) (nG (bA a7M (bA iA (aA 2) (C6 gM (pC (.int 1)))) (bB aE))))) (bS (pC (.bl false))) bG)
 (aN (l7 (qX (nG (wK (hZ (aA 2)) (bU 2 (aK (aF 0) (aK (aF 1) cL))) (bT cV (a8 (aA 2) (a8 (aA 3) (a8 (aA 0) (a8 (aA 1) aE))))) (λenv=>[none,none,jn (oA env 0),jn (oA env 1)])))) (bS (pC (.bl false))) bG)
 (bS (wK (hZ (dW qZ (aA 2) dZ (gN (C6 gM (pC (.int 1)))))) (bU 2 (aK (aF 0) (aK (aF 1) cL))) (bT cV (a8 (aA 2) (a8 (aA 3) (a8 (bA dA (aA 0) (pC (.int 1))) (a8 (aA 1) aE))))) (λenv=>[none,none,jn (oA env 0),jn (oA env 1)])))))
abbrev lB:{r:bJ // r=l9}:=⟨_,by unfold l9;walk_at "rp"⟩
def bO:PN:=O6 (λa0 a1 a2=>[some a0,some a1,some a2]) (λR=>R .non) lB.1
def wY: bJ:=(aN (l7 (qX (nG (bT cM (a8 (aA 1) (a8 (pC (.str "row")) (a8 (pC (.int 3)) aE)))))) (bS (pC (.bl false))) bG)
 (aN (qS (aA 1) (bU 3 (aK (aF 2) (aK (aF 3) (aK (aF 4) cL)))))
 (bS (iV (bT fS (a8 (aA 0) (a8 (aA 3) (a8 (bA dA (bT c7 (a8 (aA 0) aE)) (pC (.int 1))) aE)))) (bT bO (a8 (aA 0) (a8 (aA 3) (a8 (aA 4) aE))))))))
abbrev xK:{r:bJ // r=wY}:=⟨_,by unfold wY;walk_at "rp"⟩
def dE:PN:=BI (λa0 a1=>[some a0,some a1,none,none,none]) (λR=>R .non) xK.1
end Lib
local macro_rules | `(tactic| walk_at "w") => `(tactic| with_reducible (conv => whnf))
namespace L2
open PySem
theorem cY {g:iS} {b:bJ} {E:PEnds}:∀ {items:List PV} {env:b9} (I:Nat->b9->Prop),I 0 env->
  (∀(i:Nat) (x:PV) (env:b9) (N:b9->Prop),items[i]? =some x->I i env->(∀env',I (i+1) env'->N env')->g x env λenv1=>b {E with nx:=N,ct:=N,bk:=E.nx} env1)->
  (∀env,I items.length env->E.nx env)->qT g b E items env
 |[],env,I,h0,hs,hd=>hd env h0
 | x::xs,env,I,h0,hs,hd=>by
  rw[qT]
  refine hs 0 x env _ rfl h0 λenv' h=>?_
  exact cY (λi=>I (i+1)) h (λi y e N hy=>hs (i+1) y e N (by simpa using hy)) λe h=>hd e (by simpa using h)
theorem JI {g:iS} {b:bJ} {E:PEnds} {items:List PV} {env:b9} (J:b9->Prop) (h0:J env)
  (hs:∀(x:PV) (env:b9) (N:b9->Prop),x∈items->J env->(∀env',J env'->N env')->g x env λenv1=>b {E with nx:=N,ct:=N,bk:=E.nx} env1)
  (hd:∀env,J env->E.nx env):qT g b E items env:=
 cY (λ_=>J) h0 (λi x e N hx hJ hN=>hs x e N (a0k hx) hJ hN) hd
theorem kJ {g:iS} {tt:gJ} {te:b5} {Q:PV->Prop}:∀ {items acc:List PV} {env:b9} (I:Nat->List PV->b9->Prop),I 0 acc env->
  (∀(i:Nat) (x:PV) (acc:List PV) (env:b9) (N:List PV->b9->Prop),items[i]? =some x->I i acc env->(∀acc' env',I (i+1) acc' env'->N acc' env')->g x env λenv1=>tt env1 λk=>Br k (te env1 λv=>N (acc++[v]) env1) (N acc env1))->
  (∀acc env,I items.length acc env->Q (.lst acc))->oB g tt te Q items acc env
 |[],acc,env,I,h0,hs,hd=>hd acc env h0
 | x::xs,acc,env,I,h0,hs,hd=>by
  rw[oB]
  refine hs 0 x acc env (λacc env=>oB g tt te Q xs acc env) rfl h0 λacc' env' h=>?_
  exact kJ (λi=>I (i+1)) h (λi y a e N hy=>hs (i+1) y a e N (by simpa using hy)) λa e h=>hd a e (by simpa using h)
theorem p8 {g:iS} {tt:gJ} {te:b5} {Q:PV->Prop}:∀ {items acc:List PV} {env:b9} (f:PV->Option PV) (J:b9->Prop),J env->
  (∀(x:PV) (env:b9) (N:Option PV->b9->Prop),x∈items->J env->(∀env',J env'->N (f x) env')->g x env λenv1=>tt env1 λk=>Br k (te env1 λv=>N (some v) env1) (N none env1))->
  Q (.lst (acc++items.filterMap f))->oB g tt te Q items acc env
 |[],acc,env,f,J,h0,hs,hq=>by simpa[oB] using hq
 | x::xs,acc,env,f,J,h0,hs,hq=>by
  rw[oB]
  refine hs x env (λo e=>match o with|some v=>oB g tt te Q xs (acc++[v]) e|none=>oB g tt te Q xs acc e) a0n h0 λenv' h=>?_
  rw[a1m] at hq
  cases hf:f x with
  | none=>
   rw[hf] at hq
   exact p8 f J h (λy e N hy=>hs y e N (a0j _ hy)) hq
  | some v=>
   rw[hf] at hq
   exact p8 f J h (λy e N hy=>hs y e N (a0j _ hy)) (by simpa using hq)
theorem a7V{x y:Prop}(h:x):Br true x y:=h
theorem a7U{x y:Prop}(h:y):Br false x y:=h
theorem a6H{x y:Prop}(h:y):Br (!true) x y:=h
theorem a6G{x y:Prop}(h:x):Br (!false) x y:=h
theorem L7{p:Prop}[Decidable p]{x y:Prop}(h1:p->x)(h2:¬p->y):Br (decide p) x y:=a2Y (λh=>h1 (a3u h)) λh=>h2 (of_decide_eq_false h)
theorem a6F{p:Prop}[Decidable p]{x y:Prop}(h1:¬p->x)(h2:p->y):Br (!decide p) x y:=a2Y (λh=>h1 (by simpa using h)) λh=>h2 (by simpa using h)
theorem a38{b c:Bool}{x y:Prop}(e:b=c)(h:Br c x y):Br b x y:=e▸h
theorem HJ{lo:Int}{n:Nat}{x:PV}(h:x∈d4 lo n):∃i:Int,x= .int i/\lo<=i/\i<lo+n:=by
 unfold d4 at h
 obtain⟨k,hk,rfl⟩:=a0s.mp h
 have:=a1s.mp hk
 exact⟨_,rfl,by omega,by omega⟩
theorem hW {lo:Int} {n i:Nat} {x:PV} (h:(d4 lo n)[i]? =some x):x= .int (lo+i)/\i<n:=by
 have hi:i<n:=by
  have:=(a0e.mp h).1
  rwa [c8] at this
 rw[zW hi] at h
 exact⟨(a1i h).symm,hi⟩
theorem b8{n:Nat}(h:n<=1000):n<=sizeLine:=a1b h (by decide)
theorem fH{n:Nat}(h:n<=1000):n<sizeLine:=a2u h (by decide)
theorem qU{ns:List Int}{P:Int->Prop}{r:Int}{Q:PV->Prop}(h0:0<=r)(h1:r<ns.length)(hP:∀n∈ns,P n)(q:∀n,P n->Q (.int n)):iA (.lst (ns.map PV.int)) (.int r) Q:=by
 have h:r.toNat<ns.length:=by omega
 refine fA (z:=.int ns[r.toNat]) (bY h0 (by rw[a0h,a0a h];rfl)) (q _ (hP _ (a1h h)))
end L2
namespace Lib
open PySem L2
def rY(s:Sr):PV:=.tup [.str s.nm,.int s.b,.int s.e,.int s.w]
abbrev kY(bk:List Sr):PV:=.lst (bk.map rY)
abbrev fE(ks:List Int):PV:=.lst (ks.map PV.int)
structure BkOk(bk:List Sr)(n:Nat):Prop where
 len:bk.length<=n
 at_:∀(i:Nat) (s:Sr),bk[i]? =some s->SrOk s i
theorem LU(ks:List Int):PV.flats (ks.map PV.int)=true:=PV.flats_of λx h=>by obtain⟨s,_,rfl⟩:=a0s.mp h;rfl
def aY(s:Sr)(m:Int):Bool:=decide (s.b<=m)&&decide (m<s.e)
theorem sR {s:Sr} {m:Int} {R:PV->Prop} (h:R (.bl (aY s m))):fU [rY s,.int m] R:=by
 unfold fU rY
 tb_from(iW B6 ?_)
 fail
 unfold aY at h
 refine L7 (λh1=>?_) (λh1=>?_)
 ·rw[a2n h1,Bool.true_and] at h
  refine iW NM ?_
  fail
  exact h
 ·rw[a1y h1,a6u] at h
  exact h
theorem YJ{bk:List Sr}{k:Int}(h0:0<=k)(h1:k<bk.length):∃s,bk[k.toNat]? =some s/\kZ (bk.map rY) k=some (rY s):=by
 have h:k.toNat<bk.length:=by omega
 exact⟨bk[k.toNat],a0a h,bY h0 (by rw[a0h,a0a h];rfl)⟩
theorem vU {k:Int} {R:PV->Prop} (k0:0<=k) (k1:k<26) (h:∀nm:Str,NmOk nm k.toNat->R (.str nm)):l4 [.st,.int k] R:=by
 unfold l4
 tb_from(⟨by decide,by decide,λr r0 r1=>?_⟩)
 tb_from(⟨by omega,?_⟩)
 refine⟨by omega,?_⟩
 refine cY (λi env=>∃(sp:Str) (t:Option PV),env=[some .st,some (.int k),some (.str a5W),some (.str sp),t]/\sp.cps.toList.length=i/\∀c∈sp.cps.toList,97<=c/\c<=122) ⟨Str.ofString "",none,rfl,⋯,by intro c hc;rw[show (Str.ofString "").cps.toList=[] by decide+kernel] at hc;cases hc⟩ ?_ ?_
 ·rintro i x env N hx ⟨sp,t,rfl,hl,hc⟩ hN
  obtain⟨rfl,hi⟩:=hW hx
  tb_from(⟨by decide,by decide,λr2 r20 r21=>?_⟩)
  fail
  refine Y1 (J4 r20 r21) (by rw[J3];decide) ?_
  fail
  have l1:sp.length=i:=by show sp.cps.size=i;rw[<- hl,a0w]
  refine⟨?_,?_⟩
  ·rw[l1]
   show i+1<=sizeLine
   exact b8 ∅
  ·refine hN _ ⟨_,_,rfl,?_,?_⟩
   ·show (sp.cps++ #[97+r2.toNat]).toList.length=_
    rw[a4s,a1l,hl];rfl
   ·intro c hc'
    have hc':c∈(sp.cps++ #[97+r2.toNat]).toList:=hc'
    rw[a4s] at hc'
    rcases a1c.mp hc' with z|z
    ·exact hc c z
    ·have:c=97+r2.toNat:=by simpa using z
     omega
 ·rintro env ⟨sp,t,rfl,hl,hc⟩
  rw[c8] at hl
  fail
  refine Y1 (J4 k0 k1) (by rw[J3];decide) ?_
  fail
  have l1:sp.length=r.toNat:=by show sp.cps.size=_;rw[<- hl,a0w]
  refine⟨?_,?_⟩
  ·rw[l1]
   show r.toNat+1<=sizeLine
   exact b8 ∅
  ·refine h _ ⟨⟨sp.cps.toList,?_,by omega,hc⟩⟩
   show (sp.cps++ #[97+k.toNat]).toList=_
   rw[a4s]
structure SmOk(ks:List Int)(n:Nat):Prop where
 lt:ks.Pairwise (· < ·)
 at_:∀k∈ks,0<=k/\k<(n:Int)
theorem SmOk.len {ks:List Int} {n:Nat} (h:SmOk ks n):ks.length<=n:=by
 have h2:∀(n:Nat) (ks:List Int),ks.Pairwise (· < ·)->(∀k∈ks,0<=k/\k<(n:Int))->ks.length<=n:=by
  intro n
  induction n with
  | zero=>intro ks _ h;cases ks with
   |nil=>simp
   |cons a l=>have:=h a a0n;omega
  | succ n ih=>
   intro ks hp h
   by_cases hm:(n:Int)∈ks
   ·have:(ks.erase (n:Int)).length<=n:=by
     refine ih _ (hp.sublist List.erase_sublist) λk hk=>?_
     have hk':=a6n hk
     have nd:ks.Nodup:=hp.imp λh=>by omega
     have hne:k≠(n:Int):=λz=>by subst z;exact (List.Nodup.not_mem_erase nd) hk
     have:=h k hk'
     omega
    rw[List.length_erase_of_mem hm] at this
    omega
   ·have:=ih ks hp λk hk=>by
     have h1:=h k hk
     have:k≠(n:Int):=λz=>by subst z;exact hm hk
     omega
    omega
 exact h2 n ks h.lt h.at_
theorem ED{u x:Int}(u0:1<=u)(x1:x<=28):u*x<=u*28:=a5l x1 ∅
theorem GY{a b:Int}(h0:0<=a)(h1:a<18446744073709551616):yF a b:=.inl ⟨by omega,by omega⟩
theorem V7{P:Int->Prop}{a b c d:Int}(ha:P a)(hb:P b)(hc:P c)(hd:P d):∀n∈[a,b,c,d],P n:=by
 intro n hn
 simp only[a0l,a0y,a2i] at hn
 rcases hn with rfl|rfl|rfl|rfl<;>assumption
theorem NX {n:Nat} {R:PV -> Prop} (hn:n <= 24) (h:∀ bk:List Sr,BkOk bk n->R (kY bk)):l3 [.st,.int n] R:=by
  unfold l3
  tb_from(⟨by decide,by decide,λr1 r10 r11=>?_⟩)
  tb_from(qU (ns:=[3,6,9,14]) (P:=λx=>0<x/\x<=14) r10 r11 (V7 ∅ ∅ ∅ ∅) λsize hsz=>?_)
  tb_from(⟨⟨by decide,by decide,by decide⟩,?_⟩)
  tb_from(⟨by decide,by decide,λr2 r20 r21=>?_⟩)
  tb_from(qU (ns:=[1,1,7,10^(10:Int).toNat]) (P:=λx=>0<x/\x<=10000000000) r20 r21 (V7 ∅ ∅ ∅ (by decide)) λmany hmn=>?_)
  fail
  refine ⟨by omega, by have : (10000000000 : Int)<2^250:=by decide
                       omega,λr3 r30 r31=>?_⟩
  fail
  have u0:1<=1+r3:=by omega
  have u1:1+r3<=10000000000:=by omega
  refine⟨⟨by decide,by decide,by decide⟩,?_⟩
  tb_from(⟨⟨by decide,by decide,by decide⟩,?_⟩)
  tb_from(⟨GY (by decide) (by decide),?_⟩)
  tb_from(⟨by decide,by decide,λr4 r40 r41=>?_⟩)
  fail
  refine qU (ns:=[0,-3,-(10 ^ (12:Int).toNat),10 ^ (12:Int).toNat-28*(1+r3)]) (P:=λx=>-1000000000000<=x/\x+28*(1+r3)<=1000000000000) r40 r41
    (V7 (by omega) (by omega) (by   have : (10 : Int) ^ (12 : Int).toNat=1000000000000:=by decide
                                    rw [this]; omega) (by have : (10 : Int)^(12 : Int).toNat=1000000000000:=by decide
                                                          rw[this];omega)) λlow hlow=>?_
  fail
  refine ⟨by omega, by have : (25 : Int)<2^250:=by decide
                       omega,λr5 r50 r51=>?_⟩
  tb_from(⟨by omega,?_⟩)
  refine⟨by omega,?_⟩
  refine cY (λi env=>∃(bk:List Sr) (t1 t2 t3 t4 t5:Option PV),env=[some .st,some (.int n),some (.int size),some (.int (1+r3)),some (.int low),some (kY bk),t1,t2,t3,t4,t5]/\bk.length=i/\∀(j:Nat) (s:Sr),bk[j]? =some s->SrOk s j) ⟨[],none,none,none,none,none,rfl,rfl,by simp⟩ ?_ ?_
  · rintro i x env N hx ⟨bk,t1,t2,t3,t4,t5,rfl,hl,hb⟩ hN
    obtain⟨rfl,hi⟩:=hW hx
    fail
    refine ⟨by omega, by have : (14 : Int)<2^250:=by decide
                         omega,λb b0 b1=>?_⟩
    fail
    refine ⟨by omega, by have : (14 : Int)<2^250:=by decide
                         omega,λl l0 l1=>?_⟩
    tb_from(⟨⟨by decide,by decide,by decide⟩,?_⟩)
    tb_from(⟨by decide,by decide,λr6 r60 r61=>?_⟩)
    tb_from(qU (ns:=[4,12,100,10^(12:Int).toNat+1]) (P:=λx=>0<x/\x<=1000000000001) r60 r61 (V7 ∅ ∅ ∅ (by decide)) λwm hwm=>?_)
    fail
    refine ⟨by omega, by have : (1000000000001 : Int)<2^250:=by decide
                         omega,λwo w0 w1=>?_⟩
    tb_from(⟨GY ∅ ∅,?_⟩)
    tb_from(⟨GY ∅ ∅,?_⟩)
    fail
    have hb0:(1+r3)*b<=(1+r3)*28:=ED u0 ∅
    have he0:(1+r3)*(b+1+l)<=(1+r3)*28:=ED u0 ∅
    have hbn:0<=(1+r3)*b:=Int.mul_nonneg ∅ b0
    have hlt:(1+r3)*b<(1+r3)*(b+1+l):=Int.mul_lt_mul_of_pos_left ∅ ∅
    have add:∀(nm:Str) (p e:Int),NmOk nm (0+(i:Int)).toNat->p<e->-1000000000000<=p->e<=1000000000000->∀(t1' t2' t3' t4' t5':Option PV),
        N [some .st,some (.int n),some (.int size),some (.int (1+r3)),some (.int low),some (.lst (bk.map rY++[.tup [.str nm,.int p,.int e,.int wo]])),t1',t2',t3',t4',t5']:=by
      intro nm p e hnm h1 h2 h3 t1' t2' t3' t4' t5'
      refine hN _ ⟨bk++[⟨nm,p,e,wo⟩],t1',t2',t3',t4',t5',by simp[rY],by simp[hl],?_⟩
      intro j s hj
      by_cases hjl:j<bk.length
      · rw[a1f hjl] at hj;exact hb j s hj
      · rw [a1g ∅] at hj
        have hj0:j-bk.length=0:=by
          have:=(a0e.mp hj).1
          simp at this;omega
        rw[hj0] at hj
        simp at hj
        subst hj
        have:(0+(i:Int)).toNat=j:=by omega
        rw[this] at hnm
        exact⟨hnm,h1,h2,h3,w0,show wo<=1000000000000 by omega⟩
    have hsz:(bk.map rY).length<sizeLine:=fH (by simp;omega)
    refine L7 (λh1=>?_) (λh1=>?_)
    · fail
      refine⟨by decide,by decide,λr7 r70 r71=>?_⟩
      tb_from(L7 (λh2=>?_) (λh2=>?_))
      · fail
        obtain⟨s,es⟩ : ∃s,bk[i-1]? =some s:=⟨bk[i-1]'∅,a0a ∅⟩
        have ix:kZ (bk.map rY) (-1)=some (rY s):=by
          unfold kZ yD
          rw[if_neg (by decide),if_pos (by rw[a0g];omega)]
          show (bk.map rY)[((-1:Int)+((bk.map rY).length:Nat)).toNat]? =_
          rw[a0g,show ((-1:Int)+(bk.length:Nat)).toNat=i-1 by omega,a0h,es];rfl
        refine fA ix ?_
        unfold rY
        tb_from(⟨(by decide:¬(HT.sIx 4 0 (some 1)=0/\HT.sIx 4 4 (some 3)=4)),?_⟩)
        tb_from(⟨rfl,?_⟩)
        have so:=hb _ _ es
        refine vU ∅ ∅ λnm hnm=>?_
        tb_from(iW (z:=.int s.b) rfl ?_)
        tb_from(iW (z:=.int s.e) rfl ?_)
        fail
        exact⟨hsz,add nm s.b s.e hnm so.lt so.b0 so.e1 _ _ _ _ _⟩
      · fail
        refine⟨rfl,?_⟩
        refine vU ∅ ∅ λnm hnm=>?_
        tb_from(iW n4 ?_)
        tb_from(iW B6 ?_)
        fail
        exact⟨hsz,add nm _ _ hnm ∅ ∅ ∅ _ _ _ _ _⟩
    · fail
      refine⟨rfl,?_⟩
      refine vU ∅ ∅ λnm hnm=>?_
      tb_from(iW n4 ?_)
      tb_from(iW B6 ?_)
      fail
      exact⟨hsz,add nm _ _ hnm ∅ ∅ ∅ _ _ _ _ _⟩
  · rintro env ⟨bk,t1,t2,t3,t4,t5,rfl,hl,hb⟩
    rw[c8] at hl
    fail
    exact h bk ⟨by omega,hb⟩
end Lib
namespace L2
open PySem
theorem p6{x:PV}{t n:String}{b:Bool}{Q:PV->Prop}(h:x.kind=some t)(h2:PJ t n=some b)(q:Q (.bl b)):pH [x,.ty n] Q:=by
 unfold pH;simp only[h,h2];exact q
theorem BQ:PJ "bool" "bool"=some true:=⋯
theorem P8{i:Bool}{Q:PV->Prop}(q:Q (.bl true)):pH [.bl i,.ty "bool"] Q:=p6 rfl BQ q
theorem BJ{xs:List PV}{n:Nat}(h:∀x∈xs,x.dep<=n):(PV.lst xs).dep<=n+1:=by
 rw[PV.dep];exact Nat.succ_le_succ (PV.deps_of h)
theorem TX{xs:List PV}{n:Nat}(h:∀x∈xs,x.dep<=n):(PV.tup xs).dep<=n+1:=by
 rw[PV.dep];exact Nat.succ_le_succ (PV.deps_of h)
theorem vA(i:Int):(PV.int i).dep=0:=by rw[PV.dep]
theorem TV(ks:List Int):(PV.lst (ks.map PV.int)).dep<=1:=BJ (n:=0) λx h=>by obtain⟨k,_,rfl⟩:=a0s.mp h;rw[vA];exact a0o _
theorem HE(n:Nat):d4 0 n=((List.range n).map λ(i:Nat)=>(i:Int)).map PV.int:=by simp[d4]
end L2
namespace Lib
open PySem L2
theorem y0(n:Nat):SmOk ((List.range n).map λ(i:Nat)=>(i:Int)) n:=⟨by
 rw[a4k];exact List.pairwise_lt_range.imp λh=>by omega,λk h=>by
 obtain⟨i,hi,rfl⟩:=a0s.mp h
 have:=a1s.mp hi
 omega⟩
end Lib
local macro_rules | `(tactic| walk_at "w") => `(tactic| ((with_reducible (conv => whnf)); (repeat ((with_reducible first | refine L2.a7V ?_ | refine L2.a7U ?_ | refine L2.a6H ?_ | refine L2.a6G ?_); (with_reducible (conv => whnf))))))
namespace L2
open PySem
theorem OP {g:iS} {tt:gJ} {a:G3} {K:List Int->b9->Prop}:∀ {items:List PV} {acc:List Int} {env:b9} (I:Nat->List Int->b9->Prop),I 0 acc env->
  (∀(i:Nat) (x:PV) (acc:List Int) (env:b9) (N:List Int->b9->Prop),items[i]? =some x->I i acc env->(∀acc' env',I (i+1) acc' env'->N acc' env')->g x env λenv1=>tt env1 λk=>Br k (a acc env1 N) (N acc env1))->
  (∀acc env,I items.length acc env->K acc env)->mR g tt a K items acc env
 |[],acc,env,I,h0,hs,hd=>hd acc env h0
 | x::xs,acc,env,I,h0,hs,hd=>by
  rw[mR]
  refine hs 0 x acc env (λacc env=>mR g tt a K xs acc env) rfl h0 λacc' env' h=>?_
  exact OP (λi=>I (i+1)) h (λi y a e N hy=>hs (i+1) y a e N (by simpa using hy)) λa e h=>hd a e (by simpa using h)
end L2
namespace Lib
open PySem L2
def iZ(ss:List Sr):List Int:=ss.flatMap λs=>[s.b,s.e]
theorem BU(ss:List Sr):(iZ ss).length=2*ss.length:=by
 induction ss with
 |nil=>rfl
 |cons s ss ih=>rw[iZ,List.flatMap_cons,a1l,<- iZ,ih];simp;omega
theorem i9{ss:List Sr}{m:Int}:m∈iZ ss↔∃s∈ss,m=s.b\/m=s.e:=by
 simp[iZ]
theorem zP {ss:List Sr} {R:PV->Prop} (hl:ss.length<=31) (q:R (fE (aV (iZ ss)))):dF [kY ss] R:=by
 unfold dF
 tb_from(OP (λi acc env=>acc=iZ (ss.take i)/\∃t1 t2,env=[t1,t2]) ⟨rfl,none,none,rfl⟩ ?_ ?_)
 ·rintro i x acc env N hx ⟨rfl,t1,t2,rfl⟩ hN
  rw[a0h,a0u] at hx
  obtain⟨s,hs,rfl⟩:=hx
  have hi:i<ss.length:=(a0e.mp hs).1
  have hlen:(iZ (ss.take i)).length<=60:=by rw[BU,a2h];omega
  have he:iZ (ss.take (i+1))=iZ (ss.take i)++[s.b]++[s.e]:=by
   rw[a1q,hs,iZ,List.flatMap_append,<- iZ];simp
  unfold rY
  tb_from(⟨(by decide:¬(HT.sIx 4 0 (some 1)=0/\HT.sIx 4 4 (some 3)=4)),?_⟩)
  show mR _ _ _ _ [.int s.b,.int s.e] _ _
  rw[mR]
  tb_from(⟨by omega,?_⟩)
  show mR _ _ _ _ [.int s.e] _ _
  rw[mR]
  fail
  refine⟨by rw[a1l,List.length_singleton];omega,?_⟩
  show mR _ _ _ _ [] _ _
  rw[mR]
  exact hN _ _ ⟨he.symm,_,_,rfl⟩
 ·rintro acc env ⟨rfl,t1,t2,rfl⟩
  rw[a0g,a1x]
  exact q
def iJ(bk:List Sr)(k:Int):Sr:=(bk[k.toNat]?).getD ⟨Str.empty,0,0,0⟩
def aO(bk:List Sr)(ks:List Int):List Sr:=ks.map (iJ bk)
theorem J8{bk:List Sr}{k:Int}(h0:0<=k)(h1:k<bk.length):kZ (bk.map rY) k=some (rY (iJ bk k)):=by
 obtain⟨s,e1,e2⟩:=YJ h0 h1
 rw[e2];unfold iJ;rw[e1];rfl
def aZ(ss:List Sr)(m:Int):Nat:=ss.countP λs=>aY s m
theorem a0B {bk:List Sr} {m:Int} (ks:List Int):((ks.map PV.int).filterMap λx=>match x with|.int k=>if aY (iJ bk k) m then some (PV.int k) else none|_=>none).length=aZ (aO bk ks) m:=by
 unfold aZ aO
 induction ks with
 |nil=>rfl
 | cons k ks ih=>
  rw[a0i,a0i,List.countP_cons,<- ih,a1m]
  by_cases h:aY (iJ bk k) m=true
  ·simp[h]
  ·simp[h]
theorem zO {bk:List Sr} {ks:List Int} {m:Int} {R:PV->Prop} (hl:ks.length<=1000) (ok:∀k∈ks,0<=k/\k<(bk.length:Int)) (q:R (.int (aZ (aO bk ks) m))):gW [kY bk,fE ks,.int m] R:=by
 unfold gW
 tb_from(⟨b8 (by simpa using hl),?_⟩)
 refine p8 (λx=>match x with|.int k=>if aY (iJ bk k) m then some (PV.int k) else none|_=>none) (λenv=>∃t,env=[t,some (.int m),some (kY bk)]) ⟨_,rfl⟩ ?_ ?_
 ·rintro x env N hx ⟨t,rfl⟩ hN
  obtain⟨k,hk,rfl⟩:=a0s.mp hx
  tb_from(fA (J8 (ok k hk).1 (ok k hk).2) ?_)
  tb_from(sR ?_)
  fail
  have hN:=hN [some (.int k),some (.int m),some (kY bk)] ⟨_,rfl⟩
  dsimp only at hN
  refine a2Y (λh=>?_) (λh=>?_)
  ·rw[if_pos h] at hN;exact hN
  ·rw[if_neg (by rw[h];exact a0m)] at hN;exact hN
 ·rw[a4x]
  fail
  rw[a0B]
  exact q
end Lib
namespace L2
open PySem
theorem qK:∀(n:Nat) (ks:List Int),ks.length<=n->ks.eraseDups.length<=ks.length
 | 0,ks,h=>by
  have:ks=[]:=a3l.mp ∅
  subst this;simp
 |n+1,[],h=>by simp
 | n+1,k::ks,h=>by
  rw[List.eraseDups_cons,a1n,a1n]
  have h1:=a4j (λb=>!b==k) ks
  have:=qK n (ks.filter λb=>!b==k) (by simp at h;omega)
  omega
theorem AS(ks:List Int):(aV ks).length<=ks.length:=by
 unfold aV
 rw[(p7 _).length_eq]
 exact qK _ ks (a0o _)
theorem T7 {ds:List Int} {x:Int}:((ds.map PV.int).any λz=>z.eqB (.int x))=decide (x∈ds):=by
 rw[List.any_map]
 induction ds with
 |nil=>simp
 | cons d ds ih=>
  rw[a6f,ih]
  show ((PV.int d).eqB (.int x)||_)=_
  rw[eqB_ii]
  by_cases h:d=x
  ·subst h;simp
  ·have:¬x=d:=λz=>h z.symm
   simp[h,this]
end L2
namespace Lib
open PySem L2
theorem wC{ss:List Sr}{x y:Int}(h:∀s∈ss,aY s x=aY s y):aZ ss x=aZ ss y:=by
 unfold aZ
 exact List.countP_congr λs hs=>by rw[h s hs]
theorem fO{s:Sr}{m:Int}:aY s m=true↔s.b<=m/\m<s.e:=by
 unfold aY;simp
theorem n5{s:Sr}{x y:Int}(h:(s.b<=x↔s.b<=y)/\(x<s.e↔y<s.e)):aY s x=aY s y:=by
 rw[a4z,fO,fO,h.1,h.2]
theorem PU {ss:List Sr} {m:Int} (hm:(aV (iZ ss))[0]? =some m):aZ ss (m-1)=0:=by
 unfold aZ
 refine List.countP_eq_zero.mpr λs hs=>?_
 rw[fO]
 have hb:s.b∈aV (iZ ss):=bZ.mpr (i9.mpr ⟨s,hs,.inl rfl⟩)
 obtain⟨j,hj,ej⟩:=a2d hb
 obtain⟨h0,e0⟩:=a0e.mp hm
 have:m<=s.b:=by
  rcases Nat.eq_zero_or_pos j with z|z
  ·subst z;rw[<- ej,e0];exact a3s _
  ·have:=(a2c.mp (iI (iZ ss))) 0 j h0 hj z
   rw[e0,ej] at this;omega
 omega
theorem V0 {ss:List Sr} {i:Nat} {x m:Int} (hx:(aV (iZ ss))[i]? =some x) (hm:(aV (iZ ss))[i+1]? =some m):aZ ss x=aZ ss (m-1):=by
 obtain⟨h0,e0⟩:=a0e.mp hx
 obtain⟨h1,e1⟩:=a0e.mp hm
 have pw:=a2c.mp (iI (iZ ss))
 have lt:=pw i (i+1) h0 h1 ∅
 rw[e0,e1] at lt
 have off:∀v∈aV (iZ ss),v<=x\/m<=v:=by
  intro v hv
  obtain⟨j,hj,ej⟩:=a2d hv
  rcases Nat.lt_trichotomy j i with z|z|z
  ·have:=pw j i hj h0 z
   rw[e0,ej] at this;omega
  ·subst z;rw[e0] at ej;omega
  ·rcases a4v (Nat.succ_le_of_lt z) with z2|z2
   ·subst z2;right;rw[<- ej,<- e1];exact a3s _
   ·have:=pw (i+1) j h1 hj z2
    rw[e1,ej] at this;omega
 refine wC λs hs=>n5 ?_
 have hb:=off s.b (bZ.mpr (i9.mpr ⟨s,hs,.inl rfl⟩))
 have he:=off s.e (bZ.mpr (i9.mpr ⟨s,hs,.inr rfl⟩))
 constructor<;>constructor<;>intro h<;>omega
def MQ(ss:List Sr)(m:Int):Option PV:=if aZ ss m=aZ ss (m-1) then none else some (.tup [.int m,.int (aZ ss m)])
def uW(ss:List Sr)(i:Nat):List PV:=((aV (iZ ss)).take i).filterMap (MQ ss)
def CS(ss:List Sr):List PV:=(aV (iZ ss)).filterMap (MQ ss)
theorem S3(ss:List Sr)(i:Nat):(uW ss i).length<=2*ss.length:=by
 unfold uW
 have h1:=List.length_filterMap_le (MQ ss) ((aV (iZ ss)).take i)
 have h2:=List.length_take_le i (aV (iZ ss))
 have h3:=AS (iZ ss)
 rw[BU] at h3
 have:((aV (iZ ss)).take i).length<=(aV (iZ ss)).length:=by rw[a2h];omega
 omega
theorem MR{ss:List Sr}{i:Nat}{m:Int}(hm:(aV (iZ ss))[i]? =some m)(h:aZ ss m=aZ ss (m-1)):uW ss (i+1)=uW ss i:=by
 unfold uW
 rw[a1q,hm,List.filterMap_append]
 simp[MQ,h]
theorem S4{ss:List Sr}{i:Nat}{m:Int}(hm:(aV (iZ ss))[i]? =some m)(h:¬aZ ss m=aZ ss (m-1)):uW ss (i+1)=uW ss i++[.tup [.int m,.int (aZ ss m)]]:=by
 unfold uW
 rw[a1q,hm,List.filterMap_append]
 simp[MQ,h]
theorem xD(bk:List Sr)(ks:List Int):(aO bk ks).length=ks.length:=by simp[aO]
theorem UY {bk:List Sr} {ks:List Int} {Q:PV->Prop} {e1:Option PV} (ok:∀k∈ks,0<=k/\k<(bk.length:Int)) (q:Q (kY (aO bk ks))) :
  oB (RD.aF 0) RD.gO (RD.bA iA (RD.aA 1) (RD.aA 0)) Q (ks.map PV.int) [] [e1,some (kY bk)]:=by
 refine p8 (λx=>match x with|.int k=>some (rY (iJ bk k))|_=>none) (λenv=>∃t,env=[t,some (kY bk)]) ⟨e1,rfl⟩ ?_ ?_
 ·rintro x env N hx ⟨t,rfl⟩ hN
  obtain⟨k,hk,rfl⟩:=a0s.mp hx
  tb_from(fA (J8 (ok k hk).1 (ok k hk).2) ?_)
  exact hN _ ⟨_,rfl⟩
 ·rw [a4x]
  have:(ks.map PV.int).filterMap (λx=>match x with|.int k=>some (rY (iJ bk k))|_=>none)=(aO bk ks).map rY:=by
   rw[aO,a4f,a5v,<- a5g];rfl
  rw[this];exact q
theorem GS {bk:List Sr} {ks:List Int} {R:PV->Prop} (hl:ks.length<=31) (ok:∀k∈ks,0<=k/\k<(bk.length:Int)) (q:R (.lst (CS (aO bk ks)))):gX [kY bk,fE ks] R:=by
 unfold gX
 fail
 refine⟨b8 (by simp;omega),?_⟩
 refine UY ok ?_
 fail
 refine zP (by rw[xD];exact hl) ?_
 fail
 refine cY (λi env=>∃(b:Int) (t4 t5:Option PV),env=[some (kY bk),some (fE ks),some (.lst (uW (aO bk ks) i)),some (.int b),t4,t5]/\∀m,(aV (iZ (aO bk ks)))[i]? =some m->b=(aZ (aO bk ks) (m-1):Nat)) ⟨0,none,none,rfl,λm hm=>by rw[PU hm];rfl⟩ ?_ ?_
 ·rintro i x env N hx ⟨b,t4,t5,rfl,hb⟩ hN
  rw[a0h,a0u] at hx
  obtain⟨m,hm,rfl⟩:=hx
  have hb:=hb m hm
  subst hb
  tb_from(zO ∅ ok ?_)
  fail
  have go:∀t5,N [some (kY bk),some (fE ks),some (.lst (uW (aO bk ks) (i+1))),some (.int (aZ (aO bk ks) m)),some (.int m),t5]:=λt5=>hN _ ⟨_,_,_,rfl,λm' hm'=>by rw[V0 hm hm']⟩
  refine a6F (λh=>?_) λh=>?_
  ·tb_from(⟨rfl,?_⟩)
   fail
   refine⟨fH (n:=(uW (aO bk ks) i).length) (by have:=S3 (aO bk ks) i;rw[xD] at this;omega),?_⟩
   rw[S4 hm ∅] at go
   exact go _
  ·rw[MR hm ∅] at go
   exact go _
 ·rintro env ⟨b,t4,t5,rfl,hb⟩
  fail
  rw[a0g,uW,a1x]
  exact q
theorem a24{bk:List Sr}{i:Nat}{s:Sr}(h:bk[i]? =some s):iJ bk (i:Int)=s:=by
 unfold iJ;rw[a1v,h];rfl
def cK(ss:List Sr):Int:=(ss.map Sr.w).sum
theorem PQ {bk:List Sr} {ks:List Int} {Q:PV->Prop} {e1:Option PV} (ok:∀k∈ks,0<=k/\k<(bk.length:Int)) (q:Q (fE ((aO bk ks).map Sr.w))) :
  oB (RD.aF 0) RD.gO (RD.bA iA (RD.bA iA (RD.aA 1) (RD.aA 0)) (RD.pC (PV.int 3))) Q (ks.map PV.int) [] [e1,some (kY bk)]:=by
 refine p8 (λx=>match x with|.int k=>some (.int (iJ bk k).w)|_=>none) (λenv=>∃t,env=[t,some (kY bk)]) ⟨e1,rfl⟩ ?_ ?_
 ·rintro x env N hx ⟨t,rfl⟩ hN
  obtain⟨k,hk,rfl⟩:=a0s.mp hx
  tb_from(fA (J8 (ok k hk).1 (ok k hk).2) ?_)
  unfold rY
  tb_from(iW GK ?_)
  exact hN _ ⟨_,rfl⟩
 ·rw [a4x]
  have:(ks.map PV.int).filterMap (λx=>match x with|.int k=>some (.int (iJ bk k).w)|_=>none)=((aO bk ks).map Sr.w).map PV.int:=by
   rw[aO,a4f,a5v,a5v,<- a5g];rfl
  rw[this];exact q
theorem JB{bk:List Sr}{ks:List Int}{R:PV->Prop}(hl:ks.length<=1000)(ok:∀k∈ks,0<=k/\k<(bk.length:Int))(q:R (.int (cK (aO bk ks)))):fN [kY bk,fE ks] R:=by
 unfold fN
 tb_from(⟨b8 (by simpa using hl),?_⟩)
 refine PQ ok ?_
 fail
 exact C5 q
def FQ(ss:List Sr)(m:Int):Option (Int×Nat):=if aZ ss m=aZ ss (m-1) then none else some (m,aZ ss m)
def CT(ss:List Sr):List (Int×Nat):=(aV (iZ ss)).filterMap (FQ ss)
def WX(p:Int×Nat):PV:=.tup [.int p.1,.int p.2]
theorem II(ss:List Sr):CS ss=(CT ss).map WX:=by
 unfold CS CT
 rw[List.map_filterMap]
 congr 1;funext m
 unfold MQ FQ
 split<;>rfl
theorem qO {ss:List Sr} {m:Int} {l:Nat}:(m,l)∈CT ss↔m∈aV (iZ ss)/\aZ ss m≠aZ ss (m-1)/\l=aZ ss m:=by
 unfold CT
 rw[a4e]
 constructor
 ·rintro ⟨u,hu,e⟩
  unfold FQ at e
  split at e
  ·cases e
  ·rename_i h
   cases e
   exact⟨hu,h,rfl⟩
 ·rintro⟨hu,h,rfl⟩
  exact⟨m,hu,by unfold FQ;rw[if_neg h]⟩
theorem a2C (ss:List Sr):(CT ss).Pairwise λp q=>p.1<q.1:=by
 unfold CT
 refine List.Pairwise.filterMap (R:=λ(a b:Int)=>a<b) _ (λa b hab p hp q hq=>?_) (iI _)
 unfold FQ at hp hq
 split at hp
 ·cases hp
 ·split at hq
  ·cases hq
  ·cases hp;cases hq;exact hab
theorem BR{ss:List Sr}{m:Int}(h:∀s∈ss,¬(s.b<=m/\m<s.e)):aZ ss m=0:=by
 unfold aZ
 refine List.countP_eq_zero.mpr λs hs=>?_
 rw[fO]
 exact h s hs
theorem a0C{ss:List Sr}{s:Sr}{m:Int}(hs:s∈ss)(h:s.b<=m/\m<s.e):0<aZ ss m:=by
 unfold aZ
 exact List.countP_pos_iff.mpr ⟨s,hs,fO.mpr h⟩
theorem UZ {ss:List Sr} {m y:Int} {l:List Int} (h:(aV (iZ ss)).filter (λx=>decide (x<=m))=l++[y]):aZ ss m=aZ ss y/\y<=m/\y∈aV (iZ ss)/\∀v∈aV (iZ ss),v<=m->v<=y:=by
 have hp:(l++[y]).Pairwise (· < ·):=by rw[<- h];exact (iI _).sublist List.filter_sublist
 have hm:y∈(aV (iZ ss)).filter (λx=>decide (x<=m)):=by rw[h];simp
 have hy:y<=m:=a3u (a2l.mp hm).2
 have top:∀v∈aV (iZ ss),v<=m->v<=y:=by
  intro v hv hm
  have:v∈l++[y]:=by rw[<- h];exact a2l.mpr ⟨hv,a2n hm⟩
  rcases a1c.mp this with z|z
  ·have:=(a4m.mp hp).2.2 v z y (by simp);omega
  ·simp at z;omega
 refine⟨wC λs hs=>n5 ?_,hy,(a2l.mp hm).1,top⟩
 have hb:=top s.b (bZ.mpr (i9.mpr ⟨s,hs,.inl rfl⟩))
 have he:=top s.e (bZ.mpr (i9.mpr ⟨s,hs,.inr rfl⟩))
 constructor<;>constructor<;>intro h<;>omega
theorem V1{ss:List Sr}{m:Int}(h:(aV (iZ ss)).filter (λx=>decide (x<=m))=[]):aZ ss m=0:=BR λs hs z=>by
 have:=List.filter_eq_nil_iff.mp h s.b (bZ.mpr (i9.mpr ⟨s,hs,.inl rfl⟩))
 rw[a4d] at this
 exact this z.1
theorem JT (ss:List Sr):∀(n:Nat) (m:Int),((aV (iZ ss)).filter λx=>decide (x<=m)).length<=n->(aZ ss m=0/\∀p∈CT ss,¬p.1<=m)\/∃m',(m',aZ ss m)∈CT ss/\m'<=m/\∀p∈CT ss,p.1<=m->p.1<=m'
 | n,m,hn=>by
  rcases a5h ((aV (iZ ss)).filter λx=>decide (x<=m)) with h|⟨l,y,h⟩
  ·refine .inl ⟨V1 h,λp hp z=>?_⟩
   have:=List.filter_eq_nil_iff.mp h p.1 (qO (l:=p.2).mp hp).1
   rw[a4d] at this
   exact this z
  ·rw [a5i] at h
   obtain⟨e,hy,hu,top⟩:=UZ h
   by_cases hs:aZ ss y=aZ ss (y-1)
   ·
    have hf:((aV (iZ ss)).filter λx=>decide (x<=y-1)).length<((aV (iZ ss)).filter λx=>decide (x<=m)).length:=by
     have hsub:((aV (iZ ss)).filter λx=>decide (x<=y-1))=((aV (iZ ss)).filter λx=>decide (x<=m)).filter λx=>decide (x<=y-1):=by
      rw[List.filter_filter]
      refine List.filter_congr λx _=>?_
      by_cases hx:x<=y-1
      ·have:x<=m:=by omega
       simp[hx,this]
      ·simp[hx]
     rw[hsub]
     refine List.length_filter_lt_length_iff_exists.mpr ⟨y,by rw[h];simp,by simp;omega⟩
    match n,hn with
    |0,hn=>omega
    | n+1,hn=>
     have key:∀p∈CT ss,p.1<=m->p.1<=y-1:=λp hp hm=>by
      obtain⟨h1,h2,h3⟩:=qO (l:=p.2).mp hp
      have:=top _ h1 hm
      have:p.1≠y:=λz=>h2 (by rw[z];exact hs)
      omega
     rcases JT ss n (y-1) ∅ with ⟨z1,z2⟩|⟨m',z1,z2,z3⟩
     ·exact .inl ⟨by rw[e,hs,z1],λp hp hm=>z2 p hp (key p hp hm)⟩
     ·exact .inr ⟨m',by rw[e,hs];exact z1,by omega,λp hp hm=>z3 p hp (key p hp hm)⟩
   ·exact .inr ⟨y,by rw[e];exact qO.mpr ⟨hu,hs,rfl⟩,hy,λp hp hm=>top _ (qO (l:=p.2).mp hp).1 hm⟩
theorem JU(ss:List Sr)(m:Int):(aZ ss m=0/\∀p∈CT ss,¬p.1<=m)\/∃m',(m',aZ ss m)∈CT ss/\m'<=m/\∀p∈CT ss,p.1<=m->p.1<=m':=JT ss _ m (a0o _)
structure Crowd(ss:List Sr)(G:Nat)(f:Option Int):Prop where
 top:∀m,aZ ss m<=G
 non:f=none->G=0
 fst:∀m0,f=some m0->aZ ss m0=G/\0<G/\∀m<m0,aZ ss m<G
theorem Crowd.uniq {ss:List Sr} {G G':Nat} {f f':Option Int} (h:Crowd ss G f) (h':Crowd ss G' f'):G=G'/\f=f':=by
 have le:∀ {G G':Nat} {f f':Option Int},Crowd ss G f->Crowd ss G' f'->G<=G':=by
  intro G G' f f' h h'
  cases f with
  |none=>rw[h.non rfl];omega
  |some m=>rw[<- (h.fst m rfl).1];exact h'.top m
 have e:G=G':=Nat.le_antisymm (le h h') (le h' h)
 subst e
 refine⟨rfl,?_⟩
 cases f with
 | none=>cases f' with
  |none=>rfl
  |some m=>have:=h.non rfl;have:=(h'.fst m rfl).2.1;omega
 | some m=>cases f' with
  |none=>have:=h'.non rfl;have:=(h.fst m rfl).2.1;omega
  | some m'=>
   obtain⟨a1,a2,a3⟩:=h.fst m rfl
   obtain⟨b1,b2,b3⟩:=h'.fst m' rfl
   have:¬m<m':=λz=>by have:=b3 m z;omega
   have:¬m'<m:=λz=>by have:=a3 m' z;omega
   rw[show m=m' by omega]
theorem Crowd.none_nil{ss:List Sr}{G:Nat}(h:Crowd ss G none)(lt:∀s∈ss,s.b<s.e):ss=[]:=by
 rw[List.eq_nil_iff_forall_not_mem]
 intro s hs
 have:=a0C hs (m:=s.b) ⟨a3s _,lt s hs⟩
 have:=h.top s.b
 have:=h.non rfl
 omega
def jQ:Option Int->PV
 |none=>.non
 |some m=>.int m
def QD(bk:List Sr)(ks:List Int):Option Int->List Int
 |none=>[]
 |some m=>ks.filter λk=>aY (iJ bk k) m
structure CrSo(sl:List (Int×Nat))(i:Nat)(g:Nat)(f:Option Int):Prop where
 top:∀j p,j<i->sl[j]? =some p->p.2<=g
 non:f=none->g=0
 fst:∀m0,f=some m0->0<g/\∃j0,j0<i/\sl[j0]? =some (m0,g)/\∀j p,j<j0->sl[j]? =some p->p.2<g
theorem CrSo.crowd {ss:List Sr} {g:Nat} {f:Option Int} (h:CrSo (CT ss) (CT ss).length g f):Crowd ss g f:=by
 have at_:∀ {p:Int×Nat},p∈CT ss->∃j,j<(CT ss).length/\(CT ss)[j]? =some p:=λhp=>by
  obtain⟨j,hj,e⟩:=a2d hp
  exact⟨j,hj,by rw[a0a hj,e]⟩
 refine⟨λm=>?_,h.non,λm0 e=>?_⟩
 ·rcases JU ss m with ⟨z,_⟩|⟨m',hp,_⟩
  ·omega
  ·obtain⟨j,hj,e⟩:=at_ hp
   exact h.top j _ hj e
 ·obtain ⟨g0,j0,hj0,ej0,bef⟩:=h.fst m0 e
  have hm0:=qO.mp (a0k ej0)
  refine⟨hm0.2.2.symm,g0,λm hm=>?_⟩
  rcases JU ss m with ⟨z,_⟩|⟨m',hp,hle,_⟩
  ·omega
  ·obtain ⟨j,hj,ej⟩:=at_ hp
   refine bef j _ ?_ ej
   refine a6h λhle2=>?_
   rcases a4v hle2 with z|z
   ·subst z;rw[ej0] at ej;cases ej;omega
   ·have:=(a2c.mp (a2C ss)) j0 j hj0 hj z
    rw[(a0e.mp ej0).2,(a0e.mp ej).2] at this
    dsimp only at this
    omega
theorem CrSo.grow {sl:List (Int×Nat)} {i g l:Nat} {m:Int} {f:Option Int} (h:CrSo sl i g f) (e:sl[i]? =some (m,l)) (hl:g<l):CrSo sl (i+1) l (some m):=by
 refine⟨λj p hj ej=>?_,λz=>(by cases z),λm0 z=>?_⟩
 ·rcases a4v (Nat.le_of_lt_succ hj) with z|z
  ·subst z;rw[e] at ej;cases ej;exact a0o _
  ·have:=h.top j p z ej;omega
 ·cases z
  refine⟨by omega,i,by omega,e,λj p hj ej=>?_⟩
  have:=h.top j p hj ej;omega
theorem CrSo.stay {sl:List (Int×Nat)} {i g l:Nat} {m:Int} {f:Option Int} (h:CrSo sl i g f) (e:sl[i]? =some (m,l)) (hl:¬g<l):CrSo sl (i+1) g f:=by
 refine⟨λj p hj ej=>?_,h.non,λm0 z=>?_⟩
 ·rcases a4v (Nat.le_of_lt_succ hj) with z|z
  ·subst z;rw[e] at ej;cases ej;show l<=g;omega
  ·exact h.top j p z ej
 ·obtain⟨g0,j0,h1,h2,h3⟩:=h.fst m0 z
  exact⟨g0,j0,by omega,h2,h3⟩
theorem vT {bk:List Sr} {ks:List Int} {R:PV->Prop} (hl:ks.length<=31) (ok:∀k∈ks,0<=k/\k<(bk.length:Int)) (lt:∀s∈aO bk ks,s.b<s.e)
  (q:∀G f,Crowd (aO bk ks) G f->R (.tup [.int (G:Nat),jQ f,fE (QD bk ks f)])):fL [kY bk,fE ks] R:=by
 unfold fL
 tb_from(⟨rfl,?_⟩)
 tb_from(GS hl ok ?_)
 rw[II]
 fail
 refine cY (λi env=>∃(g:Nat) (f:Option Int) (t4 t5:Option PV),env=[some (kY bk),some (fE ks),some (.int g),some (jQ f),t4,t5]/\CrSo (CT (aO bk ks)) i g f)
  ⟨0,none,none,none,rfl,⟨λj p hj _=>absurd hj (Nat.not_lt_zero j),λ_=>rfl,λ_ z=>(by cases z)⟩⟩ ?_ ?_
 ·rintro i x env N hx ⟨g,f,t4,t5,rfl,hc⟩ hN
  rw[a0h,a0u] at hx
  obtain⟨⟨m,l⟩,hp,rfl⟩:=hx
  unfold WX
  tb_from(⟨rfl,?_⟩)
  tb_from(L7 (λh=>?_) (λh=>?_))
  ·tb_from(⟨rfl,?_⟩)
   exact hN _ ⟨l,some m,_,_,rfl,hc.grow hp ∅⟩
  ·exact hN _ ⟨g,f,_,_,rfl,hc.stay hp ∅⟩
 ·rintro env ⟨g,f,t4,t5,rfl,hc⟩
  rw[a0g] at hc
  have cr:=hc.crowd
  fail
  refine⟨b8 (by rw[a0g];omega),?_⟩
  cases f with
  | none=>
   have hn:=cr.none_nil lt
   have hk:ks=[]:=by
    unfold aO at hn
    exact List.map_eq_nil_iff.mp hn
   subst hk
   exact⟨rfl,q g none cr⟩
  | some m=>
   refine p8 (λx=>match x with|.int k=>if aY (iJ bk k) m then some (PV.int k) else none|_=>none) (λenv=>∃t,env=[t,some (.int m),some (kY bk)]) ⟨_,rfl⟩ ?_ ?_
   ·rintro x env N hx ⟨t,rfl⟩ hN
    obtain⟨k,hk,rfl⟩:=a0s.mp hx
    tb_from(fA (J8 (ok k hk).1 (ok k hk).2) ?_)
    tb_from(sR ?_)
    fail
    have hN:=hN [some (.int k),some (.int m),some (kY bk)] ⟨_,rfl⟩
    dsimp only at hN
    refine a2Y (λh=>?_) (λh=>?_)
    ·rw[if_pos h] at hN;exact hN
    ·rw[if_neg (by rw[h];exact a0m)] at hN;exact hN
   ·have e1:(ks.map PV.int).filterMap (λx=>match x with|.int k=>if aY (iJ bk k) m then some (PV.int k) else none|_=>none)=(QD bk ks (some m)).map PV.int:=by
     unfold QD
     rw[a4f,<- a5g,List.filterMap_filter]
     rfl
    rw[a4x,e1]
    exact⟨LU _,q g (some m) cr⟩
theorem nJ{bk:List Sr}{ks:List Int}(ok:∀k∈ks,0<=k/\k<(bk.length:Int)){s:Sr}(h:s∈aO bk ks):s∈bk:=by
 obtain⟨k,hk,rfl⟩:=a0s.mp h
 obtain⟨h0,h1⟩:=ok k hk
 refine a0k (i:=k.toNat) ?_
 unfold iJ
 rw[a0a ∅];rfl
abbrev Pr:=Int×Int
def F1(p:Pr):PV:=.tup [.int p.1,.int p.2]
abbrev eI(pp:List Pr):PV:=.lst (pp.map F1)
theorem OS(pp:List Pr):PV.flats (pp.map F1)=true:=PV.flats_of λx h=>by obtain⟨s,_,rfl⟩:=a0s.mp h;rfl
structure PpOk(pp:List Pr)(P:Int->Int->Prop)(n:Nat):Prop where
 lt:pp.Pairwise λa b=>a.1<b.1
 at_:∀p∈pp,P p.1 p.2
 len:pp.length<=n
def jO(s:Sr)(pp:List Pr):Int:=((pp.filter λp=>aY s p.1).map (·.2)).sum
def gE(s:Sr)(pp:List Pr):Int:=max 0 (s.w-jO s pp)
def iE(bk:List Sr)(pp:List Pr):Int:=(bk.map λs=>gE s pp).sum
theorem PP{s:Sr}{pp:List Pr}:(pp.map F1).filterMap (λx=>match x with|.tup [.int m,.int v]=>if aY s m then some (PV.int v) else none|_=>none)=((pp.filter λp=>aY s p.1).map (·.2)).map PV.int:=by
 rw[a4f,a5v,<- a5g,List.filterMap_filter]
 rfl
theorem L9 {s:Sr} {pp:List Pr} {R:PV->Prop} (hl:pp.length<=1000) (q:R (.int (jO s pp))):jA [rY s,eI pp] R:=by
 unfold jA
 fail
 refine⟨b8 (by rw[a0g];omega),?_⟩
 refine p8 (λx=>match x with|.tup [.int m,.int v]=>if aY s m then some (PV.int v) else none|_=>none) (λenv=>∃t1 t2,env=[t1,t2,some (rY s)]) ⟨_,_,rfl⟩ ?_ ?_
 ·rintro x env N hx ⟨t1,t2,rfl⟩ hN
  obtain⟨⟨m,v⟩,hp,rfl⟩:=a0s.mp hx
  have hN:=hN [some (.int m),some (.int v),some (rY s)] ⟨_,_,rfl⟩
  unfold F1 at hN
  dsimp only at hN
  show RD.bU 2 _ (.tup [.int m,.int v]) _ _
  tb_from(⟨rfl,?_⟩)
  tb_from(sR ?_)
  tb_from(a2Y (λh=>?_) (λh=>?_))
  ·rw[if_pos h] at hN;exact hN
  ·rw[if_neg (by rw[h];exact a0m)] at hN;exact hN
 ·rw[a4x,PP]
  exact C5 q
theorem L8{s:Sr}{pp:List Pr}{R:PV->Prop}(hl:pp.length<=1000)(q:R (.int (gE s pp))):j9 [rY s,eI pp] R:=by
 unfold j9
 have e:iA (rY s) (.int 3)=λQ=>iA (rY s) (.int 3) Q:=rfl
 tb_from(iW (xs:=[.str s.nm,.int s.b,.int s.e,.int s.w]) GK ?_)
 tb_from(L9 hl ?_)
 exact q
theorem GU {bk:List Sr} {pp:List Pr} {R:PV->Prop} (hb:bk.length<=1000) (hl:pp.length<=1000) (q:R (.int (iE bk pp))):gY [kY bk,eI pp] R:=by
 unfold gY
 fail
 refine⟨b8 (by rw[a0g];omega),?_⟩
 refine kJ (λi acc env=>acc=((bk.take i).map λs=>gE s pp).map PV.int/\∃t,env=[t,some (eI pp)]) ⟨rfl,_,rfl⟩ ?_ ?_
 ·rintro i x acc env N hx ⟨rfl,t,rfl⟩ hN
  rw[a0h,a0u] at hx
  obtain⟨s,hs,rfl⟩:=hx
  tb_from(L8 hl ?_)
  refine hN _ _ ⟨?_,_,rfl⟩
  rw[a1q,hs];simp
 ·rintro acc env ⟨rfl,t,rfl⟩
  rw[a0g,a1x]
  exact C5 q
end Lib
namespace L2
open PySem
theorem OQ(xs:List PV):(PV.lst xs).eqB (.lst [])=xs.isEmpty:=by
 cases xs with
 |nil=>exact eqB_self _
 |cons a l=>exact eqB_len (by simp)
theorem BK:(PV.lst []).dep<=1:=BJ (n:=0) λx h=>(by cases h)
end L2
namespace Lib
open PySem L2
theorem a0D{ss tt:List Sr}(h:ss.Sublist tt)(m:Int):aZ ss m<=aZ tt m:=h.countP_le
theorem QW{bk:List Sr}{as ks:List Int}(h:as.Sublist ks):(aO bk as).Sublist (aO bk ks):=h.map _
theorem Crowd.le_of{ss:List Sr}{G:Nat}{f:Option Int}(h:Crowd ss G f){b:Nat}(hb:∀m,aZ ss m<=b):G<=b:=by
 cases f with
 |none=>rw[h.non rfl];omega
 |some m=>rw[<- (h.fst m rfl).1];exact hb m
theorem M9 {ms:List Int} {P:Int->Prop} [DecidablePred P]:(∀x∈ms,¬P x)\/∃x∈ms,P x/\∀y∈ms,P y->y<=x:=by
 induction ms with
 |nil=>exact .inl λx hx=>(by cases hx)
 | cons a ms ih=>
  by_cases ha:P a
  ·rcases ih with h|⟨x,hx,px,top⟩
   ·refine .inr ⟨a,a0n,ha,λy hy py=>?_⟩
    rcases a0l.mp hy with z|z
    ·omega
    ·exact absurd py (h y z)
   ·by_cases hax:a<=x
    ·refine .inr ⟨x,a0j _ hx,px,λy hy py=>?_⟩
     rcases a0l.mp hy with z|z
     ·omega
     ·exact top y z py
    ·refine .inr ⟨a,a0n,ha,λy hy py=>?_⟩
     rcases a0l.mp hy with z|z
     ·omega
     ·have:=top y z py;omega
  ·rcases ih with h|⟨x,hx,px,top⟩
   ·refine .inl λy hy=>?_
    rcases a0l.mp hy with z|z
    ·rw[z];exact ha
    ·exact h y z
   ·refine .inr ⟨x,a0j _ hx,px,λy hy py=>?_⟩
    rcases a0l.mp hy with z|z
    ·rw[z] at py;exact absurd py ha
    ·exact top y z py
theorem pW (ss:List Sr):∀pp:List Pr,(ss.map λs=>jO s pp).sum=(pp.map λp=>p.2*(aZ ss p.1:Int)).sum
 | []=>by
  have:∀s,jO s []=0:=λs=>rfl
  simp only[this,a5u,List.sum_nil]
  induction ss with
  |nil=>rfl
  |cons a l ih=>rw[a0i,a0p,ih];rfl
 | p::pp=>by
  have ih:=pW ss pp
  rw[a0i,a0p,<- ih]
  clear ih
  induction ss with
  |nil=>simp[aZ]
  | cons s ss ih=>
   rw[a0i,a0p,a0i,a0p,ih]
   unfold aZ jO
   rw[List.countP_cons,a2q]
   by_cases h:aY s p.1=true
   ·rw[if_pos h,if_pos h,a0i,a0p]
    rw[show ((List.countP (λs=>aY s p.1) ss+1:Nat):Int)=(List.countP (λs=>aY s p.1) ss:Int)+1 by omega,Int.mul_add]
    omega
   ·rw[if_neg h,if_neg h,Nat.add_zero]
    omega
theorem KD(s:Sr)(pp:List Pr):0<=gE s pp:=by unfold gE;omega
theorem m5 {bk:List Sr} {pp:List Pr}:∀(n:Nat) (ks:List Int),SmOk ks n->n<=bk.length->((aO bk ks).map λs=>gE s pp).sum<=((bk.take n).map λs=>gE s pp).sum
 | 0,ks,h,_=>by
  have:ks=[]:=a3l.mp (by have:=h.len;omega)
  subst this;simp[aO]
 | n +1,ks,h,hn=>by
  have es:bk[n]? =some (iJ bk n):=by unfold iJ;rw[a1v,a0a ∅];rfl
  rw[a1q,es,a1k,List.sum_append]
  rcases a5h ks with z|⟨l,k,z⟩
  ·subst z
   have:=m5 (bk:=bk) (pp:=pp) n [] ⟨.nil,by simp⟩ ∅
   have:=KD (iJ bk n) pp
   simp[aO] at*
   omega
  ·rw [a5i] at z
   subst z
   have hp:=a4m.mp h.lt
   have hk:=h.at_ k (by simp)
   have lt:∀j∈l,j<k:=λj hj=>hp.2.2 j hj k (by simp)
   by_cases e:k=n
   ·subst e
    have:=m5 (bk:=bk) (pp:=pp) n l ⟨hp.1,λj hj=>⟨(h.at_ j (by simp[hj])).1,lt j hj⟩⟩ ∅
    simp[aO] at*
    omega
   ·have:=m5 (bk:=bk) (pp:=pp) n (l++[k]) ⟨h.lt,λj hj=>⟨(h.at_ j hj).1,by
     rcases a1c.mp hj with z|z
     ·have:=lt j z;omega
     ·simp at z;omega⟩⟩ ∅
    have:=KD (iJ bk n) pp
    simp[aO] at*
    omega
theorem a5Q (ss:List Sr) (pp:List Pr):cK ss<=(ss.map λs=>jO s pp).sum+(ss.map λs=>gE s pp).sum:=by
 unfold cK
 induction ss with
 |nil=>simp
 | cons s ss ih=>
  rw[a0i,a0p,a0i,a0p,a0i,a0p]
  have:s.w<=jO s pp+gE s pp:=by unfold gE;omega
  omega
def dU(bk:List Sr)(b:Int)(pp:List Pr):Int:=(pp.map (·.2)).sum*b+iE bk pp
theorem qP {bk:List Sr} {b:Int} {pp:List Pr} {ks:List Int} (hk:SmOk ks bk.length) (h:∀m,(aZ (aO bk ks) m:Int)<=b) (hp:∀p∈pp,0<=p.2):cK (aO bk ks)<=dU bk b pp:=by
 have h1:=a5Q (aO bk ks) pp
 rw[pW] at h1
 have h2:=m5 (bk:=bk) (pp:=pp) bk.length ks hk (a0o _)
 rw[a1x] at h2
 have h3:(pp.map λp=>p.2*(aZ (aO bk ks) p.1:Int)).sum<=(pp.map (·.2)).sum*b:=by
  clear h1 h2
  induction pp with
  |nil=>simp
  | cons p pp ih=>
   rw[a0i,a0p,a0i,a0p,Int.add_mul]
   have a1:=ih λq hq=>hp q (a0j _ hq)
   have a2:=a5l (h p.1) (hp p a0n)
   omega
 unfold dU iE
 omega
theorem DP {pp:List Pr} {R:PV->Prop} (hl:pp.length<=1000) (q:R (.int (pp.map (·.2)).sum)):fX [eI pp] R:=by
 unfold fX
 fail
 refine⟨b8 (by rw[a0g];omega),?_⟩
 refine kJ (λi acc env=>acc=((pp.take i).map (·.2)).map PV.int/\∃t1 t2,env=[t1,t2]) ⟨rfl,_,_,rfl⟩ ?_ ?_
 ·rintro i x acc env N hx ⟨rfl,t1,t2,rfl⟩ hN
  rw[a0h,a0u] at hx
  obtain⟨⟨m,v⟩,hp,rfl⟩:=hx
  show RD.bU 2 _ (.tup [.int m,.int v]) _ _
  tb_from(⟨rfl,?_⟩)
  tb_from(hN _ _ ⟨?_,_,_,rfl⟩)
  rw[a1q,hp];simp
 ·rintro acc env ⟨rfl,t1,t2,rfl⟩
  rw[a0g,a1x]
  fail
  exact C5 q
theorem TC{bk:List Sr}{b:Int}{pp:List Pr}{R:PV->Prop}(hb:bk.length<=1000)(hl:pp.length<=1000)(hp:∀p∈pp,0<=p.2)(b0:0<=b)(b1:b<=1000)(q:R (.int (dU bk b pp))):o3 [kY bk,.int b,eI pp] R:=by
 unfold o3
 tb_from(DP hl ?_)
 tb_from(⟨.inr ⟨by omega,by omega⟩,?_⟩)
 tb_from(GU hb hl ?_)
 exact q
def F3(P:Int->Bool)(l:List Pr):Int:=((l.filter λp=>P p.1).map (·.2)).sum
theorem i3(P:Int->Bool)(p:Pr)(l:List Pr):F3 P (p::l)=(if P p.1 then p.2 else 0)+F3 P l:=by
 unfold F3
 rw[a2q]
 split
 ·rw[a0i,a0p]
 ·omega
theorem tD(P:Int->Bool){a b:List Pr}(h:a.Perm b):F3 P a=F3 P b:=by
 induction h with
 |nil=>rfl
 |cons x _ ih=>rw[i3,i3,ih]
 |swap x y l=>rw[i3,i3,i3,i3];omega
 |trans _ _ h1 h2=>rw[h1,h2]
theorem rH(pp:List Pr):F3 (λ_=>true) pp=(pp.map (·.2)).sum:=by
 unfold F3
 rw[List.filter_eq_self.mpr λ_ _=>rfl]
theorem AE(s:Sr)(pp:List Pr):F3 (λm=>aY s m) pp=jO s pp:=rfl
mutual
def bR:PV->Bool
 |.lst xs=>nE xs
 |.tup xs=>nE xs
 |.non=>true
 |.bl _=>true
 |.int _=>true
 |.str _=>true
 |.dic _ _=>true
 |_=>false
def nE:List PV->Bool
 |[]=>true
 |x::xs=>bR x&&nE xs
end
theorem okPs_iff{xs:List PV}:nE xs=true↔∀x∈xs,bR x=true:=by
 induction xs with
 |nil=>simp[nE]
 |cons x xs ih=>rw[nE,a1d,ih];simp
theorem okP_lst{xs:List PV}(h:bR (.lst xs)=true):∀x∈xs,bR x=true:=okPs_iff.mp (by rw[bR] at h;exact h)
theorem okP_tup{xs:List PV}(h:bR (.tup xs)=true):∀x∈xs,bR x=true:=okPs_iff.mp (by rw[bR] at h;exact h)
theorem okP_l{xs:List PV}(h:∀x∈xs,bR x=true):bR (.lst xs)=true:=by rw[bR];exact okPs_iff.mpr h
theorem okP_t{xs:List PV}(h:∀x∈xs,bR x=true):bR (.tup xs)=true:=by rw[bR];exact okPs_iff.mpr h
theorem okP_inp(ks:List Int):bR (fE ks)=true:=okP_l λx h=>by obtain⟨k,_,rfl⟩:=a0s.mp h;rw[bR]
theorem okP_ppV(p:Pr):bR (F1 p)=true:=okP_t λx h=>by simp only[a0l,a0y,a2i] at h;rcases h with rfl|rfl<;>rw[bR]
theorem okP_papp(pp:List Pr):bR (eI pp)=true:=okP_l λx h=>by obtain⟨k,_,rfl⟩:=a0s.mp h;exact okP_ppV k
def isIntB:PV->Bool
 |.int _=>true
 |.bl _=>true
 |_=>false
def isLstB:PV->Bool
 |.lst _=>true
 |_=>false
def isTupB:PV->Bool
 |.tup _=>true
 |_=>false
def wholeB:PV->Bool
 |.int _=>true
 |_=>false
section
variable{x:PV}{R:PV->Prop}
theorem g_isi_int(h:bR x=true)(q:R (.bl (isIntB x))):pH [x,.ty "int"] R:=by
 cases x<;>first|exact p6 (b:=true) rfl ⋯ q|exact p6 (b:=false) rfl ⋯ q|(rw[bR.eq_def] at h;cases h)
theorem g_isi_list(h:bR x=true)(q:R (.bl (isLstB x))):pH [x,.ty "list"] R:=by
 cases x<;>first|exact p6 (b:=true) rfl ⋯ q|exact p6 (b:=false) rfl ⋯ q|(rw[bR.eq_def] at h;cases h)
theorem g_isi_tuple(h:bR x=true)(q:R (.bl (isTupB x))):pH [x,.ty "tuple"] R:=by
 cases x<;>first|exact p6 (b:=true) rfl ⋯ q|exact p6 (b:=false) rfl ⋯ q|(rw[bR.eq_def] at h;cases h)
theorem g_whole (h:bR x=true) (q:R (.bl (wholeB x))):fM [x] R:=by
 unfold fM
 tb_from(g_isi_int h ?_)
 fail
 cases x<;>first
  |exact q
  |(refine g_isi_bool h ?_;exact q)
def wholeIn(x:PV)(a b:Int):Bool:=match x with
 |.int i=>decide (a<=i)&&decide (i<=b)
 |_=>false
theorem g_within {a b:Int} (h:bR x=true) (q:R (.bl (wholeIn x a b))):bK [x,.int a,.int b] R:=by
 unfold bK
 tb_from(g_whole h ?_)
 fail
 cases x with
 | int i=>
  fail
  show Br true _ _
  fail
  unfold wholeIn at q
  dsimp only at q
  refine L7 (λh=>?_) λh=>?_
  ·rw[a2n h,Bool.true_and] at q;exact q
  ·rw[a1y h,a6u] at q;exact q
 |_=>exact q
theorem wholeIn_iff{x:PV}{a b:Int}:wholeIn x a b=true↔∃i,x= .int i/\a<=i/\i<=b:=by
 cases x with
 |int i=>simp[wholeIn]
 |_=>simp[wholeIn]
def tupN(x:PV)(m:Int):Bool:=match x with
 |.tup xs=>decide ((xs.length:Int)=m)
 |_=>false
def lstN(x:PV)(m:Int):Bool:=match x with
 |.lst xs=>decide ((xs.length:Int)=m)
 |_=>false
theorem g_tuple_of{m:Int}(h:bR x=true)(q:R (.bl (tupN x m))):cF [x,.int m] R:=by
 unfold cF
 tb_from(g_isi_tuple h ?_)
 fail
 cases x<;>exact q
theorem g_list_of{m:Int}(h:bR x=true)(q:R (.bl (lstN x m))):dD [x,.int m] R:=by
 unfold dD
 tb_from(g_isi_list h ?_)
 fail
 cases x<;>exact q
theorem tupN_iff{n:Nat}:tupN x n=true↔∃xs,x= .tup xs/\xs.length=n:=by
 cases x with
 |tup xs=>simp[tupN];omega
 |_=>simp[tupN]
theorem lstN_iff{n:Nat}:lstN x n=true↔∃xs,x= .lst xs/\xs.length=n:=by
 cases x with
 |lst xs=>simp[lstN];omega
 |_=>simp[lstN]
noncomputable def wordT(x:PV)(z:PV)(m:Int):Bool:=match x with
 |.tup (y::ys)=>decide (((y::ys).length:Int)=m)&&y.eqB z
 |_=>false
theorem g_word {z:Str} {m:Int} (h:bR x=true) (m0:0<m) (hd:∀y ys,x= .tup (y::ys)->y.dep<=60\/lT y=true) (q:R (.bl (wordT x (.str z) m))):cM [x,.str z,.int m] R:=by
 unfold cM
 tb_from(g_tuple_of h ?_)
 fail
 cases x with
 | tup xs=>
  refine L7 (λe=>?_) λe=>?_
  ·cases xs with
   |nil=>exact absurd e (by simp;omega)
   | cons y ys=>
    refine iW (z:=y) n4 ?_
    tb_from(a12 (hd y ys rfl) ?_)
    unfold wordT at q
    dsimp only at q
    rw[a2n e,Bool.true_and] at q
    exact q
  ·cases xs with
   |nil=>exact q
   | cons y ys=>
    unfold wordT at q
    dsimp only at q
    rw[a1y e,a6u] at q
    exact q
 |_=>exact q
def PrIn(p:Pr):Prop:=-1000000000000<=p.1/\p.1<=999999999999/\1<=p.2/\p.2<=10000000000000
theorem g_price (h:bR x=true) (q1:∀p,x=F1 p->PrIn p->R (.bl true)) (q0:(¬∃p,x=F1 p/\PrIn p)->R (.bl false)):gV [x] R:=by
 unfold gV
 tb_from(g_tuple_of h ?_)
 fail
 by_cases e:tupN x 2=true
 ·rw [e]
  fail
  obtain⟨xs,rfl,hl⟩:=tupN_iff (n:=2).mp e
  match xs,hl with
  | [a,b],_=>
   have ha:=okP_tup h a (by simp)
   have hb:=okP_tup h b (by simp)
   tb_from(⟨rfl,?_⟩)
   tb_from(g_within ha ?_)
   fail
   by_cases e1:wholeIn a (-1000000000000) (1000000000000-1)=true
   ·rw [e1]
    tb_from(g_within hb ?_)
    obtain⟨i,rfl,i0,i1⟩:=wholeIn_iff.mp e1
    by_cases e2:wholeIn b 1 10000000000000=true
    ·rw[e2]
     obtain⟨j,rfl,j0,j1⟩:=wholeIn_iff.mp e2
     exact q1 (i,j) rfl ⟨i0,by omega,j0,j1⟩
    ·rw[a6c.mpr e2]
     refine q0 ?_
     rintro⟨⟨m,v⟩,e3,p1,p2,p3,p4⟩
     injection e3 with e3
     injection e3 with e3 e4
     injection e4 with e4
     subst e4
     exact e2 (wholeIn_iff.mpr ⟨v,rfl,p3,p4⟩)
   ·rw[a6c.mpr e1]
    refine q0 ?_
    rintro⟨⟨m,v⟩,e3,p1,p2,p3,p4⟩
    injection e3 with e3
    injection e3 with e3 e4
    subst e3
    exact e1 (wholeIn_iff.mpr ⟨m,rfl,p1,by dsimp only at p2;omega⟩)
 ·rw[a6c.mpr e]
  tb_from(q0 ?_)
  rintro⟨⟨m,v⟩,rfl,_⟩
  exact e rfl
theorem g_rising {pp:List Pr} (hl:pp.length<=1000) (q1:(pp.Pairwise λa b=>a.1<b.1)->R (.bl true)) (q0:(¬pp.Pairwise λa b=>a.1<b.1)->R (.bl false)):eT [eI pp] R:=by
 unfold eT
 fail
 refine⟨by rw[a0g];omega,by rw[a0g];omega,?_⟩
 refine jW (λj env=>(∀i:Nat,(h:i<j)->(h2:i+1<pp.length)->(pp[i]'∅).1<pp[i+1].1)/\∃t,env=[t,some (eI pp)]) ⟨λi h=>by omega,_,rfl⟩ ?_ ?_
 ·rintro i x env N hx ⟨ha,t,rfl⟩ hN
  obtain⟨rfl,hi⟩:=hW hx
  rw[a0g] at hi
  have h1:i<pp.length:=by omega
  have h2:i+1<pp.length:=by omega
  have a1:kZ (pp.map F1) (0+(i:Int))=some (F1 pp[i]):=bY ∅ (by rw[show (0+(i:Int)).toNat=i by omega,a0h,a0a h1];rfl)
  have a2:kZ (pp.map F1) (0+(i:Int)+1)=some (F1 pp[i+1]):=bY ∅ (by rw[show (0+(i:Int)+1).toNat=i+1 by omega,a0h,a0a h2];rfl)
  tb_from(fA a1 ?_)
  tb_from(iW (xs:=[.int pp[i].1,.int pp[i].2]) n4 ?_)
  tb_from(fA a2 ?_)
  tb_from(iW (xs:=[.int pp[i+1].1,.int pp[i+1].2]) n4 ?_)
  tb_from(L7 (λh=>?_) λh=>q0 λz=>h (a2c.mp z i (i+1) h1 h2 ∅))
  refine hN _ ⟨λj hj hj2=>?_,_,rfl⟩
  by_cases e:j=i
  ·subst e;exact h
  ·exact ha j ∅ hj2
 ·rintro env ⟨ha,t,rfl⟩
  rw[c8,a0g] at ha
  refine q1 (a2c.mpr λi j hi hj hij=>?_)
  have step:∀k:Nat,(h:i+k+1<pp.length)->pp[i].1<(pp[i+k+1]'h).1:=by
   intro k
   induction k with
   |zero=>intro h;exact ha i ∅ h
   | succ k ih=>
    intro h
    have h1:=ih ∅
    have h2:=ha (i+k+1) ∅ h
    exact Int.lt_trans h1 h2
  have:=step (j-i-1) ∅
  simp only[show i+(j-i-1)+1=j by omega] at this
  exact this
structure PaperOk(pp:List Pr):Prop where
 len:pp.length<=48
 at_:∀p∈pp,PrIn p
 lt:pp.Pairwise λa b=>a.1<b.1
theorem ppV_inj{p r:Pr}(h:F1 p=F1 r):p=r:=by
 injection h with h
 injection h with h1 h2
 injection h1 with h1
 injection h2 with h2
 injection h2 with h2
 exact Prod.ext h1 h2
theorem papp_inj {pp rr:List Pr} (h:eI pp=eI rr):pp=rr:=by
 injection h with h
 revert rr
 induction pp with
 | nil=>intro rr h;cases rr with
  |nil=>rfl
  |cons=>cases h
 | cons p pp ih=>
  intro rr h
  cases rr with
  |nil=>cases h
  | cons r rr=>
   rw[a0i,a0i] at h
   injection h with h1 h2
   rw[ppV_inj h1,ih h2]
theorem g_paper (h:bR x=true) (q1:∀pp,x=eI pp->PaperOk pp->R (.bl true)) (q0:(¬∃pp,x=eI pp/\PaperOk pp)->R (.bl false)):gU [x] R:=by
 unfold gU
 tb_from(g_isi_list h ?_)
 fail
 cases x with
 | lst xs=>
  have hx:=okP_lst h
  refine a38 (c:=false) rfl ?_
  tb_from(L7 (λh1=>?_) λh1=>?_)
  ·refine q0 ?_
   rintro⟨pp,e,ok⟩
   injection e with e
   subst e
   have:=ok.len
   have h1:(48:Int)<((pp.map F1).length:Int):=h1
   rw[a0g] at h1
   omega
  ·have hlen:xs.length<=48:=by have h1:¬(48:Int)<(xs.length:Int):=h1;omega
   tb_from(jW (λj env=>(∃pp:List Pr,xs.take j=pp.map F1/\∀p∈pp,PrIn p)/\∃t,env=[t]) ⟨⟨[],by simp,by simp⟩,_,rfl⟩ ?_ ?_)
   ·rintro i y env N hy ⟨⟨pp,hpp,hin⟩,t,rfl⟩ hN
    tb_from(g_price (hx y (a0k hy)) (λp hp hpi=>?_) λhp=>?_)
    ·tb_from(hN _ ⟨⟨pp++[p],?_,λr hr=>?_⟩,_,rfl⟩)
     ·rw[a1q,hy,hpp,hp];simp
     ·rcases a1c.mp hr with z|z
      ·exact hin r z
      ·simp at z;subst z;exact hpi
    ·tb_from(q0 ?_)
     rintro⟨pp2,e,ok⟩
     injection e with e
     subst e
     obtain⟨p,hp1,rfl⟩:=a0s.mp (a0k hy)
     exact hp ⟨p,rfl,ok.at_ p hp1⟩
   ·rintro env ⟨⟨pp,hpp,hin⟩,t,rfl⟩
    rw[a1x] at hpp
    subst hpp
    fail
    rw[a0g] at hlen
    refine g_rising ∅ (λz=>q1 pp rfl ⟨hlen,hin,z⟩) λz=>q0 ?_
    rintro⟨pp2,e,ok⟩
    have:=papp_inj e
    subst this
    exact z ok.lt
 | _=>
  refine a38 (c:=true) rfl ?_
  tb_from(q0 ?_)
  rintro⟨pp,e,_⟩
  cases e
end
structure Rd where
 u:Nat
 v:Nat
 g:Int
 k:Option Int
 deriving DecidableEq
abbrev Gs:=List (Option Int)
abbrev Ls:=List (Option Rd)
def gt{α:Type}(l:List (Option α))(v:Nat):Option α:=l.getD v none
theorem w8 {α:Type} {l:List (Option α)} {v w:Nat} {x:Option α} (hv:v<l.length):gt (l.set v x) w=if w=v then x else gt l w:=by
 unfold gt
 rw[a0c,a0c,a3d]
 by_cases h:w=v
 ·subst h;simp[hv]
 ·have h':¬v=w:=λz=>h z.symm
  simp[h,h']
def uL(φ:Nat->Int)(rs:List Rd):Prop:=∀r∈rs,φ r.u+r.g<=φ r.v
inductive Ch(ls:Ls)(st:Nat):Nat->Nat->Prop where
 |base:Ch ls st 0 st
 |step {k v:Nat} {r:Rd}:gt ls v=some r->Ch ls st k r.u->Ch ls st (k+1) v
def GZ(gs:Gs):Nat:=gs.countP Option.isSome
structure GI(φ:Nat->Int)(rs:List Rd)(n st:Nat)(Gm:Int)(gs:Gs)(ls:Ls):Prop where
 lg:gs.length=n
 ll:ls.length=n
 st0:gt gs st=some 0
 stl:gt ls st=none
 ub:∀v b,gt gs v=some b->b<=φ v-φ st
 lb:∀v b,gt gs v=some b->-((GZ gs:Int)*Gm)<=b
 las:∀v r,gt ls v=some r->r∈rs/\r.v=v/\∃a b,gt gs r.u=some a/\gt gs v=some b/\b<=a+r.g
 has:∀v b,gt gs v=some b->v=st\/∃r,gt ls v=some r
 ch:∀v b,gt gs v=some b->∃k,Ch ls st k v
section
variable{φ:Nat->Int}{rs:List Rd}{n st:Nat}{Gm:Int}{gs:Gs}{ls:Ls}
structure Bet(gs:Gs)(r:Rd)(a:Int):Prop where
 fr:gt gs r.u=some a
 up:∀b,gt gs r.v=some b->b<a+r.g
theorem a3E (h:GI φ rs n st Gm gs ls) (hF:uL φ rs) {v:Nat} {x:Option Rd} (hv:v<n) (hvs:v≠st):∀(k u:Nat) (a:Int),Ch ls st k u->gt gs u=some a->Ch (ls.set v x) st k u\/∃b,gt gs v=some b/\a<=b+φ u-φ v:=by
 intro k
 induction k with
 | zero=>
  intro u a hc ha
  cases hc
  exact .inl .base
 | succ k ih=>
  intro u a hc ha
  cases hc with
  | step e c=>
   rename_i r
   by_cases huv:u=v
   ·subst huv
    exact .inr ⟨a,ha,by omega⟩
   ·obtain ⟨hr,hrv,a',b',e1,e2,e3⟩:=h.las u r e
    rw[ha] at e2
    cases e2
    rcases ih r.u a' c e1 with z|⟨b,z1,z2⟩
    ·refine .inl (.step (r:=r) ?_ z)
     rw[w8 (by rw[h.ll];exact hv),if_neg huv];exact e
    ·have:=hF r hr
     rw[hrv] at this
     exact .inr ⟨b,z1,by omega⟩
theorem GI.step (h:GI φ rs n st Gm gs ls) (hF:uL φ rs) (hG:∀r∈rs,-Gm<=r.g) (G0:0<=Gm) {r:Rd} {a:Int} (hr:r∈rs) (hb:Bet gs r a) (hu:r.u<n) (hv:r.v<n):GI φ rs n st Gm (gs.set r.v (some (a+r.g))) (ls.set r.v (some r)):=by
 have fr:=hF r hr
 have ua:=h.ub r.u a hb.fr
 have hvs:r.v≠st:=λz=>by
  have:=hb.up 0 (by rw[z];exact h.st0)
  rw[z] at fr
  omega
 have huv:r.u≠r.v:=λz=>by
  have:=hb.up a (by rw[<- z];exact hb.fr)
  rw[z] at fr
  omega
 have gg:∀w,gt (gs.set r.v (some (a+r.g))) w=if w=r.v then some (a+r.g) else gt gs w:=λw=>w8 (by rw[h.lg];exact hv)
 have gl:∀w,gt (ls.set r.v (some r)) w=if w=r.v then some r else gt ls w:=λw=>w8 (by rw[h.ll];exact hv)
 have hc1:GZ gs<=GZ (gs.set r.v (some (a+r.g)))/\(gt gs r.v=none->GZ (gs.set r.v (some (a+r.g)))=GZ gs+1):=by
  unfold GZ
  rw[List.countP_set (by rw[h.lg];exact hv)]
  have e:gt gs r.v=gs[r.v]'(by rw[h.lg];exact hv):=by
   unfold gt
   rw[a0c,a0a (by rw[h.lg];exact hv)];rfl
  have pos:(gs[r.v]'(by rw[h.lg];exact hv)).isSome=true->0<gs.countP Option.isSome:=λz=>List.countP_pos_iff.mpr ⟨_,a1h _,z⟩
  constructor
  ·split
   ·rename_i z
    have:=pos z
    simp;omega
   ·simp
  ·intro z
   rw[e] at z
   rw[z];simp
 have mul1:-((GZ (gs.set r.v (some (a+r.g))):Int)*Gm)<= -((GZ gs:Int)*Gm):=by
  have:(GZ gs:Int)*Gm<=(GZ (gs.set r.v (some (a+r.g))):Int)*Gm:=Int.mul_le_mul_of_nonneg_right (by exact_mod_cast hc1.1) G0
  omega
 have chu:∃k,Ch (ls.set r.v (some r)) st k r.u:=by
  obtain⟨k,hk⟩:=h.ch r.u a hb.fr
  rcases a3E h hF (x:=some r) hv hvs k r.u a hk hb.fr with z|⟨b,z1,z2⟩
  ·exact⟨k,z⟩
  ·have:=hb.up b z1
   omega
 have chv:∃k,Ch (ls.set r.v (some r)) st k r.v:=by
  obtain⟨k,hk⟩:=chu
  exact⟨k+1,.step (by rw[gl,if_pos rfl]) hk⟩
 have chall:∀k w,Ch ls st k w->∃k',Ch (ls.set r.v (some r)) st k' w:=by
  intro k
  induction k with
  |zero=>intro w hw;cases hw;exact⟨0,.base⟩
  | succ k ih=>
   intro w hw
   cases hw with
   | step e c=>
    by_cases z:w=r.v
    ·rw[z];exact chv
    ·obtain⟨k',hk'⟩:=ih _ c
     exact⟨k'+1,.step (by rw[gl,if_neg z];exact e) hk'⟩
 refine⟨by simp[h.lg],by simp[h.ll],by rw[gg,if_neg (a3b hvs)];exact h.st0,by rw[gl,if_neg (a3b hvs)];exact h.stl,λw b hw=>?_,λw b hw=>?_,λw r' hw=>?_,λw b hw=>?_,λw b hw=>?_⟩
 ·rw[gg] at hw
  split at hw
  ·rename_i z;cases hw;rw[z];omega
  ·exact h.ub w b hw
 ·rw [gg] at hw
  split at hw
  ·cases hw
   cases hgv:gt gs r.v with
   | some b'=>
    have:=h.lb r.v b' hgv
    have:=hb.up b' hgv
    omega
   | none=>
    rw[hc1.2 hgv]
    have:=h.lb r.u a hb.fr
    have:=hG r hr
    have e:((GZ gs+1:Nat):Int)*Gm=(GZ gs:Int)*Gm+Gm:=by rw[Int.natCast_add,Int.add_mul];simp
    rw[e];omega
  ·have:=h.lb w b hw;omega
 ·rw [gl] at hw
  split at hw
  ·rename_i z
   cases hw
   exact⟨hr,z.symm,a,a+r.g,by rw[gg,if_neg huv];exact hb.fr,by rw[gg,if_pos z],a3s _⟩
  ·rename_i z
   obtain⟨h1,h2,a',b',e1,e2,e3⟩:=h.las w r' hw
   by_cases zu:r'.u=r.v
   ·have:=hb.up a' (by rw[<- zu];exact e1)
    exact⟨h1,h2,a+r.g,b',by rw[gg,if_pos zu],by rw[gg,if_neg z];exact e2,by omega⟩
   ·exact⟨h1,h2,a',b',by rw[gg,if_neg zu];exact e1,by rw[gg,if_neg z];exact e2,e3⟩
 ·by_cases z:w=r.v
  ·exact .inr ⟨r,by rw[gl,if_pos z]⟩
  ·rw[gg,if_neg z] at hw
   rcases h.has w b hw with y|⟨r',y⟩
   ·exact .inl y
   ·exact .inr ⟨r',by rw[gl,if_neg z];exact y⟩
 ·by_cases z:w=r.v
  ·rw[z];exact chv
  ·rw[gg,if_neg z] at hw
   obtain⟨k,hk⟩:=h.ch w b hw
   exact chall k w hk
def a5H(φ:Nat->Int)(st:Nat)(C:Nat)(gs:Gs)(v:Nat):Nat:=match gt gs v with
 |none=>C
 |some b=>(φ v-φ st-b).toNat
def n6(φ:Nat->Int)(st C n:Nat)(gs:Gs):Nat:=((List.range n).map (a5H φ st C gs)).sum
theorem S5 {α:Type} {f f':α->Nat}:∀ {l:List α},(∀a∈l,f' a<=f a)->(∃a∈l,f' a<f a)->(l.map f').sum<(l.map f).sum
 |[],_,h=>by obtain⟨a,ha,_⟩:=h;cases ha
 | x ::l,h1,h2=>by
  rw[a0i,a0p,a0i,a0p]
  have le:(l.map f').sum<=(l.map f).sum:=by
   clear h2
   induction l with
   |nil=>simp
   | cons y l ih=>
    rw[a0i,a0p,a0i,a0p]
    have:=h1 y (by simp)
    have:=ih λa ha=>h1 a (by
     rcases a0l.mp ha with z|z
     ·simp[z]
     ·simp[z])
    omega
  have hx:=h1 x a0n
  obtain⟨a,ha,hlt⟩:=h2
  rcases a0l.mp ha with z|z
  ·subst z;omega
  ·have:=S5 (l:=l) (λb hb=>h1 b (a0j _ hb)) ⟨a,z,hlt⟩
   omega
theorem V2 (h:GI φ rs n st Gm gs ls) (hF:uL φ rs) (hG:∀r∈rs,-Gm<=r.g) (G0:0<=Gm) {C:Nat} (hC:∀v,v<n->φ v-φ st+n*Gm<C) {r:Rd} {a:Int} (hr:r∈rs) (hb:Bet gs r a) (hu:r.u<n) (hv:r.v<n) :
  n6 φ st C n (gs.set r.v (some (a+r.g)))<n6 φ st C n gs:=by
 have h':=h.step hF hG G0 hr hb hu hv
 have gg:∀w,gt (gs.set r.v (some (a+r.g))) w=if w=r.v then some (a+r.g) else gt gs w:=λw=>w8 (by rw[h.lg];exact hv)
 have hcn:(GZ (gs.set r.v (some (a+r.g))):Int)*Gm<=n*Gm:=by
  refine Int.mul_le_mul_of_nonneg_right ?_ G0
  have:GZ (gs.set r.v (some (a+r.g)))<=(gs.set r.v (some (a+r.g))).length:=List.countP_le_length
  rw[List.length_set,h.lg] at this
  exact_mod_cast this
 have ub:=h'.ub r.v (a+r.g) (by rw[gg,if_pos rfl])
 have lb:=h'.lb r.v (a+r.g) (by rw[gg,if_pos rfl])
 have hlt:a5H φ st C (gs.set r.v (some (a+r.g))) r.v<a5H φ st C gs r.v:=by
  unfold a5H
  rw[gg,if_pos rfl]
  dsimp only
  cases hgv:gt gs r.v with
  | none=>
   dsimp only
   have:=hC r.v hv
   omega
  | some b=>
   dsimp only
   have:=hb.up b hgv
   omega
 refine S5 (λw _=>?_) ⟨r.v,a1s.mpr hv,hlt⟩
 by_cases z:w=r.v
 ·rw[z];exact a3r hlt
 ·unfold a5H
  rw[gg,if_neg z]
  exact a0o _
def XM(gs:Gs)(rs:List Rd):Prop:=∀r∈rs,∀a,gt gs r.u=some a->∃b,gt gs r.v=some b/\a+r.g<=b
theorem TL (hn:gt ls st=none):∀ {k k' v:Nat},Ch ls st k v->Ch ls st k' v->k=k':=by
 intro k
 induction k with
 | zero=>
  intro k' v h h'
  cases h
  cases h' with
  |base=>rfl
  |step e _=>rw[hn] at e;cases e
 | succ k ih=>
  intro k' v h h'
  cases h with
  | step e c=>
   cases h' with
   |base=>rw[hn] at e;cases e
   |step e' c'=>rw[e] at e';cases e';rw[ih c c']
inductive Way(ls:Ls)(st:Nat):Nat->List Rd->Prop where
 |base:Way ls st st []
 |step {v:Nat} {r:Rd} {p:List Rd}:gt ls v=some r->Way ls st r.u p->Way ls st v (r::p)
theorem a2X:∀ {k v:Nat},Ch ls st k v->∃p,Way ls st v p/\p.length=k:=by
 intro k
 induction k with
 |zero=>intro v h;cases h;exact⟨[],.base,rfl⟩
 | succ k ih=>
  intro v h
  cases h with
  | step e c=>
   obtain⟨p,hp,hl⟩:=ih c
   exact⟨_::p,.step e hp,by simp[hl]⟩
theorem Way.ch{v:Nat}{p:List Rd}(h:Way ls st v p):Ch ls st p.length v:=by
 induction h with
 |base=>exact .base
 |step e _ ih=>exact .step e ih
end
def G4(r:Rd):PV:=.tup [.int (r.u:Nat),.int (r.v:Nat),.int r.g,jQ r.k]
def SY:Option Rd->PV
 |none=>.non
 |some r=>G4 r
abbrev ZW(gs:Gs):PV:=.lst (gs.map jQ)
abbrev V4(ls:Ls):PV:=.lst (ls.map SY)
abbrev NB(rs:List Rd):PV:=.lst (rs.map G4)
theorem LS(o:Option Int):(jQ o).flat=true:=by cases o<;>rfl
theorem DY(r:Rd):(G4 r).flat=true:=by
 unfold G4
 rw[PV.flat,PV.flats,PV.flats,PV.flats,PV.flats,PV.flats,LS];rfl
theorem UQ(x:Int)(r:Rd):(PV.tup [.int x,G4 r]).flat=true:=by
 rw[PV.flat,PV.flats,PV.flats,PV.flats,DY];rfl
theorem XU{gs:Gs}{v:Nat}(h:v<gs.length):kZ (gs.map jQ) (v:Int)=some (jQ (gt gs v)):=by
 refine bY ∅ ?_
 rw[a1v,a0h,a0a h]
 unfold gt
 rw[a0c,a0a h];rfl
theorem XZ{ls:Ls}{v:Nat}(h:v<ls.length):kZ (ls.map SY) (v:Int)=some (SY (gt ls v)):=by
 refine bY ∅ ?_
 rw[a1v,a0h,a0a h]
 unfold gt
 rw[a0c,a0a h];rfl
theorem DM:∀rs:List Rd,∃Gm:Int,0<=Gm/\∀r∈rs,-Gm<=r.g
 |[]=>⟨0,a3s _,λr h=>by cases h⟩
 | r::rs=>by
  obtain⟨G,h0,h⟩:=DM rs
  refine⟨max G (-r.g),by omega,λq hq=>?_⟩
  rcases a0l.mp hq with z|z
  ·subst z;omega
  ·have:=h q z;omega
theorem DL (f:Nat->Int):∀n:Nat,∃C:Nat,∀v,v<n->f v<C
 |0=>⟨0,λv h=>by omega⟩
 | n+1=>by
  obtain⟨C,h⟩:=DL f n
  refine⟨max C ((f n).toNat+1),λv hv=>?_⟩
  by_cases e:v=n
  ·subst e;omega
  ·have:=h v ∅;omega
theorem BO{n v:Nat}(h:v<n):yD n (v:Int)=some v:=by
 unfold yD
 rw[if_pos ∅,if_pos ∅,a1v]
theorem a50(n:Nat):(List.replicate (n:Int).toNat [PV.non]).flatten=(List.replicate n (none:Option Int)).map jQ:=by
 rw[a1v,a7c];simp[jQ]
theorem a52(n:Nat):(List.replicate (n:Int).toNat [PV.non]).flatten=(List.replicate n (none:Option Rd)).map SY:=by
 rw[a1v,a7c];simp[SY]
theorem HD{α:Type}{n v:Nat}:gt (List.replicate n (none:Option α)) v=none:=by
 unfold gt
 rw[a0c,a2a]
 split<;>rfl
theorem map_set{α:Type}(f:α->PV)(l:List α)(i:Nat)(x:α):(l.map f).set i (f x)=(l.set i x).map f:=by rw[List.map_set]
theorem P4 {φ:Nat->Int} {rs:List Rd} {n st:Nat} {Gm:Int} (hst:st<n) (G0:0<=Gm):GI φ rs n st Gm ((List.replicate n none).set st (some 0)) (List.replicate n none):=by
 have gg:∀w,gt ((List.replicate n (none:Option Int)).set st (some 0)) w=if w=st then some 0 else none:=λw=>by rw[w8 (by simpa using hst),HD]
 have one:∀v b,gt ((List.replicate n (none:Option Int)).set st (some 0)) v=some b->v=st/\b=0:=λv b h=>by
  rw[gg] at h
  split at h
  ·rename_i z;cases h;exact⟨z,rfl⟩
  ·cases h
 refine⟨by simp,by simp,by rw[gg,if_pos rfl],HD,λv b h=>?_,λv b h=>?_,λv r h=>?_,λv b h=>.inl (one v b h).1,λv b h=>?_⟩
 ·obtain⟨rfl,rfl⟩:=one v b h;omega
 ·obtain⟨rfl,rfl⟩:=one v b h
  have:0<=(GZ ((List.replicate n (none:Option Int)).set v (some 0)):Int)*Gm:=Int.mul_nonneg ∅ G0
  omega
 ·rw[HD] at h;cases h
 ·obtain⟨rfl,rfl⟩:=one v b h;exact⟨0,.base⟩
theorem sQ {rs:List Rd} {n st:Nat} {φ:Nat->Int} {R:PV->Prop} (hF:uL φ rs) (hrs:∀r∈rs,r.u<n/\r.v<n) (hst:st<n) (hn:n<=100)
  (q:∀gs ls Gm,GI φ rs n st Gm gs ls->XM gs rs->R (.tup [ZW gs,V4 ls])):cG [NB rs,.int n,.int st] R:=by
 obtain⟨Gm,G0,hG⟩:=DM rs
 obtain⟨C,hC⟩:=DL (λv=>φ v-φ st+n*Gm) n
 unfold cG
 have h1000:n<=sizeLine:=b8 ∅
 tb_from(⟨by omega,by omega,by simpa using h1000,?_⟩)
 rw[a50]
 tb_from(⟨by omega,by omega,by simpa using h1000,?_⟩)
 rw[a52]
 fail
 rw[show yD ((List.replicate n (none:Option Int)).map jQ).length (st:Int)=some st from BO (by simpa using hst)]
 fail
 rw[show ((List.replicate n (none:Option Int)).map jQ).set st (PV.int 0)=((List.replicate n (none:Option Int)).set st (some 0)).map jQ from map_set jQ _ st (some 0)]
 refine⟨λm env=>∃(gs:Gs) (ls:Ls) (bet:Bool) (t6 t7 t8 t9 t10:Option PV),env=[some (NB rs),some (.int n),some (.int st),some (ZW gs),some (V4 ls),some (.bl bet),t6,t7,t8,t9,t10]/\GI φ rs n st Gm gs ls/\(bet=true->m=n6 φ st C n gs+1)/\(bet=false->m=0/\XM gs rs),⟨_,_,_,true,none,none,none,none,none,rfl,P4 hst G0,λ_=>rfl,λz=>by cases z⟩,?_⟩
 rintro m env ⟨gs,ls,bet,t6,t7,t8,t9,t10,rfl,hI,hbt,hbf⟩
 fail
 cases bet with
 | false=>
  fail
  exact q gs ls Gm hI (hbf rfl).2
 | true=>
  have hm:=hbt rfl
  refine⟨λenv'=>∃(gs':Gs) (ls':Ls) (bet:Bool) (t6 t7 t8 t9 t10:Option PV),env'=[some (NB rs),some (.int n),some (.int st),some (ZW gs'),some (V4 ls'),some (.bl bet),t6,t7,t8,t9,t10]/\GI φ rs n st Gm gs' ls'/\(bet=true->n6 φ st C n gs'<n6 φ st C n gs)/\(bet=false->XM gs' rs),?_,?_⟩
  ·rintro env' ⟨gs',ls',bet',s6,s7,s8,s9,s10,rfl,hI',h1,h2⟩
   cases bet' with
   |true=>exact⟨n6 φ st C n gs'+1,by have:=h1 rfl;omega,gs',ls',true,_,_,_,_,_,rfl,hI',λ_=>rfl,λz=>by cases z⟩
   |false=>exact⟨0,by omega,gs',ls',false,_,_,_,_,_,rfl,hI',(λz=>by cases z),λ_=>⟨rfl,h2 rfl⟩⟩
  tb_from(cY (λi env=>∃(gs':Gs) (ls':Ls) (bet:Bool) (t6 t7 t8 t9 t10:Option PV),env=[some (NB rs),some (.int n),some (.int st),some (ZW gs'),some (V4 ls'),some (.bl bet),t6,t7,t8,t9,t10]/\GI φ rs n st Gm gs' ls'/\(bet=true->n6 φ st C n gs'<n6 φ st C n gs)/\(bet=false->gs'=gs/\XM gs' (rs.take i))) ⟨gs,ls,false,_,_,_,_,_,rfl,hI,(λz=>by cases z),λ_=>⟨rfl,λr hr=>by simp at hr⟩⟩ ?_ ?_)
  ·rintro i x env N hx ⟨gs',ls',bet,s6,s7,s8,s9,s10,rfl,hI',h1,h2⟩ hN
   rw[a0h,a0u] at hx
   obtain⟨r,hr,rfl⟩:=hx
   have hrm:=a0k hr
   obtain⟨hu,hv⟩:=hrs r hrm
   have au:=XU (gs:=gs') (v:=r.u) (by rw[hI'.lg];exact hu)
   have av:=XU (gs:=gs') (v:=r.v) (by rw[hI'.lg];exact hv)
   have later:∀bb:Option Int,gt gs' r.v=bb->∀t6' t7' t8' t9' t10':Option PV,(∀a,gt gs' r.u=some a->∃b,bb=some b/\a+r.g<=b)->N [some (NB rs),some (.int n),some (.int st),some (ZW gs'),some (V4 ls'),some (.bl bet),t6',t7',t8',t9',t10']:=by
    intro bb hbb t6' t7' t8' t9' t10' hh
    refine hN _ ⟨gs',ls',bet,_,_,_,_,_,rfl,hI',h1,λz=>⟨(h2 z).1,λr' hr' a ha=>?_⟩⟩
    rw[a1q,hr] at hr'
    rcases a1c.mp hr' with y|y
    ·exact (h2 z).2 r' y a ha
    ·simp at y
     subst y
     rw[hbb];exact hh a ha
   show RD.aF 6 (.tup [.int (r.u:Nat),.int (r.v:Nat),.int r.g,jQ r.k]) _ _
   tb_from(⟨rfl,?_⟩)
   tb_from(fA au ?_)
   cases hgu:gt gs' r.u with
   | none=>
    fail
    exact later _ rfl _ _ _ _ _ λa ha=>by rw[hgu] at ha;cases ha
   | some a=>
    tb_from(fA av ?_)
    have better:Bet gs' r a->RD.aN (RD.A5 3 4 (RD.oJ (RD.bC (RD.a8 (RD.bA RD.dA (RD.bA iA (RD.aA 3) (RD.aA 7)) (RD.aA 9)) (RD.a8 (RD.aA 6) RD.aE)))) (RD.aA 8) (RD.aA 8)) (RD.aN (RD.c4 5 (RD.pC (.bl true))) RD.bG) {nx:=N,rt:=R} [some (NB rs),some (.int n),some (.int st),some (ZW gs'),some (V4 ls'),some (.bl bet),some (G4 r),some (.int (r.u:Nat)),some (.int (r.v:Nat)),some (.int r.g),some (jQ r.k)]:=by
     intro hb
     tb_from(fA au ?_)
     rw[hgu]
     tb_from(⟨UQ _ r,?_⟩)
     fail
     rw[show yD (gs'.map jQ).length (r.v:Int)=some r.v from BO (by rw[a0g,hI'.lg];exact hv)]
     fail
     rw[show yD (ls'.map SY).length (r.v:Int)=some r.v from BO (by rw[a0g,hI'.ll];exact hv)]
     fail
     rw[show (gs'.map jQ).set r.v (PV.int (a+r.g))=(gs'.set r.v (some (a+r.g))).map jQ from map_set jQ _ r.v (some (a+r.g))]
     rw[show (ls'.map SY).set r.v (G4 r)=(ls'.set r.v (some r)).map SY from map_set SY _ r.v (some r)]
     refine hN _ ⟨gs'.set r.v (some (a+r.g)),ls'.set r.v (some r),true,_,_,_,_,_,rfl,hI'.step hF hG G0 hrm hb hu hv,λ_=>?_,λz=>by cases z⟩
     have l1:=V2 hI' hF hG G0 hC hrm hb hu hv
     cases bet with
     |true=>have:=h1 rfl;omega
     |false=>rw[(h2 rfl).1] at l1 ⊢;exact l1
    cases hgv:gt gs' r.v with
    | none=>
     fail
     exact better ⟨hgu,λb hb=>by rw[hgv] at hb;cases hb⟩
    | some b=>
     tb_from(fA au ?_)
     rw[hgu]
     tb_from(fA av ?_)
     rw[hgv]
     tb_from(L7 (λh=>?_) λh=>?_)
     ·exact better ⟨hgu,λb' hb'=>by rw[hgv] at hb';cases hb';exact h⟩
     ·exact later _ hgv _ _ _ _ _ λa' ha'=>by
       rw[hgu] at ha';cases ha'
       exact⟨b,rfl,by omega⟩
  ·rintro env ⟨gs',ls',bet,s6,s7,s8,s9,s10,rfl,hI',h1,h2⟩
   rw[a0g,a1x] at h2
   fail
   exact⟨gs',ls',bet,_,_,_,_,_,rfl,hI',h1,λz=>(h2 z).2⟩
theorem Q3:∀(n:Nat) (l:List Nat),l.Nodup->(∀x∈l,x<n)->l.length<=n:=by
 intro n
 induction n with
 | zero=>intro l _ h;cases l with
  |nil=>simp
  |cons a l=>have:=h a a0n;omega
 | succ n ih=>
  intro l nd h
  by_cases hm:n∈l
  ·have:(l.erase n).length<=n:=by
    refine ih _ (nd.sublist List.erase_sublist) λx hx=>?_
    have hx':=a6n hx
    have hne:x≠n:=λz=>by subst z;exact (List.Nodup.not_mem_erase nd) hx
    have:=h x hx'
    omega
   rw[List.length_erase_of_mem hm] at this
   omega
  ·have:=ih l nd λx hx=>by
    have h1:=h x hx
    have:x≠n:=λz=>by subst z;exact hm hx
    omega
   omega
section
variable{φ:Nat->Int}{rs:List Rd}{n st:Nat}{Gm:Int}{gs:Gs}{ls:Ls}
theorem KS {v:Nat} {p:List Rd} (h:Way ls st v p):∀r∈p,∃w k,gt ls w=some r/\Ch ls st k w/\k<=p.length/\0<k:=by
 induction h with
 |base=>intro r hr;cases hr
 | @step v r p e w ih=>
  intro r' hr'
  rcases a0l.mp hr' with z|z
  ·subst z
   exact⟨v,p.length+1,e,.step e w.ch,by simp,by omega⟩
  ·obtain⟨w',k,h1,h2,h3,h4⟩:=ih r' z
   exact⟨w',k,h1,h2,by simp;omega,h4⟩
theorem GI.wayIn(h:GI φ rs n st Gm gs ls){v:Nat}{p:List Rd}(w:Way ls st v p):∀r∈p,r∈rs/\gt ls r.v=some r:=by
 intro r hr
 obtain⟨w',k,e,_⟩:=KS w r hr
 obtain⟨h1,h2,_⟩:=h.las w' r e
 exact⟨h1,by rw[h2];exact e⟩
theorem GI.wayNd (h:GI φ rs n st Gm gs ls) {v:Nat} {p:List Rd} (w:Way ls st v p):(p.map Rd.v).Nodup:=by
 induction w with
 |base=>exact List.nodup_nil
 | @step v r p e w ih=>
  rw[a0i,a2k]
  refine⟨λhm=>?_,ih⟩
  obtain⟨r',hr',z⟩:=a0s.mp hm
  obtain⟨w',k,e',c',hk,_⟩:=KS w r' hr'
  obtain⟨_,h2,_⟩:=h.las w' r' e'
  obtain⟨_,h3,_⟩:=h.las v r e
  have:w'=v:=by rw[<- h2,z,h3]
  subst this
  have:=TL h.stl c' (.step e w.ch)
  omega
theorem GI.wayLen (h:GI φ rs n st Gm gs ls) (hrs:∀r∈rs,r.u<n/\r.v<n) {v:Nat} {p:List Rd} (w:Way ls st v p):p.length<=n:=by
 have:=Q3 n (p.map Rd.v) (h.wayNd w) λx hx=>by
  obtain⟨r,hr,rfl⟩:=a0s.mp hx
  exact (hrs r (h.wayIn w r hr).1).2
 simpa using this
end
theorem uR {ls:Ls} {st goal:Nat} {p:List Rd} {R:PV->Prop} (hw:Way ls st goal p) (hn:gt ls st=none) (hg:goal<ls.length) (hu:∀r∈p,r.u<ls.length) (hp:p.length<=1000) (q:R (fE (p.filterMap Rd.k))):cN [V4 ls,.int goal] R:=by
 unfold cN
 tb_from(⟨λm env=>∃(v:Nat) (p':List Rd) (ds:List Int) (t3 t4 t5:Option PV),env=[some (V4 ls),some (.int v),some (fE ds),t3,t4,t5]/\Way ls st v p'/\m=p'.length/\ds++p'.filterMap Rd.k=p.filterMap Rd.k/\v<ls.length/\(∀r∈p',r.u<ls.length),⟨_,goal,p,[],none,none,none,rfl,hw,rfl,rfl,hg,hu⟩,?_⟩)
 rintro m env ⟨v,p',ds,t3,t4,t5,rfl,w,rfl,ht,hv,hu'⟩
 tb_from(fA (XZ hv) ?_)
 have hdl:ds.length<=1000:=by
  have:=congrArg List.length ht
  have:=List.length_filterMap_le Rd.k p
  rw[a1l] at*
  omega
 cases w with
 | base=>
  rw[hn]
  fail
  rw[List.filterMap_nil,a5r] at ht
  rw[ht];exact q
 | @step _ r p'' e w=>
  rw[e]
  unfold SY G4
  tb_from(⟨λenv'=>∃(v:Nat) (ds:List Int) (t3 t4 t5:Option PV),env'=[some (V4 ls),some (.int v),some (fE ds),t3,t4,t5]/\Way ls st v p''/\ds++p''.filterMap Rd.k=p.filterMap Rd.k/\v<ls.length,?_,?_⟩)
  ·rintro env' ⟨v',ds',s3,s4,s5,rfl,w',ht',hv'⟩
   exact⟨p''.length,by simp,v',p'',ds',s3,s4,s5,rfl,w',rfl,ht',hv',λr' hr'=>hu' r' (a0j _ hr')⟩
  fail
  refine fA (z:=G4 r) (by rw[XZ hv,e];rfl) ?_
  unfold G4
  tb_from(⟨rfl,?_⟩)
  fail
  have hr:=hu' r a0n
  rw[a1m] at ht
  cases hk:r.k with
  | none=>
   rw[hk] at ht
   fail
   exact⟨r.u,ds,_,_,_,rfl,w,ht,hr⟩
  | some k=>
   rw[hk] at ht
   tb_from(⟨rfl,?_⟩)
   tb_from(⟨rfl,?_⟩)
   fail
   refine⟨fH (n:=(ds.map PV.int).length) (by rw[a0g];exact hdl),?_⟩
   have ei:fE (ds++[k])= .lst (ds.map PV.int++[jQ (some k)]):=by unfold fE;rw[a1k];rfl
   exact⟨r.u,ds++[k],some (.int (r.v:Nat)),some (.int r.g),some (jQ (some k)),by rw[ei],w,by rw[a7l];exact ht,hr⟩
theorem BD{ks ms:List Int}{R:PV->Prop}(h1:ks.length<32)(h2:ms.length<32)(q:R (fE (aV (oD ks ms)))):eV [fE ks,fE ms] R:=by
 unfold eV
 tb_from(A2 h1 ?_)
 tb_from(A2 h2 ?_)
 exact q
def yX(bk:List Sr):List Int:=if aV (iZ bk)=[] then [0] else aV (iZ bk)
theorem DN {bk:List Sr} {R:PV->Prop} (hl:bk.length<=31) (q:R (fE (yX bk))):fV [kY bk] R:=by
 unfold fV
 tb_from(zP hl ?_)
 fail
 unfold yX at q
 refine a2Y (λh=>?_) λh=>?_
 ·rw[if_neg (λz=>by rw[z] at h;cases h)] at q;exact q
 ·have:aV (iZ bk)=[]:=by
   cases hu:aV (iZ bk) with
   |nil=>rfl
   |cons a l=>rw[hu] at h;cases h
  rw[if_pos this] at q
  fail
  exact q
def gK(γ:Nat->Int)(i:Nat):Int:=γ (i+1)-γ i
def kN(γ:Nat->Int)(sp:List Int):List Pr:=(sp.zipIdx.filter λz=>decide (0<gK γ z.2)).map λz=>(z.1,gK γ z.2)
theorem DO {γ:Nat->Int} {n:Nat} {sp:List Int} {R:PV->Prop} (hn:n<=1000) (hs:sp.length<n) (q:R (eI (kN γ sp))):fW [fE ((List.range n).map γ),fE sp] R:=by
 unfold fW
 have hat:∀i,i<n->kZ (((List.range n).map γ).map PV.int) (i:Int)=some (.int (γ i)):=λi hi=>bY ∅ (by
  rw[a1v,a0h,a0h,a6v hi];rfl)
 fail
 refine⟨by omega,by rw[a0g];omega,?_⟩
 refine⟨by rw[c8];exact b8 (by rw[a0g];omega),?_⟩
 refine kJ (λi acc env=>acc=((List.range i).map (gK γ)).map PV.int/\∃t,env=[t,some (fE ((List.range n).map γ))]) ⟨rfl,_,rfl⟩ ?_ ?_
 ·rintro i x acc env N hx ⟨rfl,t,rfl⟩ hN
  obtain⟨rfl,hi⟩:=hW hx
  rw[a0g] at hi
  have x0:(0:Int)+(i:Int)=i:=by omega
  rw[x0]
  fail
  refine fA (by have:=hat (i+1) ∅;rw[<- this];congr 1) ?_
  tb_from(fA (hat i ∅) ?_)
  tb_from(hN _ _ ⟨?_,_,rfl⟩)
  rw[a4i];simp[gK]
 ·rintro acc env ⟨rfl,t,rfl⟩
  have e1:(d4 0 ((sp.map PV.int).length:Int).toNat).length=sp.length:=by rw[c8,a0g];omega
  rw[e1]
  fail
  refine⟨by rw[lG];exact b8 (by simp;omega),?_⟩
  refine kJ (λi acc env=>acc=(((sp.take i).zipIdx.filter λz=>decide (0<gK γ z.2)).map λz=>(z.1,gK γ z.2)).map F1/\∃t1 t2,env=[t1,t2]) ⟨rfl,_,_,rfl⟩ ?_ ?_
  ·rintro i x acc env N hx ⟨rfl,t1,t2,rfl⟩ hN
   rw[D6] at hx
   obtain⟨a,b,ha,hb,rfl⟩:=hx
   rw[a0h,a0u] at ha hb
   obtain⟨s,hs',rfl⟩:=ha
   obtain⟨v,hv,rfl⟩:=hb
   rw[a0h,a0u] at hv
   obtain⟨j,hj,rfl⟩:=hv
   have hjl:=(a0e.mp hj).1
   rw[a5e] at hjl
   rw[a6v hjl] at hj
   cases hj
   have ez:(sp.take (i+1)).zipIdx=(sp.take i).zipIdx++[(s,i)]:=by
    rw[a1q,hs',a7a]
    have:(sp.take i).length=i:=by rw[a2h];omega
    simp[this]
   tb_from(⟨rfl,?_⟩)
   tb_from(L7 (λh=>?_) λh=>?_)
   ·refine hN _ _ ⟨?_,_,_,rfl⟩
    rw[ez,a4y,a2q,if_pos (by simpa using h)]
    simp[F1]
   ·refine hN _ _ ⟨?_,_,_,rfl⟩
    rw[ez,a4y,a2q,if_neg (by simpa using h)]
    simp
  ·rintro acc env ⟨rfl,t1,t2,rfl⟩
   have e2:(zE (sp.map PV.int) (((List.range sp.length).map (gK γ)).map PV.int)).length=sp.length:=by rw[lG];simp
   rw[e2,a1x]
   exact⟨OS _,q⟩
end Lib
namespace L2
open PySem
theorem O9 {g:iS} {tt:gJ} {tk tv:b5} {Q:PV->Prop}:∀ {items:List PV} {ks:List d9} {xs:List PV} {env:b9} (I:Nat->List d9->List PV->b9->Prop),I 0 ks xs env->
  (∀(i:Nat) (x:PV) (ks:List d9) (xs:List PV) (env:b9) (N:List d9->List PV->b9->Prop),items[i]? =some x->I i ks xs env->(∀ks' xs' env',I (i+1) ks' xs' env'->N ks' xs' env')->g x env λenv1=>tt env1 λb=>Br b (tk env1 λk=>tv env1 λy=>match a02 k with
   |some kk=>ks.length<1000/\N (TY ks kk) (N9 ks xs kk y) env1
   |none=>False) (N ks xs env1))->
  (∀ks xs env,I items.length ks xs env->Q (.dic ks xs))->yV g tt tk tv Q items ks xs env
 |[],ks,xs,env,I,h0,hs,hd=>hd ks xs env h0
 | x::items,ks,xs,env,I,h0,hs,hd=>by
  rw[yV]
  refine hs 0 x ks xs env (λks xs env=>yV g tt tk tv Q items ks xs env) rfl h0 λks' xs' env' h=>?_
  exact O9 (λi=>I (i+1)) h (λi y a b e N hy=>hs (i+1) y a b e N (by simpa using hy)) λa b e h=>hd a b e (by simpa using h)
end L2
namespace Lib
open PySem L2
theorem OT(rs:List Rd):PV.flats (rs.map G4)=true:=PV.flats_of λx h=>by obtain⟨s,_,rfl⟩:=a0s.mp h;exact DY s
def vK(m:Nat):List Rd:=(List.range m).map λi=>⟨i,i+1,0,none⟩
def vL(rooms:List Int)(m:Nat):List Rd:=((List.range m).filter λi=>decide (0<rooms.getD i 0)).map λi=>⟨i+1,i,0,none⟩
def E1(rooms:List Int):List Rd:=vK rooms.length++(vL rooms rooms.length).reverse
theorem BE {rooms:List Int} {R:PV->Prop} (hl:rooms.length<=100) (q:R (NB (E1 rooms))):eW [fE rooms] R:=by
 unfold eW
 fail
 refine⟨by omega,by rw[a0g];omega,?_⟩
 refine⟨by rw[c8];exact b8 (by rw[a0g];omega),?_⟩
 refine kJ (λi acc env=>acc=(vK i).map G4/\∃t,env=[t]) ⟨rfl,_,rfl⟩ ?_ ?_
 ·rintro i x acc env N hx ⟨rfl,t,rfl⟩ hN
  obtain⟨rfl,hi⟩:=hW hx
  have x0:(0:Int)+(i:Int)=i:=by omega
  rw[x0]
  tb_from(hN _ _ ⟨?_,_,rfl⟩)
  unfold vK
  rw[a4i,a1k,a1k];rfl
 ·rintro acc env ⟨rfl,t,rfl⟩
  have e1:(d4 0 ((rooms.map PV.int).length:Int).toNat).length=rooms.length:=by rw[c8,a0g];omega
  rw[e1]
  fail
  refine⟨b8 (by rw[hV,a0g];omega),?_⟩
  refine kJ (λi acc env=>acc=(vL rooms i).map G4/\∃t1 t2,env=[t1,t2]) ⟨rfl,_,_,rfl⟩ ?_ ?_
  ·rintro i x acc env N hx ⟨rfl,t1,t2,rfl⟩ hN
   rw[jJ,a0h,a5y,a0u] at hx
   obtain⟨r,hr,rfl⟩:=hx
   have eg:rooms.getD i 0=r:=by rw[a0c,hr];rfl
   show RD.bU 2 _ (.tup [.int (i:Int),.int r]) _ _
   tb_from(⟨rfl,?_⟩)
   tb_from(L7 (λh=>?_) λh=>?_)
   ·refine hN _ _ ⟨?_,_,_,rfl⟩
    unfold vL
    rw[a4i,a4y,a2q,if_pos (by rw[eg];simpa using h),a1k,a1k];rfl
   ·refine hN _ _ ⟨?_,_,_,rfl⟩
    unfold vL
    rw[a4i,a4y,a2q,if_neg (by rw[eg];simpa using h)];simp
  ·rintro acc env ⟨rfl,t1,t2,rfl⟩
   rw[hV,a0g]
   tb_from(⟨rfl,?_⟩)
   have hb:(vL rooms rooms.length).length<=rooms.length:=by
    unfold vL
    rw[a0g]
    have:=a4j (λi=>decide (0<rooms.getD i 0)) (List.range rooms.length)
    simpa using this
   refine⟨b8 (by simp[vK];omega),?_⟩
   rw[<- List.map_reverse,<- a1k]
   exact⟨OT _,q⟩
def jP(pl:List Int)(m:Int):Nat:=pl.idxOf m
theorem XO:∀(pl:List Int) (o:Nat) (m:Int),m∈pl->SW (pl.map λp=>(Sum.inl p:d9)) ((List.range' o pl.length).map λ(i:Nat)=>PV.int (i:Int)) (.inl m)=some (.int ((o+jP pl m:Nat):Int))
 |[],o,m,h=>by cases h
 | p::pl,o,m,h=>by
  unfold SW jP
  rw[a1n,List.range'_succ,a0i,a0i,a4w,a3x]
  by_cases e:p=m
  ·subst e
   simp
  ·have e':decide ((Sum.inl p:d9)= .inl m)=false:=by simp[e]
   dsimp only
   rw[e']
   have hm:m∈pl:=(a0l.mp h).resolve_left λz=>e z.symm
   have ih:=XO pl (o+1) m hm
   unfold SW jP at ih
   dsimp only
   rw[ih,List.idxOf_cons]
   have:(p==m)=false:=by simpa using e
   rw[this]
   simp
   omega
theorem XQ{pl:List Int}{m:Int}(h:m∈pl):SW (pl.map λp=>(Sum.inl p:d9)) ((List.range pl.length).map λ(i:Nat)=>PV.int (i:Int)) (.inl m)=some (.int (jP pl m:Nat)):=by
 have:=XO pl 0 m h
 rw[<- List.range_eq_range',a6m] at this
 exact this
def eK(pl ks:List Int)(s:Sr)(k:Nat):Rd:=if (k:Int)∈ks then ⟨jP pl s.e,jP pl s.b,-s.w,some (k:Int)⟩ else ⟨jP pl s.b,jP pl s.e,s.w,some (k:Int)⟩
def WY(bk:List Sr)(pl ks:List Int):List Rd:=bk.zipIdx.map λz=>eK pl ks z.1 z.2
theorem LL(ks:List Int):PV.deps (ks.map PV.int)<=60:=a1b (PV.deps_of (n:=0) λx h=>by obtain⟨k,_,rfl⟩:=a0s.mp h;rw[vA];exact a0o _) (by decide)
theorem vC{ks:List d9}{xs:List PV}{m:Int}{z:PV}{Q:PV->Prop}(h:SW ks xs (.inl m)=some z)(q:Q z):wL (.dic ks xs) (.int m) Q:=by
 show (match SW ks xs (.inl m) with|some z=>Q z|none=>False)
 rw[h];exact q
theorem uS {bk:List Sr} {pl ks:List Int} {R:PV->Prop} (hb:bk.length<=31) (hp:pl.length<=100) (nd:pl.Nodup) (hin:∀s∈bk,s.b∈pl/\s.e∈pl) (hk:ks.length<=100) (q:R (NB (WY bk pl ks))):cO [kY bk,fE pl,fE ks] R:=by
 unfold cO
 tb_from(O9 (λi a b env=>a=(pl.take i).map (λp=>(Sum.inl p:d9))/\b=(List.range i).map (λ(i:Nat)=>PV.int (i:Int))/\∃t1 t2,env=[t1,t2]) ⟨rfl,rfl,_,_,rfl⟩ ?_ ?_)
 ·rintro i x a b env N hx ⟨rfl,rfl,t1,t2,rfl⟩ hN
  rw[jJ,a0h,a5y,a0u] at hx
  obtain⟨m,hm,rfl⟩:=hx
  have hi:=(a0e.mp hm).1
  show RD.bU 2 _ (.tup [.int (i:Int),.int m]) _ _
  tb_from(⟨rfl,?_⟩)
  tb_from(⟨rfl,?_⟩)
  fail
  have nk:kIn ((pl.take i).map (λp=>(Sum.inl p:d9))) (.inl m)=false:=by
   unfold kIn
   rw[List.any_eq_false]
   intro k hk'
   obtain⟨p,hp',rfl⟩:=a0s.mp hk'
   have:p≠m:=by
    rintro rfl
    obtain⟨j,hj,ej⟩:=a2d hp'
    rw[a2h] at hj
    rw[List.getElem_take] at ej
    obtain⟨_,em⟩:=a0e.mp hm
    have:=(List.nodup_iff_pairwise_ne.mp nd)
    have:=(a2c.mp this) j i ∅ hi ∅
    exact this (ej.trans em.symm)
   simp[this]
  refine⟨by rw[a0g,a2h];omega,?_⟩
  refine hN _ _ _ ⟨?_,?_,_,_,rfl⟩
  ·unfold TY
   rw[nk,a1q,hm,a1k];rfl
  ·unfold N9
   rw[nk,a4i,a1k];rfl
 ·rintro a b env ⟨rfl,rfl,t1,t2,rfl⟩
  rw[hV,a0g,a1x]
  generalize hd:PV.dic (pl.map λp=>(Sum.inl p:d9)) ((List.range pl.length).map λ(i:Nat)=>PV.int (i:Int))=dd
  tb_from(cY (λi env=>∃t5 t6 t7 t8 t9,env=[some (kY bk),some (fE pl),some (fE ks),some dd,some (NB ((bk.take i).zipIdx.map λz=>eK pl ks z.1 z.2)),t5,t6,t7,t8,t9]) ⟨_,_,_,_,_,rfl⟩ ?_ ?_)
  ·rintro i x env N hx ⟨t5,t6,t7,t8,t9,rfl⟩ hN
   rw[jJ,a0h,a5y,a0u] at hx
   obtain⟨s,hs,rfl⟩:=hx
   have hi:=(a0e.mp hs).1
   obtain⟨mb,me⟩:=hin s (a0k hs)
   have gb:=XQ mb
   have ge:=XQ me
   have ez:(bk.take (i+1)).zipIdx=(bk.take i).zipIdx++[(s,i)]:=by
    rw[a1q,hs,a7a]
    have:(bk.take i).length=i:=by rw[a2h];omega
    simp[this]
   have hlen:(((bk.take i).zipIdx.map λz=>eK pl ks z.1 z.2).map G4).length<=1000:=by
    rw[a0g,a0g,a7d,a2h];omega
   have es:NB ((bk.take (i+1)).zipIdx.map λz=>eK pl ks z.1 z.2)= .lst ((((bk.take i).zipIdx.map λz=>eK pl ks z.1 z.2).map G4)++[G4 (eK pl ks s i)]):=by
    rw[ez];unfold NB;rw[a1k,a1k];rfl
   show RD.bU 2 _ (.tup [.int (i:Int),.tup [.str s.nm,.int s.b,.int s.e,.int s.w]]) _ _
   tb_from(⟨rfl,?_⟩)
   tb_from(⟨rfl,?_⟩)
   fail
   refine⟨by rw[vA];decide,LL ks,?_⟩
   rw[T7]
   subst hd
   refine L7 (λh=>?_) λh=>?_
   ·tb_from(⟨rfl,?_⟩)
    tb_from(vC ge ?_)
    tb_from(vC gb ?_)
    tb_from(⟨rfl,?_⟩)
    tb_from(⟨fH hlen,?_⟩)
    refine hN _ ⟨some (.int (i:Int)),some (.str s.nm),some (.int s.b),some (.int s.e),some (.int s.w),?_⟩
    rw[es]
    have:eK pl ks s i=⟨jP pl s.e,jP pl s.b,-s.w,some (i:Int)⟩:=if_pos h
    rw[this];rfl
   ·tb_from(⟨rfl,?_⟩)
    tb_from(vC gb ?_)
    tb_from(vC ge ?_)
    tb_from(⟨rfl,?_⟩)
    tb_from(⟨fH hlen,?_⟩)
    refine hN _ ⟨some (.int (i:Int)),some (.str s.nm),some (.int s.b),some (.int s.e),some (.int s.w),?_⟩
    rw[es]
    have:eK pl ks s i=⟨jP pl s.b,jP pl s.e,s.w,some (i:Int)⟩:=if_neg h
    rw[this];rfl
  ·rintro env ⟨t5,t6,t7,t8,t9,rfl⟩
   rw[hV,a0g,a1x]
   fail
   exact q
def eX(bk:List Sr)(ks lim pl:List Int):List Int:=(lim.zip pl).map λ(z:Int×Int)=>z.1-((aZ (aO bk ks) z.2:Nat):Int)
def i4(bk:List Sr)(pl lim ks:List Int):List Rd:=E1 (eX bk ks lim pl)++WY bk pl ks
theorem GV {bk:List Sr} {pl lim ks:List Int} {R:PV->Prop} (hb:bk.length<=31) (hp:pl.length<=100) (nd:pl.Nodup) (hin:∀s∈bk,s.b∈pl/\s.e∈pl) (hk:ks.length<=100) (ok:∀k∈ks,0<=k/\k<(bk.length:Int)) (q:R (NB (i4 bk pl lim ks))):gZ [kY bk,fE pl,fE lim,fE ks] R:=by
 unfold gZ
 fail
 refine⟨by rw[lG];exact b8 (by simp;omega),?_⟩
 refine kJ (λi acc env=>acc=(((lim.zip pl).take i).map λ(z:Int×Int)=>z.1-((aZ (aO bk ks) z.2:Nat):Int)).map PV.int/\∃t1 t2,env=[t1,t2,some (kY bk),some (fE ks)]) ⟨rfl,_,_,rfl⟩ ?_ ?_
 ·rintro i x acc env N hx ⟨rfl,t1,t2,rfl⟩ hN
  rw[D6] at hx
  obtain⟨a,b,ha,hb',rfl⟩:=hx
  rw[a0h,a0u] at ha hb'
  obtain⟨l,hl,rfl⟩:=ha
  obtain⟨p,hp',rfl⟩:=hb'
  have ez:(lim.zip pl)[i]? =some (l,p):=a3f.mpr ⟨hl,hp'⟩
  tb_from(⟨rfl,?_⟩)
  tb_from(zO ∅ ok ?_)
  tb_from(hN _ _ ⟨?_,_,_,rfl⟩)
  rw[a1q,ez];simp
 ·rintro acc env ⟨rfl,t1,t2,rfl⟩
  have e1:(zE (lim.map PV.int) (pl.map PV.int)).length=(lim.zip pl).length:=by rw[lG];simp
  rw[e1,a1x]
  have hz:(lim.zip pl).length<=pl.length:=by rw[List.length_zip];omega
  fail
  refine BE (rooms:=eX bk ks lim pl) (by unfold eX;rw[a0g];omega) ?_
  tb_from(uS hb hp nd hin hk ?_)
  have hf:(E1 (eX bk ks lim pl)).length<=200:=by
   have h1:(eX bk ks lim pl).length<=100:=by unfold eX;rw[a0g];omega
   unfold E1 vK vL
   rw[a1l,a4q,a0g,a0g,a5e]
   have:=a4j (λi=>decide (0<(eX bk ks lim pl).getD i 0)) (List.range (eX bk ks lim pl).length)
   rw[a5e] at this
   omega
  have hs:(WY bk pl ks).length<=31:=by unfold WY;rw[a0g,a7d];omega
  refine⟨b8 (by rw[a0g,a0g];omega),?_⟩
  rw[<- a1k]
  exact q
structure PlOk(bk:List Sr)(pl:List Int):Prop where
 lt:pl.Pairwise (· < ·)
 ne:0<pl.length
 mem:∀s∈bk,s.b∈pl/\s.e∈pl/\s.b<s.e
theorem PlOk.nd{bk:List Sr}{pl:List Int}(h:PlOk bk pl):pl.Nodup:=h.lt.imp λh=>by omega
theorem oH{pl:List Int}{m:Int}(h:m∈pl):jP pl m<pl.length:=List.idxOf_lt_length_of_mem h
theorem HG{pl:List Int}{m:Int}(h:m∈pl):pl[jP pl m]'(oH h)=m:=List.getElem_idxOf (oH h)
theorem PlOk.le {bk:List Sr} {pl:List Int} (h:PlOk bk pl) {m:Int} (hm:m∈pl) {c:Nat} (hc:c<pl.length):jP pl m<=c↔m<=pl[c]:=by
 have pw:=a2c.mp h.lt
 have e:=HG hm
 constructor
 ·intro z
  rcases a4v z with y|y
  ·subst y;rw[e];exact a3s _
  ·have:=pw _ _ (oH hm) hc y
   rw[e] at this;omega
 ·intro z
  refine a4b λy=>?_
  have:=pw _ _ hc (oH hm) y
  rw[e] at this;omega
theorem PlOk.over{bk:List Sr}{pl:List Int}(h:PlOk bk pl){s:Sr}(hs:s∈bk){c:Nat}(hc:c<pl.length):aY s pl[c]=true↔jP pl s.b<=c/\c<jP pl s.e:=by
 obtain⟨h1,h2,h3⟩:=h.mem s hs
 rw[fO,h.le h1 hc]
 have:=h.le h2 hc
 omega
theorem PlOk.ilt{bk:List Sr}{pl:List Int}(h:PlOk bk pl){s:Sr}(hs:s∈bk):jP pl s.b<jP pl s.e:=by
 obtain⟨h1,h2,h3⟩:=h.mem s hs
 refine a6h λz=>?_
 have:=(h.le h2 (oH h1)).mp z
 rw[HG h1] at this
 omega
def tM(c x:Nat):Int:=if x<=c then 0 else 1
def mE(c:Nat)(r:Rd):Int:=tM c r.v-tM c r.u
theorem MY {ls:Ls} {st v:Nat} {p:List Rd} (hv:∀w r,gt ls w=some r->r.v=w) (h:Way ls st v p) (c:Nat):(p.map (mE c)).sum=tM c v-tM c st:=by
 induction h with
 |base=>simp
 | @step v r p e w ih=>
  rw[a0i,a0p,ih]
  unfold mE
  rw[hv v r e];omega
theorem y8 {f:Int->Int} {len:Nat}:∀ {ns:List Int},ns.Nodup->(∀k∈ns,0<=k/\k<(len:Int))->((List.range len).map λ(j:Nat)=>if (j:Int)∈ns then f (j:Int) else 0).sum=(ns.map f).sum
 | [],_,_=>by
  rw[a5u,List.sum_nil]
  have:∀l:List Nat,(l.map λ(j:Nat)=>if (j:Int)∈([]:List Int) then f (j:Int) else 0).sum=0:=by
   intro l
   induction l with
   |nil=>rfl
   |cons a l ih=>rw[a0i,a0p,ih];simp
  exact this _
 | k :: ns,nd,h=>by
  have nd':=a2k.mp nd
  have ih:=y8 (f:=f) nd'.2 λj hj=>h j (a0j _ hj)
  rw[a0i,a0p,<- ih]
  have hk:=h k a0n
  have key:∀l:List Nat,l.Nodup->(l.map λ(j:Nat)=>if (j:Int)∈k::ns then f (j:Int) else 0).sum=(if k.toNat∈l then f k else 0)+(l.map λ(j:Nat)=>if (j:Int)∈ns then f (j:Int) else 0).sum:=by
   intro l
   induction l with
   |nil=>intro _;rfl
   | cons a l ihl=>
    intro ndl
    have ndl':=a2k.mp ndl
    rw[a0i,a0p,a0i,a0p,ihl ndl'.2]
    by_cases e:(a:Int)=k
    ·have ea:a=k.toNat:=by omega
     have n1:¬(a:Int)∈ns:=by rw[e];exact nd'.1
     have n2:¬k.toNat∈l:=by rw[<- ea];exact ndl'.1
     rw[if_pos (by rw[e];exact a0n),if_neg n2,if_neg n1,if_pos (by rw[<- ea];exact a0n),e]
    ·have e1:((a:Int)∈k::ns)↔(a:Int)∈ns:=by simp[e]
     have e2:(k.toNat∈a::l)↔k.toNat∈l:=by
      have:¬k.toNat=a:=by omega
      simp[this]
     simp only[e1,e2]
     omega
  rw[key _ List.nodup_range,if_pos (a1s.mpr ∅)]
theorem KJ{α:Type}(f g:α->Int):∀l:List α,(l.map λa=>f a+g a).sum=(l.map f).sum+(l.map g).sum
 |[]=>rfl
 |a::l=>by rw[a0i,a0p,a0i,a0p,a0i,a0p,KJ f g l];omega
theorem dQ{α:Type}{f g:α->Int}:∀ {l:List α},(∀a∈l,f a=g a)->(l.map f).sum=(l.map g).sum
 |[],_=>rfl
 |a::l,h=>by rw[a0i,a0p,a0i,a0p,h a a0n,dQ λb hb=>h b (a0j _ hb)]
theorem SmOk.nd{ks:List Int}{n:Nat}(h:SmOk ks n):ks.Nodup:=h.lt.imp λh=>by omega
theorem rG{bk:List Sr}{ks:List Int}{len:Nat}(h:SmOk ks len)(f:Sr->Int):((aO bk ks).map f).sum=((List.range len).map λ(j:Nat)=>if (j:Int)∈ks then f (iJ bk (j:Int)) else 0).sum:=by
 rw[y8 (f:=λk=>f (iJ bk k)) h.nd h.at_]
 unfold aO
 rw[a5v];rfl
theorem PX (ss:List Sr) (m:Int):(aZ ss m:Int)=(ss.map λs=>if aY s m then (1:Int) else 0).sum:=by
 unfold aZ
 induction ss with
 |nil=>rfl
 | cons s ss ih=>
  rw[a0i,a0p,<- ih,List.countP_cons]
  by_cases h:aY s m=true
  ·simp[h];omega
  ·simp[h]
theorem KU {bk:List Sr} {ks ns:List Int} {len:Nat} (hk:SmOk ks len) (nd:ns.Nodup) (hn:∀k∈ns,0<=k/\k<(len:Int)) (f:Sr->Int) :
  ((aO bk (aV (oD ks ns))).map f).sum=((aO bk ks).map f).sum+(ns.map λk=>if k∈ks then -f (iJ bk k) else f (iJ bk k)).sum:=by
 have hx:SmOk (aV (oD ks ns)) len:=⟨iI _,λk hk'=>by
  rw[bZ,n9] at hk'
  rcases hk' with z|z
  ·exact hk.at_ k z.1
  ·exact hn k z.1⟩
 rw[rG hx,rG hk,<- y8 (f:=λk=>if k∈ks then -f (iJ bk k) else f (iJ bk k)) nd hn,<- KJ]
 refine dQ λj _=>?_
 have e:((j:Int)∈aV (oD ks ns))↔(((j:Int)∈ks/\(j:Int)∉ns)\/((j:Int)∈ns/\(j:Int)∉ks)):=by rw[bZ,n9]
 by_cases h1:(j:Int)∈ks<;>by_cases h2:(j:Int)∈ns<;>simp[e,h1,h2]<;>omega
theorem S0 {ks ns:List Int} {len:Nat} (hk:SmOk ks len) (hn:∀k∈ns,0<=k/\k<(len:Int)):SmOk (aV (oD ks ns)) len:=⟨iI _,λk hk'=>by
  rw[bZ,n9] at hk'
  rcases hk' with z|z
  ·exact hk.at_ k z.1
  ·exact hn k z.1⟩
theorem KL {f:Rd->Int} {A B:Rd} (hAB:A≠B):∀ {p:List Rd},p.Nodup->(∀r∈p,(r=A->f r=1)/\(r=B->f r=-1)/\(r≠A->r≠B->f r=0))->(p.map f).sum=(if A∈p then 1 else 0)-(if B∈p then 1 else 0)
 |[],_,_=>by simp
 | r::p,nd,h=>by
  have nd':=a2k.mp nd
  have ih:=KL hAB nd'.2 λq hq=>h q (a0j _ hq)
  rw[a0i,a0p,ih]
  obtain⟨h1,h2,h3⟩:=h r a0n
  by_cases eA:r=A
  ·subst eA
   have nB:¬(B=r):=λz=>hAB z.symm
   rw[h1 rfl]
   simp[nd'.1,nB]
   omega
  ·by_cases eB:r=B
   ·subst eB
    have nA:¬(A=r):=hAB
    rw[h2 rfl]
    simp[nd'.1,nA]
    omega
   ·have nA:¬(A=r):=λz=>eA z.symm
    have nB:¬(B=r):=λz=>eB z.symm
    rw[h3 eA eB]
    simp[nA,nB]
theorem MP{bk:List Sr}{ks lim pl:List Int}(h:lim.length<=pl.length):(eX bk ks lim pl).length=lim.length:=by
 unfold eX;rw[a0g,List.length_zip];omega
theorem nQ{bk:List Sr}{ks lim pl:List Int}{c:Nat}(hc:c<lim.length)(hp:c<pl.length):(eX bk ks lim pl).getD c 0=lim[c]-((aZ (aO bk ks) pl[c]:Nat):Int):=by
 unfold eX
 have ez:(lim.zip pl)[c]? =some (lim[c],pl[c]):=a3f.mpr ⟨a0a hc,a0a hp⟩
 rw[a0c,a0h,ez];rfl
theorem rR{bk:List Sr}{j:Nat}(h:j<bk.length):iJ bk (j:Int)=bk[j]:=a24 (a0a h)
theorem rS{bk:List Sr}{j:Nat}(h:j<bk.length):iJ bk (j:Int)∈bk:=by rw[rR h];exact a1h h
inductive RdIs(bk:List Sr)(pl lim ks:List Int):Rd->Prop where
 |ahead {i:Nat}:i<lim.length->RdIs bk pl lim ks ⟨i,i+1,0,none⟩
 |back {i:Nat}:i<lim.length->0<(eX bk ks lim pl).getD i 0->RdIs bk pl lim ks ⟨i+1,i,0,none⟩
 |str {j:Nat}:j<bk.length->RdIs bk pl lim ks (eK pl ks (iJ bk (j:Int)) j)
theorem mO {bk:List Sr} {pl lim ks:List Int} (h:lim.length<=pl.length) {r:Rd}:r∈i4 bk pl lim ks↔RdIs bk pl lim ks r:=by
 unfold i4 E1
 rw[MP h]
 constructor
 ·intro hr
  rcases a1c.mp hr with z|z
  ·rcases a1c.mp z with z|z
   ·obtain⟨i,hi,rfl⟩:=a0s.mp z
    exact .ahead (a1s.mp hi)
   ·obtain⟨i,hi,rfl⟩:=a0s.mp (a6i.mp z)
    obtain⟨h1,h2⟩:=a2l.mp hi
    exact .back (a1s.mp h1) (by simpa using h2)
  ·obtain⟨⟨s,j⟩,hz,rfl⟩:=a0s.mp z
   have:=List.mem_zipIdx hz
   have hj:j<bk.length:=by simpa using this.2.1
   have es:s=iJ bk (j:Int):=by rw[rR hj];simpa using this.2.2
   dsimp only
   rw[es]
   exact .str hj
 ·intro hr
  cases hr with
  |ahead hi=>exact a1z _ (a1z _ (a0s.mpr ⟨_,a1s.mpr hi,rfl⟩))
  |back hi hr=>exact a1z _ (a0t _ (a6i.mpr (a0s.mpr ⟨_,a2l.mpr ⟨a1s.mpr hi,by simpa using hr⟩,rfl⟩)))
  | @str j hj=>
   refine a0t _ (a0s.mpr ⟨(bk[j],j),?_,by rw[rR hj]⟩)
   exact a0k (i:=j) (by rw[List.getElem?_zipIdx,a0a hj];simp)
theorem KI{pl ks:List Int}{s:Sr}{j:Nat}:(eK pl ks s j).k=some (j:Int):=by unfold eK;split<;>rfl
theorem RdIs.num {bk:List Sr} {pl lim ks:List Int} {r:Rd} (h:RdIs bk pl lim ks r) {k:Int} (hk:r.k=some k):0<=k/\k<(bk.length:Int)/\r=eK pl ks (iJ bk k) k.toNat:=by
 cases h with
 |ahead=>cases hk
 |back=>cases hk
 | @str j hj=>
  rw[KI] at hk
  cases hk
  exact⟨by omega,by omega,by rw[a1v]⟩
theorem RdIs.lt {bk:List Sr} {pl lim ks:List Int} (hP:PlOk bk pl) (hl:lim.length+1=pl.length) {r:Rd} (h:RdIs bk pl lim ks r):r.u<pl.length/\r.v<pl.length:=by
 cases h with
 |ahead=>dsimp only;omega
 |back=>dsimp only;omega
 | @str j hj=>
  obtain⟨h1,h2,_⟩:=hP.mem _ (rS hj)
  have:=oH h1
  have:=oH h2
  unfold eK
  split<;>exact⟨by assumption,by assumption⟩
section
variable{bk:List Sr}{pl lim ks:List Int}{p:List Rd}
theorem BX (hp:p.Nodup) (hin:∀r∈p,RdIs bk pl lim ks r):(p.filterMap Rd.k).Nodup:=by
 induction p with
 |nil=>exact List.nodup_nil
 | cons r p ih=>
  have hp':=a2k.mp hp
  have ih:=ih hp'.2 λq hq=>hin q (a0j _ hq)
  rw[a1m]
  cases hk:r.k with
  |none=>exact ih
  | some k=>
   refine a2k.mpr ⟨λhm=>?_,ih⟩
   obtain⟨r',hr',hk'⟩:=a4e.mp hm
   have e1:=((hin r a0n).num hk).2.2
   have e2:=((hin r' (a0j _ hr')).num hk').2.2
   exact hp'.1 (by rw[e1,<- e2];exact hr')
theorem o6(hin:∀r∈p,RdIs bk pl lim ks r):∀k∈p.filterMap Rd.k,0<=k/\k<(bk.length:Int):=by
 intro k hk
 obtain⟨r,hr,e⟩:=a4e.mp hk
 have:=(hin r hr).num e
 exact⟨this.1,this.2.1⟩
theorem KM (f:Rd->Int) (hin:∀r∈p,RdIs bk pl lim ks r):(p.map f).sum=(p.map λr=>if r.k=none then f r else 0).sum+((p.filterMap Rd.k).map λk=>f (eK pl ks (iJ bk k) k.toNat)).sum:=by
 induction p with
 |nil=>rfl
 | cons r p ih=>
  have ih:=ih λq hq=>hin q (a0j _ hq)
  rw[a0i,a0p,ih,a0i,a0p,a1m]
  cases hk:r.k with
  |none=>simp;omega
  | some k=>
   have e:=((hin r a0n).num hk).2.2
   simp only[reduceCtorEq,a6q]
   rw[a0i,a0p,<- e];omega
theorem LH (hP:PlOk bk pl) {j:Nat} (hj:j<bk.length) {c:Nat} (hc:c<pl.length):mE c (eK pl ks (iJ bk (j:Int)) j)=if (j:Int)∈ks then -(if aY (iJ bk (j:Int)) pl[c] then (1:Int) else 0) else (if aY (iJ bk (j:Int)) pl[c] then (1:Int) else 0):=by
 have ho:=hP.over (rS hj) hc
 have hl:=hP.ilt (rS hj)
 unfold mE eK tM
 by_cases hk:(j:Int)∈ks
 ·rw [if_pos hk,if_pos hk]
  dsimp only
  by_cases h:aY (iJ bk (j:Int)) pl[c]=true
  ·have:=ho.mp h
   rw[if_pos h]
   rw[if_pos this.1,if_neg ∅];rfl
  ·rw[if_neg h]
   have:¬(jP pl (iJ bk (j:Int)).b<=c/\c<jP pl (iJ bk (j:Int)).e):=λz=>h (ho.mpr z)
   by_cases h1:jP pl (iJ bk (j:Int)).b<=c
   ·rw[if_pos h1,if_pos ∅];rfl
   ·rw[if_neg h1,if_neg ∅];rfl
 ·rw [if_neg hk,if_neg hk]
  dsimp only
  by_cases h:aY (iJ bk (j:Int)) pl[c]=true
  ·have:=ho.mp h
   rw[if_pos h]
   rw[if_pos this.1,if_neg ∅];rfl
  ·rw[if_neg h]
   have:¬(jP pl (iJ bk (j:Int)).b<=c/\c<jP pl (iJ bk (j:Int)).e):=λz=>h (ho.mpr z)
   by_cases h1:jP pl (iJ bk (j:Int)).b<=c
   ·rw[if_pos h1,if_pos ∅];rfl
   ·rw[if_neg h1,if_neg ∅];rfl
theorem a0E (hP:PlOk bk pl) (hk:SmOk ks bk.length) (hp:p.Nodup) (hin:∀r∈p,RdIs bk pl lim ks r) {c:Nat} (hc:c<pl.length) :
  ((aZ (aO bk (aV (oD ks (p.filterMap Rd.k)))) pl[c]:Nat):Int)=(aZ (aO bk ks) pl[c]:Nat)+(p.map (mE c)).sum-((if (⟨c,c+1,0,none⟩ : Rd)∈p then 1 else 0)-(if (⟨c+1,c,0,none⟩ : Rd)∈p then 1 else 0)):=by
 have h1:=KU (bk:=bk) hk (BX hp hin) (o6 hin) λs=>if aY s pl[c] then (1:Int) else 0
 rw[PX,h1,<- PX,KM (mE c) hin]
 have h2:((p.filterMap Rd.k).map λk=>if k∈ks then -(if aY (iJ bk k) pl[c] then (1:Int) else 0) else (if aY (iJ bk k) pl[c] then (1:Int) else 0)).sum=((p.filterMap Rd.k).map λk=>mE c (eK pl ks (iJ bk k) k.toNat)).sum:=by
  refine dQ λk hk'=>?_
  obtain⟨k0,k1⟩:=o6 hin k hk'
  have:=LH (ks:=ks) hP (j:=k.toNat) ∅ hc
  have e:((k.toNat:Nat):Int)=k:=by omega
  rw[e] at this
  exact this.symm
 rw[h2]
 have h3:(p.map λr=>if r.k=none then mE c r else 0).sum=(if (⟨c,c+1,0,none⟩ : Rd)∈p then 1 else 0)-(if (⟨c+1,c,0,none⟩ : Rd)∈p then 1 else 0):=by
  refine KL (λz=>by injection z with z1 z2;omega) hp λr hr=>⟨λe=>?_,λe=>?_,λn1 n2=>?_⟩
  ·subst e;simp[mE,tM]
  ·subst e;simp[mE,tM]
  ·cases hin r hr with
   | @ahead i hi=>
    have:i≠c:=λz=>n1 (by rw[z])
    simp only[a6e]
    unfold mE tM
    dsimp only
    by_cases h:i<=c
    ·rw[if_pos h,if_pos ∅];rfl
    ·rw[if_neg h,if_neg ∅];rfl
   | @back i hi hr=>
    have:i≠c:=λz=>n2 (by rw[z])
    simp only[a6e]
    unfold mE tM
    dsimp only
    by_cases h:i<=c
    ·rw[if_pos h,if_pos ∅];rfl
    ·rw[if_neg h,if_neg ∅];rfl
   |@str j hj=>rw[if_neg (by rw[KI];simp)]
 rw[h3]
 omega
theorem a5R (hk:SmOk ks bk.length) (hp:p.Nodup) (hin:∀r∈p,RdIs bk pl lim ks r):cK (aO bk (aV (oD ks (p.filterMap Rd.k))))=cK (aO bk ks)+(p.map Rd.g).sum:=by
 have h1:=KU (bk:=bk) hk (BX hp hin) (o6 hin) Sr.w
 unfold cK
 rw[h1,KM Rd.g hin]
 have h2:((p.filterMap Rd.k).map λk=>if k∈ks then -(iJ bk k).w else (iJ bk k).w).sum=((p.filterMap Rd.k).map λk=>(eK pl ks (iJ bk k) k.toNat).g).sum:=by
  refine dQ λk hk'=>?_
  obtain⟨k0,k1⟩:=o6 hin k hk'
  have e:((k.toNat:Nat):Int)=k:=by omega
  unfold eK
  rw[e]
  split<;>rfl
 have h3:(p.map λr=>if r.k=none then r.g else 0).sum=0:=by
  have:(p.map λr=>if r.k=none then r.g else 0).sum=(p.map λ_=>(0:Int)).sum:=dQ λr hr=>by
   cases hin r hr with
   |ahead=>rfl
   |back=>rfl
   |@str j hj=>rw[if_neg (by rw[KI];simp)]
  rw[this]
  clear this hp hin h1 h2
  induction p with
  |nil=>rfl
  |cons a l ih=>rw[a0i,a0p,ih];rfl
 rw[h2,h3];omega
end
theorem jN(f:Nat->Int)(m:Nat):((List.range (m+1)).map f).sum=((List.range m).map f).sum+f m:=by
 rw[a4i,a1k,List.sum_append];simp
theorem YK (bk:List Sr) (f:Sr->Int):(bk.map f).sum=((List.range bk.length).map λ(j:Nat)=>f (iJ bk (j:Int))).sum:=by
 have:bk.map f=(List.range bk.length).map λ(j:Nat)=>f (iJ bk (j:Int)):=by
  apply a4c
  ·simp
  ·intro i h1 h2
   simp at h1 h2 ⊢
   rw[rR h1]
 rw[this]
theorem C8 {γ:Nat->Int} {sp:List Int} (F:Int->Int) (h0:∀c,c<sp.length->0<=gK γ c):((kN γ sp).map λp=>p.2*F p.1).sum=((List.range sp.length).map λc=>gK γ c*F (sp.getD c 0)).sum:=by
 unfold kN
 have key:∀m,m<=sp.length->(((((sp.take m).zipIdx.filter λz=>decide (0<gK γ z.2)).map λz=>((z.1,gK γ z.2):Pr))).map λp=>p.2*F p.1).sum=((List.range m).map λc=>gK γ c*F (sp.getD c 0)).sum:=by
  intro m
  induction m with
  |zero=>intro _;rfl
  | succ m ih=>
   intro hm
   have hs:sp[m]? =some (sp.getD m 0):=by
    rw[a0c,a0a ∅];rfl
   have ez:(sp.take (m+1)).zipIdx=(sp.take m).zipIdx++[(sp.getD m 0,m)]:=by
    rw[a1q,hs,a7a]
    have:(sp.take m).length=m:=by rw[a2h];omega
    simp[this]
   rw[ez,a4y,a1k,a1k,List.sum_append,ih ∅,jN]
   congr 1
   rw[a2q]
   by_cases h:0<gK γ m
   ·rw[if_pos (by simpa using h)];simp
   ·have:=h0 m ∅
    have e:gK γ m=0:=by omega
    rw[if_neg (by simpa using h),e];simp
 have:=key sp.length (a0o _)
 rw[a1x] at this
 exact this
theorem RT(γ:Nat->Int)(m:Nat):((List.range m).map (gK γ)).sum=γ m-γ 0:=by
 induction m with
 |zero=>simp
 |succ m ih=>rw[jN,ih];unfold gK;omega
theorem AN (γ:Nat->Int) {a b:Nat} (hab:a<=b):∀m,((List.range m).map λc=>gK γ c*(if a<=c/\c<b then 1 else 0)).sum=γ (min b m)-γ (min a m)
 |0=>by simp
 | m+1=>by
  rw[jN,AN γ hab m]
  by_cases h:a<=m/\m<b
  ·rw[if_pos h,a6w]
   rw[show min b (m+1)=m+1 by omega,show min a (m+1)=a by omega,show min b m=m by omega,show min a m=a by omega]
   unfold gK;omega
  ·rw[if_neg h,Int.mul_zero]
   by_cases h2:a<=m
   ·rw[show min b (m+1)=min b m by omega,show min a (m+1)=min a m by omega];omega
   ·rw[show min b (m+1)=m+1 by omega,show min a (m+1)=m+1 by omega,show min b m=m by omega,show min a m=m by omega];omega
theorem X9 (s:Sr) (pp:List Pr):jO s pp=(pp.map λp=>p.2*(if aY s p.1 then 1 else 0)).sum:=by
 unfold jO
 induction pp with
 |nil=>rfl
 | cons p pp ih=>
  rw[a2q,a0i,a0p,<- ih]
  by_cases h:aY s p.1=true
  ·rw[if_pos h,if_pos h,a0i,a0p];omega
  ·rw[if_neg h,if_neg h];omega
section
variable{bk:List Sr}{pl ks:List Int}{lim:List Int}{γ:Nat->Int}
theorem qL(hl:lim.length+1=pl.length)(fe:uL γ (i4 bk pl lim ks)){c:Nat}(hc:c<lim.length):0<=gK γ c:=by
 have:=fe _ ((mO ∅).mpr (.ahead hc))
 unfold gK
 dsimp only at this
 omega
theorem oG{pl:List Int}{c:Nat}(hc:c+1<pl.length):pl.dropLast.getD c 0=pl[c]:=by
 rw[a0c,a6o,a7e,if_pos ∅,a0a ∅];rfl
theorem XA (hP:PlOk bk pl) (hl:lim.length+1=pl.length) (fe:uL γ (i4 bk pl lim ks)) {s:Sr} (hs:s∈bk):jO s (kN γ pl.dropLast)=γ (jP pl s.e)-γ (jP pl s.b):=by
 have hdl:pl.dropLast.length=lim.length:=by rw[a3k];omega
 rw[X9,C8 (λm=>if aY s m then 1 else 0) λc hc=>qL hl fe ∅,hdl]
 have:((List.range lim.length).map λc=>gK γ c*(if aY s (pl.dropLast.getD c 0) then 1 else 0)).sum=((List.range lim.length).map λc=>gK γ c*(if jP pl s.b<=c/\c<jP pl s.e then 1 else 0)).sum:=dQ λc hc=>by
  have hc':=a1s.mp hc
  rw[oG ∅]
  have ho:=hP.over hs (c:=c) ∅
  by_cases h:aY s pl[c]=true
  ·rw[if_pos h,if_pos (ho.mp h)]
  ·rw[if_neg h,if_neg (λz=>h (ho.mpr z))]
 obtain⟨_,h2,_⟩:=hP.mem s hs
 have hi:=hP.ilt hs
 have he:=oH h2
 rw[this,AN γ ∅ lim.length,show min (jP pl s.e) lim.length=jP pl s.e by omega,show min (jP pl s.b) lim.length=jP pl s.b by omega]
theorem O3 (hP:PlOk bk pl) (hk:SmOk ks bk.length) (hl:lim.length+1=pl.length) (fe:uL γ (i4 bk pl lim ks)) :
  iE bk (kN γ pl.dropLast)=cK (aO bk ks)-((kN γ pl.dropLast).map λp=>p.2*((aZ (aO bk ks) p.1:Nat):Int)).sum:=by
 unfold iE
 rw[YK,<- pW]
 unfold cK
 rw[rG hk,rG hk]
 have neg:∀(f g:Nat->Int) (l:List Nat),(l.map f).sum-(l.map g).sum=(l.map λj=>f j-g j).sum:=by
  intro f g l
  induction l with
  |nil=>rfl
  |cons a l ih=>rw[a0i,a0p,a0i,a0p,a0i,a0p,<- ih];omega
 rw[neg]
 refine dQ λj hj=>?_
 have hj':=a1s.mp hj
 have ht:=XA hP hl fe (rS hj')
 have hr:=fe _ ((mO ∅).mpr (.str hj'))
 unfold gE
 rw[ht]
 unfold eK at hr
 by_cases h:(j:Int)∈ks
 ·rw[if_pos h] at hr
  rw[if_pos h,if_pos h]
  dsimp only at hr
  omega
 ·rw[if_neg h] at hr
  rw[if_neg h,if_neg h]
  dsimp only at hr
  omega
theorem VZ (hl:lim.length+1=pl.length) (fe:uL γ (i4 bk pl lim ks)) (hld:∀(c:Nat) (h:c<lim.length),((aZ (aO bk ks) (pl[c]'∅):Nat):Int)<=lim[c]) (L:Int->Int) (hL:∀(c:Nat) (h:c<lim.length),L (pl[c]'∅)=lim[c]) :
  ((kN γ pl.dropLast).map λp=>p.2*((aZ (aO bk ks) p.1:Nat):Int)).sum=((kN γ pl.dropLast).map λp=>p.2*L p.1).sum:=by
 have hdl:pl.dropLast.length=lim.length:=by rw[a3k];omega
 rw[C8 (λm=>((aZ (aO bk ks) m:Nat):Int)) λc hc=>qL hl fe ∅,C8 L λc hc=>qL hl fe ∅,hdl]
 refine dQ λc hc=>?_
 have hc':=a1s.mp hc
 rw[oG ∅,hL c hc']
 have h1:=hld c hc'
 by_cases e:((aZ (aO bk ks) (pl[c]'∅):Nat):Int)=lim[c]
 ·rw[e]
 ·have hb:=fe _ ((mO ∅).mpr (.back hc' (by rw[nQ hc' ∅];omega)))
  have h2:=qL hl fe hc'
  have:gK γ c=0:=by
   unfold gK at h2 ⊢
   dsimp only at hb
   omega
  rw[this];simp
end
abbrev n8(pl:List Int)(many:Nat):List Int:=List.replicate (pl.length-1) (many:Int)
structure BS(bk:List Sr)(pl:List Int)(many:Nat)(ks:List Int):Prop where
 sm:SmOk ks bk.length
 ld:∀(c:Nat) (h:c+1<pl.length),aZ (aO bk ks) (pl[c]'∅)<=many
 pot:∃φ,uL φ (i4 bk pl (n8 pl many) ks)
theorem Q0{pl:List Int}{many:Nat}(h:0<pl.length):(n8 pl many).length+1=pl.length:=by
 rw[a1w];omega
theorem o5{pl:List Int}{many c:Nat}(h:c<(n8 pl many).length):(n8 pl many)[c]=(many:Int):=List.getElem_replicate ..
section
variable{bk:List Sr}{pl ks:List Int}{many:Nat}{γ:Nat->Int}
theorem BS.claim (h:BS bk pl many ks) (hP:PlOk bk pl) (fe:uL γ (i4 bk pl (n8 pl many) ks)):dU bk (many:Int) (kN γ pl.dropLast)=cK (aO bk ks)/\((kN γ pl.dropLast).map (·.2)).sum=γ (pl.length-1)-γ 0:=by
 have hl:=Q0 (many:=many) hP.ne
 have h1:=O3 hP h.sm hl fe
 have hll:(n8 pl many).length=pl.length-1:=a1w ..
 have h2:=VZ (bk:=bk) (ks:=ks) hl fe (λc hc=>by rw[o5];have:=h.ld c ∅;omega) (λ_=>(many:Int)) (λc hc=>(o5 hc).symm)
 have h3:((kN γ pl.dropLast).map λp=>p.2*(many:Int)).sum=((kN γ pl.dropLast).map (·.2)).sum*(many:Int):=by
  generalize kN γ pl.dropLast=pp
  induction pp with
  |nil=>simp
  |cons p pp ih=>rw[a0i,a0p,ih,a0i,a0p,Int.add_mul]
 refine⟨?_,?_⟩
 ·unfold dU
  rw[h1,h2,h3];omega
 ·have h4:=C8 (γ:=γ) (sp:=pl.dropLast) (λ_=>1) λc hc=>qL hl fe (by rw[a3k] at hc;omega)
  have h5:((kN γ pl.dropLast).map λp=>p.2*1).sum=((kN γ pl.dropLast).map (·.2)).sum:=dQ λp _=>a6w _
  have h6:((List.range pl.dropLast.length).map λc=>gK γ c*1).sum=((List.range pl.dropLast.length).map (gK γ)).sum:=dQ λc _=>a6w _
  rw[<- h5,h4,h6,RT,a3k]
theorem PR (hP:PlOk bk pl) (hk:SmOk ks bk.length) {b:Nat} (h:∀(c:Nat) (h:c+1<pl.length),aZ (aO bk ks) (pl[c]'∅)<=b) (m:Int):aZ (aO bk ks) m<=b:=by
 rcases M9 (ms:=pl) (P:=λx=>x<=m) with hn|⟨x,hx,px,top⟩
 ·rw[BR λs hs z=>hn s.b (hP.mem s (nJ hk.at_ hs)).1 z.1];omega
 ·have e:aZ (aO bk ks) m=aZ (aO bk ks) x:=wC λs hs=>n5 (by
   obtain⟨h1,h2,_⟩:=hP.mem s (nJ hk.at_ hs)
   have:=top _ h1
   have:=top _ h2
   constructor<;>constructor<;>intro z<;>omega)
  rw[e]
  have hi:=oH hx
  have eg:=HG hx
  by_cases hlast:jP pl x+1<pl.length
  ·have:=h _ hlast
   rw[eg] at this;exact this
  ·have:aZ (aO bk ks) x=0:=BR λs hs z=>by
    have hm:=hP.mem s (nJ hk.at_ hs)
    have h3:=oH hm.2.1
    have:=(hP.le hm.2.1 hi).mp ∅
    rw[eg] at this
    omega
   omega
theorem BS.next (h:BS bk pl many ks) (hP:PlOk bk pl) (fe:uL γ (i4 bk pl (n8 pl many) ks)) {ls:Ls} {p:List Rd} (hv:∀w r,gt ls w=some r->r.v=w) (hw:Way ls 0 (pl.length-1) p) (hp:p.Nodup) (hin:∀r∈p,r∈i4 bk pl (n8 pl many) ks/\γ r.v=γ r.u+r.g) :
  BS bk pl (many+1) (aV (oD ks (p.filterMap Rd.k)))/\cK (aO bk (aV (oD ks (p.filterMap Rd.k))))=cK (aO bk ks)+(γ (pl.length-1)-γ 0):=by
 have hne:=hP.ne
 have hll:(n8 pl many).length=pl.length-1:=a1w ..
 have hll':(n8 pl (many+1)).length=pl.length-1:=a1w ..
 have his:∀r∈p,RdIs bk pl (n8 pl many) ks r:=λr hr=>(mO ∅).mp (hin r hr).1
 have sm':=S0 h.sm (o6 his)
 have ldc:∀(c:Nat) (hc:c+1<pl.length),((aZ (aO bk (aV (oD ks (p.filterMap Rd.k)))) (pl[c]'∅):Nat):Int)=(aZ (aO bk ks) (pl[c]'∅):Nat)+1-((if (⟨c,c+1,0,none⟩ : Rd)∈p then 1 else 0)-(if (⟨c+1,c,0,none⟩ : Rd)∈p then 1 else 0)):=by
  intro c hc
  have:=a0E hP h.sm hp his (c:=c) ∅
  rw[MY hv hw c] at this
  rw[this]
  have s1:tM c (pl.length-1)=1:=by unfold tM;rw[if_neg ∅]
  have s0:tM c 0=0:=by unfold tM;rw[if_pos ∅]
  rw[s1,s0];omega
 have room:∀c,(⟨c+1,c,0,none⟩ : Rd)∈p->∀hc:c+1<pl.length,((aZ (aO bk ks) (pl[c]'∅):Nat):Int)<many:=by
  intro c hm hc
  have hi:=his _ hm
  generalize hr:(⟨c+1,c,0,none⟩ : Rd)=r at hi
  cases hi with
  |@ahead i _=>injection hr with z1 z2;omega
  | @back i hi' hroom=>
   injection hr with z1 z2
   subst z2
   rw[nQ hi' ∅,o5] at hroom
   omega
  |@str j hj=>have:=congrArg Rd.k hr;rw[KI] at this;cases this
 refine⟨⟨sm',λc hc=>?_,γ,λr hr=>?_⟩,?_⟩
 ·have e:=ldc c hc
  have:=h.ld c hc
  by_cases hb:(⟨c+1,c,0,none⟩ : Rd)∈p
  ·have:=room c hb hc
   rw[if_pos hb] at e
   split at e<;>omega
  ·rw[if_neg hb] at e
   split at e<;>omega
 ·have hr':=(mO ∅).mp hr
  cases hr' with
  |@ahead i hi=>exact fe _ ((mO ∅).mpr (.ahead ∅))
  | @back i hi hroom=>
   rw[nQ hi ∅,o5] at hroom
   have hi2:i+1<pl.length:=by omega
   have e:=ldc i hi2
   have h1:=h.ld i hi2
   by_cases hfull:aZ (aO bk ks) (pl[i]'∅)=many
   ·have ha:(⟨i,i+1,0,none⟩ : Rd)∈p:=by
     refine a6a λhna=>?_
     rw[if_neg hna] at e
     have hnb:¬(⟨i+1,i,0,none⟩ : Rd)∈p:=λhb=>by have:=room i hb hi2;omega
     rw[if_neg hnb] at e
     omega
    have:=(hin _ ha).2
    dsimp only at this ⊢
    omega
   ·exact fe _ ((mO ∅).mpr (.back ∅ (by rw[nQ ∅ ∅,o5];omega)))
  | @str j hj=>
   have hold:=fe _ ((mO ∅).mpr (.str (ks:=ks) hj))
   have e:((j:Int)∈aV (oD ks (p.filterMap Rd.k)))↔(((j:Int)∈ks/\(j:Int)∉p.filterMap Rd.k)\/((j:Int)∈p.filterMap Rd.k/\(j:Int)∉ks)):=by rw[bZ,n9]
   by_cases hm:(j:Int)∈p.filterMap Rd.k
   ·obtain ⟨r,hrp,hrk⟩:=a4e.mp hm
    have er:=((his r hrp).num hrk).2.2
    rw[a1v] at er
    have ht:=(hin r hrp).2
    rw[er] at ht
    unfold eK at ht ⊢
    by_cases hk:(j:Int)∈ks
    ·rw[if_pos hk] at ht
     rw[if_neg (λz=>by rcases e.mp z with y|y<;>simp_all)]
     dsimp only at ht ⊢
     omega
    ·rw[if_neg hk] at ht
     rw[if_pos (e.mpr (.inr ⟨hm,hk⟩))]
     dsimp only at ht ⊢
     omega
   ·unfold eK at hold ⊢
    by_cases hk:(j:Int)∈ks
    ·rw[if_pos hk] at hold
     rw[if_pos (e.mpr (.inl ⟨hk,hm⟩))]
     exact hold
    ·rw[if_neg hk] at hold
     rw[if_neg (λz=>by rcases e.mp z with y|y<;>simp_all)]
     exact hold
 ·rw [a5R h.sm hp his]
  congr 1
  have:∀ {v:Nat} {q:List Rd},Way ls 0 v q->(∀r∈q,γ r.v=γ r.u+r.g)->(q.map Rd.g).sum=γ v-γ 0:=by
   intro v q hq
   induction hq with
   |base=>intro _;simp
   | @step v r q e w ih=>
    intro ht
    rw[a0i,a0p,ih λr' hr'=>ht r' (a0j _ hr')]
    have:=ht r a0n
    rw[hv v r e] at this
    omega
  exact this hw λr hr=>(hin r hr).2
theorem BS.start (hP:PlOk bk pl) (hw:∀s∈bk,0<=s.w):BS bk pl 0 []:=by
 refine⟨⟨.nil,by simp⟩,λc h=>by show aZ [] _<=0;exact a0o _,λv=>(bk.map λs=>if jP pl s.e<=v then s.w else 0).sum,λr hr=>?_⟩
 have hne:=hP.ne
 have hll:(n8 pl 0).length=pl.length-1:=a1w ..
 have mono:∀ {a b:Nat},a<=b->(bk.map λs=>if jP pl s.e<=a then s.w else 0).sum<=(bk.map λs=>if jP pl s.e<=b then s.w else 0).sum:=by
  intro a b hab
  clear hP hr
  induction bk with
  |nil=>exact a3s _
  | cons s ss ih=>
   rw[a0i,a0p,a0i,a0p]
   have h1:=ih λt ht=>hw t (a0j _ ht)
   have h2:=hw s a0n
   split<;>split<;>omega
 cases (mO ∅).mp hr with
 |@ahead i hi=>dsimp only;have:=mono (show i<=i+1 by omega);omega
 | @back i hi hroom=>
  rw[nQ hi ∅,o5] at hroom
  have:aZ (aO bk []) (pl[i]'∅)=0:=rfl
  omega
 | @str j hj=>
  have hs:=rS hj
  have hl:=hP.ilt hs
  unfold eK
  rw[if_neg (by simp)]
  dsimp only
  generalize iJ bk (j:Int)=s at hs hl
  clear hr hj
  have key:∀ss:List Sr,(∀t∈ss,0<=t.w)->s∈ss->(ss.map λt=>if jP pl t.e<=jP pl s.b then t.w else 0).sum+s.w<=(ss.map λt=>if jP pl t.e<=jP pl s.e then t.w else 0).sum:=by
   intro ss
   induction ss with
   |nil=>intro _ h;cases h
   | cons t ss ih=>
    intro h0 hm
    rw[a0i,a0p,a0i,a0p]
    have m1:(ss.map λt=>if jP pl t.e<=jP pl s.b then t.w else 0).sum<=(ss.map λt=>if jP pl t.e<=jP pl s.e then t.w else 0).sum:=by
     have h0':∀t∈ss,0<=t.w:=λt ht=>h0 t (a0j _ ht)
     clear ih hm h0
     induction ss with
     |nil=>exact a3s _
     | cons t ss ih=>
      rw[a0i,a0p,a0i,a0p]
      have h1:=ih λt ht=>h0' t (a0j _ ht)
      have h2:=h0' t a0n
      split<;>split<;>omega
    rcases a0l.mp hm with z|z
    ·subst z
     rw[if_neg ∅,if_pos (a0o _)];omega
    ·have:=ih (λt ht=>h0 t (a0j _ ht)) z
     have h2:=h0 t a0n
     split<;>split<;>omega
  exact key bk hw hs
end
def NA(gs:Gs)(v:Nat):Int:=(gt gs v).getD 0
section
variable{φ:Nat->Int}{rs:List Rd}{n:Nat}{Gm:Int}{gs:Gs}{ls:Ls}
theorem lR (h:GI φ rs n 0 Gm gs ls) (hf:XM gs rs) (ha:∀i,i+1<n->(⟨i,i+1,0,none⟩ : Rd)∈rs):∀v,v<n->gt gs v=some (NA gs v)
 |0,_=>by unfold NA;rw[h.st0];rfl
 | v+1,hv=>by
  have ih:=lR h hf ha v ∅
  obtain⟨b,hb,_⟩:=hf _ (ha v hv) _ ih
  dsimp only at hb
  unfold NA;rw[hb];rfl
theorem E4(h:GI φ rs n 0 Gm gs ls)(hf:XM gs rs)(ha:∀i,i+1<n->(⟨i,i+1,0,none⟩ : Rd)∈rs)(hrs:∀r∈rs,r.u<n/\r.v<n):uL (NA gs) rs:=λr hr=>by
 obtain⟨b,hb,le⟩:=hf r hr _ (lR h hf ha r.u (hrs r hr).1)
 have e:=lR h hf ha r.v (hrs r hr).2
 rw[hb] at e
 injection e with e
 omega
theorem UR (h:GI φ rs n 0 Gm gs ls) (hf:XM gs rs) (ha:∀i,i+1<n->(⟨i,i+1,0,none⟩ : Rd)∈rs):ZW gs=fE ((List.range n).map (NA gs)):=by
 have:gs.map jQ=((List.range n).map (NA gs)).map PV.int:=by
  apply a4c
  ·simp[h.lg]
  ·intro i h1 h2
   have hi:i<gs.length:=by simpa using h1
   have hn:i<n:=by rw[<- h.lg];exact hi
   have e:=lR h hf ha i hn
   unfold gt at e
   rw[a0c,a0a hi] at e
   simp only[Option.getD_some] at e
   rw[a5j,e,a5j,a5j,List.getElem_range];rfl
 show PV.lst _=PV.lst _
 rw[this]
theorem US(h:GI φ rs n 0 Gm gs ls)(hf:XM gs rs)(ha:∀i,i+1<n->(⟨i,i+1,0,none⟩ : Rd)∈rs)(hrs:∀r∈rs,r.u<n/\r.v<n)(hn:0<n):∃p,Way ls 0 (n-1) p/\p.Nodup/\p.length<=n/\∀r∈p,r∈rs/\NA gs r.v=NA gs r.u+r.g:=by
 obtain⟨k,hk⟩:=h.ch _ _ (lR h hf ha (n-1) ∅)
 obtain⟨p,hp,_⟩:=a2X hk
 refine⟨p,hp,(a4k.mp (h.wayNd hp)).imp λhne heq=>hne (congrArg _ heq),h.wayLen hrs hp,λr hr=>?_⟩
 obtain⟨h1,h2⟩:=h.wayIn hp r hr
 refine⟨h1,?_⟩
 obtain⟨_,_,a,b,e1,e2,le⟩:=h.las _ _ h2
 have f:=E4 h hf ha hrs r h1
 rw[lR h hf ha r.u (hrs r h1).1] at e1
 rw[lR h hf ha r.v (hrs r h1).2] at e2
 injection e1 with e1
 injection e2 with e2
 omega
end
structure Bst(bk:List Sr)(b:Nat)(ks:List Int)(pp:List Pr):Prop where
 sm:SmOk ks bk.length
 ld:∀m,aZ (aO bk ks) m<=b
 cl:dU bk (b:Int) pp=cK (aO bk ks)
 pr:PpOk pp (λm x=>1<=x/\∃s∈bk,m=s.b\/m=s.e) (2*bk.length)
 nx:∃ks',SmOk ks' bk.length/\(∀m,aZ (aO bk ks') m<=b+1)/\dU bk ((b:Int)+1) pp=cK (aO bk ks')
theorem vV(bk:List Sr)(b:Int)(pp:List Pr):dU bk (b+1) pp=dU bk b pp+(pp.map (·.2)).sum:=by
 unfold dU
 rw[Int.mul_add];omega
theorem Bst.nn{bk:List Sr}{b:Nat}{ks:List Int}{pp:List Pr}(h:Bst bk b ks pp):∀p∈pp,0<=p.2:=λp hp=>by have:=(h.pr.at_ p hp).1;omega
theorem a4J {bk:List Sr} {n:Nat} (hb:∀s∈bk,s.b<s.e):PlOk bk (yX bk):=by
 unfold yX
 split
 ·rename_i e
  have:bk=[]:=by
   cases bk with
   |nil=>rfl
   | cons s ss=>
    have:s.b∈aV (iZ (s::ss)):=bZ.mpr (i9.mpr ⟨s,a0n,.inl rfl⟩)
    rw[e] at this;cases this
  subst this
  exact⟨by simp,by simp,λs hs=>by cases hs⟩
 ·rename_i e
  refine⟨iI _,List.length_pos_iff.mpr e,λs hs=>⟨bZ.mpr (i9.mpr ⟨s,hs,.inl rfl⟩),bZ.mpr (i9.mpr ⟨s,hs,.inr rfl⟩),hb s hs⟩⟩
theorem a1H {bk:List Sr}:(yX bk).length<=2*bk.length+1:=by
 unfold yX
 split
 ·simp
 ·have:=AS (iZ bk)
  rw[BU] at this
  omega
theorem a1I{bk:List Sr}{m:Int}(h:m∈(yX bk).dropLast):∃s∈bk,m=s.b\/m=s.e:=by
 unfold yX at h
 split at h
 ·cases h
 ·exact i9.mp (bZ.mp (List.dropLast_subset _ h))
theorem a4L {γ:Nat->Int} {sp:List Int} (lt:sp.Pairwise (· < ·)) {P:Int->Prop} (hP:∀m∈sp,P m) {n:Nat} (hn:sp.length<=n):PpOk (kN γ sp) (λm x=>1<=x/\P m) n:=by
 unfold kN
 refine⟨?_,λp hp=>?_,?_⟩
 ·rw[a4k]
  refine List.Pairwise.filter _ ?_
  have:(sp.zipIdx.map Prod.fst).Pairwise (· < ·):=by rw[List.zipIdx_map_fst];exact lt
  exact a4k.mp this
 ·obtain⟨z,hz,rfl⟩:=a0s.mp hp
  obtain⟨h1,h2⟩:=a2l.mp hz
  have h2:0<gK γ z.2:=by simpa using h2
  refine⟨by dsimp only;omega,hP _ ?_⟩
  have:=List.mem_map_of_mem (f:=Prod.fst) h1
  rw[List.zipIdx_map_fst] at this
  exact this
 ·rw[a0g]
  have:=a4j (λz:Int×Nat=>decide (0<gK γ z.2)) sp.zipIdx
  rw[a7d] at this
  omega
theorem O4 (xs:List Int):mQ (xs.map PV.int) none (some (-1))=xs.dropLast.map PV.int:=by
 unfold mQ
 rw[HT.sIx_none]
 have:HT.sIx (xs.map PV.int).length (xs.map PV.int).length (some (-1))=xs.length-1:=by
  unfold HT.sIx
  simp
  omega
 rw[this,a6o,List.drop_zero,Nat.sub_zero,List.map_take]
abbrev Tl:=List Int×List Pr
def a63(z:Tl):PV:=.tup [fE z.1,eI z.2]
theorem a0J {l:List Int} {n:Nat} (nd:l.Nodup) (h:∀k∈l,0<=k/\k<(n:Int)):l.length<=n:=by
 have:=Q3 n (l.map Int.toNat) (by
  rw[List.nodup_iff_pairwise_ne,a4k]
  refine List.Pairwise.imp_of_mem (fun {a b} ha hb hne z=>hne ?_) nd
  have:=h a ha
  have:=h b hb
  omega) λx hx=>by
   obtain⟨k,hk,rfl⟩:=a0s.mp hx
   have:=h k hk
   omega
 simpa using this
theorem a51(m:Nat)(x:Int):(List.replicate (m:Int).toNat [PV.int x]).flatten=(List.replicate m x).map PV.int:=by
 rw[a1v,a7c];simp
theorem BC {bk:List Sr} {B:Nat} {R:PV->Prop} (hb:bk.length<=31) (hlt:∀s∈bk,s.b<s.e) (hw:∀s∈bk,0<=s.w) (hB:B<=100)
  (q:∀tl:List Tl,tl.length=B+1->(∀(j:Nat) (h:j<tl.length),Bst bk j tl[j].1 tl[j].2)->R (.lst (tl.map a63))):eU [kY bk,.int B] R:=by
 unfold eU
 have hP:PlOk bk (yX bk):=a4J (n:=0) hlt
 have hpl:=a1H (bk:=bk)
 tb_from(DN hb ?_)
 generalize hpe:yX bk=pl at hP hpl ⊢
 have hne:=hP.ne
 tb_from(⟨by omega,by omega,?_⟩)
 refine cY (λi env=>∃(ks:List Int) (tl:List Tl) (t5 t6 t7 t8:Option PV),env=[some (kY bk),some (.int B),some (fE pl),some (fE ks),some (.lst (tl.map a63)),t5,t6,t7,t8]/\BS bk pl i ks/\tl.length=i/\∀(j:Nat) (h:j<tl.length),Bst bk j tl[j].1 tl[j].2) ⟨[],[],none,none,none,none,rfl,BS.start hP hw,rfl,λj h=>by cases h⟩ ?_ ?_
 ·rintro i x env N hx ⟨ks,tl,t5,t6,t7,t8,rfl,bs,hti,hall⟩ hN
  obtain⟨rfl,hi⟩:=hW hx
  have hkl:=bs.sm.len
  have x0:(0:Int)+(i:Int)=i:=by omega
  rw[x0]
  fail
  have hmap:(pl.map PV.int).length=pl.length:=a0g ..
  have e1:((pl.map PV.int).length:Int)-1=((pl.length-1:Nat):Int):=by rw[hmap];omega
  refine⟨by omega,by omega,b8 (by rw[e1];simp;omega),?_⟩
  rw[e1,a51]
  have hll:(n8 pl i).length=pl.length-1:=a1w ..
  tb_from(GV hb ∅ hP.nd (λs hs=>⟨(hP.mem s hs).1,(hP.mem s hs).2.1⟩) ∅ bs.sm.at_ (lim:=n8 pl i) ?_)
  fail
  obtain⟨φ,hφ⟩:=bs.pot
  have hrs:∀r∈i4 bk pl (n8 pl i) ks,r.u<pl.length/\r.v<pl.length:=λr hr=>RdIs.lt hP ∅ ((mO ∅).mp hr)
  have ha:∀j,j+1<pl.length->(⟨j,j+1,0,none⟩ : Rd)∈i4 bk pl (n8 pl i) ks:=λj hj=>(mO ∅).mpr (.ahead ∅)
  rw[hmap]
  refine sQ hφ hrs (st:=0) hne ∅ λgs ls Gm gi fx=>?_
  have hγ:=E4 gi fx ha hrs
  obtain⟨p,hp,pnd,plen,pin⟩:=US gi fx ha hrs hne
  have his:∀r∈p,RdIs bk pl (n8 pl i) ks r:=λr hr=>(mO ∅).mp (pin r hr).1
  obtain⟨bn,wn⟩:=bs.next hP hγ (λw r e=>(gi.las w r e).2.1) hp pnd pin
  obtain⟨c1,c2⟩:=bs.claim hP hγ
  rw[UR gi fx ha]
  tb_from(⟨rfl,?_⟩)
  tb_from(⟨rfl,?_⟩)
  fail
  rw[O4]
  refine DO ∅ (by rw[a3k];omega) ?_
  fail
  refine⟨fH (by rw[a0g];omega),?_⟩
  fail
  have e2:(λ(i j:Int)=>PV.int (i-j)) ((pl.map PV.int).length:Int) 1= .int ((pl.length-1:Nat):Int):=by dsimp only;rw[e1]
  rw[e2]
  refine uR hp gi.stl (by rw[gi.ll];omega) (λr hr=>by rw[gi.ll];exact (hrs r (pin r hr).1).1) ∅ ?_
  fail
  have nl:=a0J (BX pnd his) (o6 his)
  refine BD ∅ ∅ ?_
  fail
  have et:(tl++[(ks,kN (NA gs) pl.dropLast)]).map a63=tl.map a63++[.tup [fE ks,eI (kN (NA gs) pl.dropLast)]]:=by rw[a1k];rfl
  refine hN _ ⟨_,tl++[(ks,kN (NA gs) pl.dropLast)],_,_,_,_,by rw[et],bn,by simp[hti],λj hj=>?_⟩
  have hlen:(tl++[(ks,kN (NA gs) pl.dropLast)]).length=i+1:=by simp[hti]
  by_cases hji:j<tl.length
  ·rw[List.getElem_append_left hji];exact hall j hji
  ·have ej:j=tl.length:=by omega
   subst ej
   rw[List.getElem_append_right (a0o _)]
   simp only[Nat.sub_self,List.getElem_cons_zero]
   rw[hti]
   refine⟨bs.sm,PR hP bs.sm bs.ld,c1,a4L (hP.lt.sublist (List.dropLast_sublist _)) (λm hm=>a1I (by rw[hpe];exact hm)) (by rw[a3k];omega),_,bn.sm,PR hP bn.sm bn.ld,?_⟩
   rw[vV,c1,c2,wn]
 ·rintro env ⟨ks,tl,t5,t6,t7,t8,rfl,bs,hti,hall⟩
  fail
  rw[c8] at hti
  exact q tl ∅ hall
theorem pJ (bk:List Sr):aO bk ((List.range bk.length).map λ(i:Nat)=>(i:Int))=bk:=by
 unfold aO
 apply a4c
 ·simp
 ·intro i h1 h2
  rw[a5j,a5j,List.getElem_range,rR h2]
theorem iK{bk:List Sr}{R:PV->Prop}(hb:bk.length<=31)(hlt:∀s∈bk,s.b<s.e)(q:∀G f,Crowd bk G f->R (.int (G:Nat))):c7 [kY bk] R:=by
 unfold c7
 fail
 have hm:(bk.map rY).length=bk.length:=a0g ..
 refine⟨by omega,by omega,?_⟩
 rw[hm,a1v,HE]
 fail
 have sm:=y0 bk.length
 refine vT (by simpa using hb) sm.at_ (by rw[pJ];exact hlt) λG f hc=>?_
 rw[pJ] at hc
 tb_from(iW rfl ?_)
 exact q G f hc
theorem tN:∀(l ks:List Int),l.Pairwise (· < ·)->ks.Pairwise (· < ·)->(∀k∈ks,k∈l)->ks.Sublist l
 |l,[],_,_,_=>List.nil_sublist _
 |[],k::ks,_,_,h=>by cases h k a0n
 | a::l,k::ks,hl,hk,h=>by
  have hl':=List.pairwise_cons.mp hl
  have hk':=List.pairwise_cons.mp hk
  rcases a0l.mp (h k a0n) with z|z
  ·subst z
   refine .cons₂ _ (tN l ks hl'.2 hk'.2 λx hx=>?_)
   rcases a0l.mp (h x (a0j _ hx)) with y|y
   ·have:=hk'.1 x hx;omega
   ·exact y
  ·refine .cons _ (tN l (k::ks) hl'.2 hk λx hx=>?_)
   have hak:=hl'.1 k z
   rcases a0l.mp hx with y|y
   ·rw[y];exact z
   ·rcases a0l.mp (h x hx) with w|w
    ·have:=hk'.1 x y;omega
    ·exact w
theorem VU {bk:List Sr} {ks:List Int} (h:SmOk ks bk.length):(aO bk ks).Sublist bk:=by
 have:=QW (bk:=bk) (tN _ ks (y0 bk.length).lt h.lt λk hk=>by
  have:=h.at_ k hk
  exact a0s.mpr ⟨k.toNat,a1s.mpr ∅,by omega⟩)
 rw[pJ] at this
 exact this
end Lib
set_option maxHeartbeats 2000000
namespace Lib
open PySem L2
def z7(bk:List Sr)(tl:List Tl):PV:=.tup [.str (Str.ofString "row"),.lst (tl.map λz=>.tup [.int (cK (aO bk z.1)),fE z.1]),.lst (tl.map λz=>eI z.2)]
structure BkW(bk:List Sr):Prop where
 len:bk.length<=12
 lt:∀s∈bk,s.b<s.e
 w0:∀s∈bk,0<=s.w
 w1:∀s∈bk,s.w<=1000000000000
 b0:∀s∈bk,-1000000000000<=s.b
 e1:∀s∈bk,s.e<=1000000000000
theorem NZ {bk:List Sr} {R:PV->Prop} (h:BkW bk) (q:∀tl G f,Crowd bk G f->G<=12->tl.length=G+1->(∀(j:Nat) (h:j<tl.length),Bst bk j tl[j].1 tl[j].2)->R (z7 bk tl)):l5 [kY bk] R:=by
 have hl:=h.len
 unfold l5
 tb_from(iK ∅ h.lt λG f hc=>?_)
 have hG:G<=bk.length:=hc.le_of λm=>List.countP_le_length
 refine BC ∅ h.lt h.w0 ∅ λtl htl hall=>?_
 fail
 refine⟨b8 (by rw[a0g];omega),?_⟩
 refine kJ (λi acc env=>acc=(tl.take i).map (λz=>PV.tup [.int (cK (aO bk z.1)),fE z.1])/\∃t1 t2,env=[t1,t2,some (kY bk)]) ⟨rfl,_,_,rfl⟩ ?_ ?_
 ·rintro i x acc env N hx ⟨rfl,t1,t2,rfl⟩ hN
  rw[a0h,a0u] at hx
  obtain⟨⟨ks,pp⟩,hz,rfl⟩:=hx
  obtain⟨hi,hz2⟩:=a0e.mp hz
  have hb:=hall i hi
  rw[hz2] at hb
  have hsm:SmOk ks bk.length:=hb.sm
  have:=hsm.len
  show (RD.bU 2 (RD.aK (RD.aF 0) (RD.aK (RD.aF 1) RD.cL))) (.tup [fE ks,eI pp]) _ _
  tb_from(⟨rfl,?_⟩)
  tb_from(JB ∅ hsm.at_ ?_)
  refine hN _ _ ⟨?_,_,_,rfl⟩
  rw[a1q,hz];simp
 rintro acc env ⟨rfl,t1,t2,rfl⟩
 rw[a0g,a1x]
 fail
 refine⟨b8 (by rw[a0g];omega),?_⟩
 refine kJ (λi acc env=>acc=(tl.take i).map (λz=>eI z.2)/\∃t1 t2,env=[t1,t2]) ⟨rfl,_,_,rfl⟩ ?_ ?_
 ·rintro i x acc env N hx ⟨rfl,t1,t2,rfl⟩ hN
  rw[a0h,a0u] at hx
  obtain⟨⟨ks,pp⟩,hz,rfl⟩:=hx
  show (RD.bU 2 (RD.aK (RD.aF 0) (RD.aK (RD.aF 1) RD.cL))) (.tup [fE ks,eI pp]) _ _
  tb_from(⟨rfl,?_⟩)
  tb_from(hN _ _ ⟨?_,_,_,rfl⟩)
  rw[a1q,hz];simp
 rintro acc env ⟨rfl,t1,t2,rfl⟩
 rw[a0g,a1x]
 exact q tl G f hc ∅ htl hall
theorem JM{as bs:List Int}(h:fE as=fE bs):as=bs:=by
 injection h with h
 exact (List.map_inj_right (λa b h=>by injection h)).mp h
theorem LW {x:PV} {n:Nat} {R:PV->Prop} (h:bR x=true) (q1:∀ks:List Int,x=fE ks->SmOk ks n->R (.bl true)) (q0:(¬∃ks:List Int,x=fE ks/\SmOk ks n)->R (.bl false)):dP [x,.int n] R:=by
 unfold dP
 tb_from(g_isi_list h ?_)
 fail
 cases x with
 | lst ys=>
  have hy:=okP_lst h
  refine a38 (c:=false) rfl ?_
  tb_from(cY (λi env=>∃(l:Int) (t:Option PV) (ks:List Int),env=[some (.lst ys),some (.int n),some (.int l),t]/\ys.take i=ks.map PV.int/\SmOk ks n/\0<=l/\(∀k∈ks,k<l)/\(l=0\/l-1∈ks)) ⟨0,none,[],rfl,rfl,⟨.nil,by simp⟩,by omega,by simp,.inl rfl⟩ ?_ ?_)
  ·rintro i y env N hx ⟨l,t,ks,rfl,ht,sm,l0,hlt,hl⟩ hN
   have bad:(∀v,y= .int v->¬(l<=v/\v<=(n:Int)-1))->¬∃ks:List Int,PV.lst ys=fE ks/\SmOk ks n:=by
    rintro hb ⟨ks',e,sm'⟩
    injection e with e
    subst e
    rw[a0h,a0u] at hx
    obtain⟨v,hv,rfl⟩:=hx
    have e:ks=ks'.take i:=by
     rw[<- List.map_take] at ht
     exact (List.map_inj_right (λa b h=>by injection h)).mp ht.symm
    refine hb v rfl ⟨?_,by have:=sm'.at_ v (a0k hv);omega⟩
    rcases hl with z|z
    ·have:=sm'.at_ v (a0k hv);omega
    ·rw [e] at z
     obtain⟨j,hj⟩:=List.mem_iff_getElem?.mp z
     rw[a7e] at hj
     split at hj
     ·rename_i hji
      obtain⟨a1,a2⟩:=a0e.mp hj
      obtain⟨b1,b2⟩:=a0e.mp hv
      have:=a2c.mp sm'.lt j i a1 b1 hji
      rw[a2,b2] at this;omega
     ·cases hj
   tb_from(g_within (hy y (a0k hx)) ?_)
   fail
   cases hw:wholeIn y l ((n:Int)-1) with
   | false=>
    tb_from(q0 (bad λv hv=>?_))
    rintro⟨h1,h2⟩
    rw[(wholeIn_iff).mpr ⟨v,hv,h1,h2⟩] at hw
    cases hw
   | true=>
    obtain⟨v,rfl,hr⟩:=wholeIn_iff.mp hw
    fail
    refine hN _ ⟨v+1,_,ks++[v],rfl,by rw[a1q,hx,ht];simp,⟨?_,λk hk=>?_⟩,by omega,λk hk=>?_,.inr (by simp)⟩
    ·rw[a4m]
     exact⟨sm.lt,by simp,λa ha b hb=>by simp at hb;have:=hlt a ha;omega⟩
    ·rcases a1c.mp hk with z|z
     ·exact sm.at_ k z
     ·simp at z;omega
    ·rcases a1c.mp hk with z|z
     ·have:=hlt k z;omega
     ·simp at z;omega
  ·rintro env ⟨l,t,ks,rfl,ht,sm,_⟩
   rw[a1x] at ht
   exact q1 ks (by rw[ht]) sm
 | _=>
  refine a38 (c:=true) rfl ?_
  tb_from(q0 ?_)
  rintro⟨ks,e,_⟩
  cases e
def oF(bk:List Sr)(b:Int)(y:PV):Prop:=∃ks:List Int,SmOk ks bk.length/\y= .tup [.int (cK (aO bk ks)),fE ks]/\∀m,(aZ (aO bk ks) m:Int)<=b
theorem ZV {bk:List Sr} {b:Int} {y:PV} {R:PV->Prop} (hl:bk.length<=24) (hlt:∀s∈bk,s.b<s.e) (b0:0<=b) (h:bR y=true) (q1:oF bk b y->R (.bl true)) (q0:¬oF bk b y->R (.bl false)):j8 [kY bk,.int b,y] R:=by
 unfold j8
 tb_from(g_tuple_of h ?_)
 fail
 cases ht:tupN y 2 with
 | false=>
  tb_from(q0 ?_)
  rintro⟨ks,_,rfl,_⟩
  cases ht
 | true=>
  obtain⟨ys,rfl,hy⟩:=(tupN_iff (n:=2)).mp ht
  obtain ⟨a,c,rfl⟩ : ∃a c,ys=[a,c]:=match ys,hy with
   |[a,c],_=>⟨a,c,rfl⟩
  have oka:=okP_tup h a (by simp)
  have okc:=okP_tup h c (by simp)
  tb_from(⟨rfl,?_⟩)
  tb_from(g_whole oka ?_)
  fail
  cases hw:wholeB a with
  | false=>
   tb_from(q0 ?_)
   rintro⟨ks,_,e,_⟩
   injection e with e
   injection e with e1 e2
   subst e1
   cases hw
  | true=>
   obtain ⟨w,rfl⟩ : ∃w,a= .int w:=by
    cases a with
    |int w=>exact⟨w,rfl⟩
    |_=>cases hw
   fail
   show fT _ _
   unfold fT
   fail
   show j7 _ _
   unfold j7
   fail
   rw[a0g]
   refine LW okc (λks e sm=>?_) λz=>?_
   ·subst e
    have hkl:=sm.len
    tb_from(vT ∅ sm.at_ (λs hs=>hlt s (nJ sm.at_ hs)) λG f hc=>?_)
    refine iW n4 ?_
    fail
    have iff:(G:Int)<=b↔∀m,(aZ (aO bk ks) m:Int)<=b:=⟨λh m=>by have:=hc.top m;omega,λh=>by
     have:=hc.le_of (b:=b.toNat) λm=>by have:=h m;omega
     omega⟩
    refine L7 (λhb=>?_) λhb=>?_
    ·tb_from(JB ∅ sm.at_ ?_)
     fail
     show R (.bl (decide (cK (aO bk ks)=w)))
     by_cases hww:cK (aO bk ks)=w
     ·rw[a2n hww]
      exact q1 ⟨ks,sm,by rw[hww],iff.mp hb⟩
     ·rw[a1y hww]
      refine q0 ?_
      rintro⟨ks',_,e,_⟩
      injection e with e
      injection e with e1 e2
      injection e1 with e1
      injection e2 with e2
      have:=JM e2
      subst this
      exact hww e1.symm
    ·tb_from(q0 ?_)
     rintro⟨ks',_,e,hh⟩
     injection e with e
     injection e with e1 e2
     injection e2 with e2
     have:=JM e2
     subst this
     exact hb (iff.mpr hh)
   ·tb_from(q0 ?_)
    rintro⟨ks',sm,e,_⟩
    injection e with e
    injection e with e1 e2
    injection e2 with e2
    exact z ⟨ks',e2,sm⟩
theorem tU {bk:List Sr} {n:Nat} {x:PV} {R:PV->Prop} (hl:bk.length<=24) (hlt:∀s∈bk,s.b<s.e) (h:bR x=true) (q1:(∃ys,x= .lst ys/\ys.length=n/\∀(j:Nat) (y:PV),ys[j]? =some y->oF bk j y)->R (.bl true)) (q0:(¬∃ys,x= .lst ys/\ys.length=n/\∀(j:Nat) (y:PV),ys[j]? =some y->oF bk j y)->R (.bl false)):fS [kY bk,x,.int n] R:=by
 unfold fS
 tb_from(g_list_of h ?_)
 fail
 cases ht:lstN x n with
 | false=>
  tb_from(q0 ?_)
  rintro⟨ys,rfl,e,_⟩
  rw[(lstN_iff).mpr ⟨ys,rfl,e⟩] at ht
  cases ht
 | true=>
  obtain⟨ys,rfl,hy⟩:=lstN_iff.mp ht
  fail
  have hok:=okP_lst h
  refine jW (λi env=>(∃t1 t2,env=[t1,t2,some (kY bk)])/\∀(j:Nat) (y:PV),j<i->ys[j]? =some y->oF bk j y) ⟨⟨_,_,rfl⟩,λj y z=>by omega⟩ ?_ ?_
  ·rintro i x env N hx ⟨⟨t1,t2,rfl⟩,hin⟩ hN
   rw[jJ,a0u] at hx
   obtain⟨y,hy1,rfl⟩:=hx
   show RD.bU 2 _ (.tup [.int i,y]) _ _
   tb_from(⟨rfl,?_⟩)
   tb_from(ZV hl hlt ∅ (hok y (a0k hy1)) (λhs=>?_) λhs=>?_)
   ·tb_from(hN _ ⟨⟨_,_,rfl⟩,λj z hj hz=>?_⟩)
    by_cases e:j=i
    ·subst e
     rw[hy1] at hz
     injection hz with hz
     subst hz
     exact hs
    ·exact hin j z ∅ hz
   ·tb_from(q0 ?_)
    rintro⟨ys2,e,_,hall⟩
    injection e with e
    subst e
    exact hs (hall i y hy1)
  ·rintro env ⟨_,hin⟩
   refine q1 ⟨ys,rfl,hy,λj y hj=>hin j y ?_ hj⟩
   rw[hV]
   exact (a0e.mp hj).1
def v6(n:Nat)(x:PV):Prop:=∃pps:List (List Pr),x= .lst (pps.map eI)/\pps.length=n/\∀pp∈pps,PaperOk pp
theorem E3 {bk:List Sr} {ss:List PV} {x:PV} {R:PV->Prop} (h:bR x=true) (hx:¬v6 ss.length x) (q:R (.bl false)):bO [kY bk,.lst ss,x] R:=by
 unfold bO
 tb_from(g_list_of h ?_)
 fail
 cases ht:lstN x ss.length with
 | false=>
  fail
  exact q
 | true=>
  obtain⟨ys,rfl,hy⟩:=lstN_iff.mp ht
  have hok:=okP_lst h
  tb_from(jW (λi env=>(∃t,env=[t])/\∃pps:List (List Pr),ys.take i=pps.map eI/\∀pp∈pps,PaperOk pp) ⟨⟨_,rfl⟩,[],rfl,by simp⟩ ?_ ?_)
  ·rintro i y env N hi ⟨⟨t,rfl⟩,pps,hp,hpp⟩ hN
   tb_from(g_paper (hok y (a0k hi)) (λpp e ok=>?_) λ_=>?_)
   ·tb_from(hN _ ⟨⟨_,rfl⟩,pps++[pp],?_,λr hr=>?_⟩)
    ·rw[a1q,hi,hp,e];simp
    ·rcases a1c.mp hr with z|z
     ·exact hpp r z
     ·simp at z;subst z;exact ok
   ·fail
    exact q
  ·rintro env ⟨_,pps,hp,hpp⟩
   rw[a1x] at hp
   exact absurd ⟨pps,by rw[hp],by rw[<- hy,hp,a0g],hpp⟩ hx
theorem IJ {y:PV} {t:Str} (h:y.eqB (.str t)=true):y= .str t:=by
 have h:=eqB_iff.mp h
 rw[PV.norm.eq_def (.str t)] at h
 cases y<;>rw[PV.norm.eq_def] at h<;>first
  |cases h;rfl
  |cases h
  |(dsimp only at h;split at h<;>cases h)
theorem P1 {bk:List Sr} {x:PV} {G:Nat} {f:Option Int} {R:PV->Prop} (hl:bk.length<=24) (hlt:∀s∈bk,s.b<s.e) (hc:Crowd bk G f) (h:bR x=true)
  (hd:∀y ys,x= .tup (y::ys)->y.dep<=60\/lT y=true)
  (hx:¬∃ss y,x= .tup [.str "row",.lst ss,y]/\ss.length=G+1/\(∀(j:Nat) (y:PV),ss[j]? =some y->oF bk j y)/\v6 (G+1) y) (q:R (.bl false)):dE [kY bk,x] R:=by
 unfold dE
 tb_from(g_word h (by decide) hd ?_)
 fail
 cases hw:wordT x (.str (Str.ofString "row")) 3 with
 | false=>
  fail
  exact q
 | true=>
  obtain ⟨ss,y,rfl⟩ : ∃ss y,x= .tup [.str (Str.ofString "row"),ss,y]:=by
   unfold wordT at hw
   split at hw
   ·rename_i y ys
    rw[a1d,a4d] at hw
    obtain⟨h3,he⟩:=hw
    have:=IJ he
    subst this
    match ys,h3 with
    |[a,b],_=>exact⟨a,b,rfl⟩
   ·cases hw
  have oks:=okP_tup h ss (by simp)
  have oky:=okP_tup h y (by simp)
  tb_from(⟨rfl,?_⟩)
  tb_from(iK ∅ hlt λG' f' hc'=>?_)
  obtain⟨rfl,_⟩:=hc.uniq hc'
  tb_from(tU (n:=G+1) hl hlt oks ?_ λ_=>?_)
  ·rintro⟨ys,rfl,hy,hst⟩
   fail
   refine E3 oky (λhp=>hx ⟨ys,y,rfl,hy,hst,by rw[hy] at hp;exact hp⟩) ?_
   exact q
  ·fail
   exact q
theorem Bst.paper {bk:List Sr} {b:Nat} {ks:List Int} {pp:List Pr} (hl:bk.length<=10) (hsr:∀s∈bk,s.b<s.e/\-1000000000000<=s.b/\s.e<=1000000000000/\0<=s.w/\s.w<=1000000000000) (hB:Bst bk b ks pp):PaperOk pp:=by
 obtain⟨ks',sm,ld,cl⟩:=hB.nx
 have nn:=hB.nn
 have less:∀p∈pp,∃pp',pp.Perm (p::pp')/\∀q∈pp',0<=q.2:=λp hp=>⟨pp.erase p,List.perm_cons_erase hp,λq hq=>nn q (a6n hq)⟩
 have over:∀p∈pp,∃s∈bk,aY s p.1=true:=λp hp=>by
  refine a6a λno=>?_
  obtain⟨pp',pm,n'⟩:=less p hp
  have p1:=(hB.pr.at_ p hp).1
  have nb:=qP (b:=(b:Int)+1) (pp:=pp') sm (λm=>by have:=ld m;omega) n'
  have e:dU bk ((b:Int)+1) pp=dU bk ((b:Int)+1) pp'+p.2*((b:Int)+1):=by
   have e1:=tD (λ_=>true) pm
   rw[rH,rH,a0i,a0p] at e1
   have e2:iE bk pp=iE bk pp':=by
    unfold iE
    congr 1
    refine List.map_congr_left λs hs=>?_
    have e3:=tD (λm=>aY s m) pm
    rw[i3,if_neg (λz=>no ⟨s,hs,z⟩),AE,AE] at e3
    unfold gE
    rw[e3];congr 2;omega
   unfold dU
   rw[e1,e2,Int.add_mul]
   omega
  have:1*1<=p.2*((b:Int)+1):=Int.mul_le_mul p1 ∅ ∅ ∅
  omega
 have tot:cK (aO bk ks')<=10*1000000000000:=by
  have h1:∀l:List Sr,(∀s∈l,s.w<=1000000000000)->cK l<=(l.length:Int)*1000000000000:=λl=>by
   induction l with
   |nil=>intro _;exact a3s _
   | cons s l ih=>
    intro h
    have a1:=ih λt ht=>h t (a0j _ ht)
    have a2:=h s a0n
    unfold cK at*
    rw[a0i,a0p,a1n]
    omega
  have h2:=h1 (aO bk ks') λs hs=>(hsr s (nJ sm.at_ hs)).2.2.2.2
  have h3:=sm.len
  rw[xD] at h2
  omega
 refine⟨by have:=hB.pr.len;omega,λp hp=>?_,hB.pr.lt⟩
 refine (λ(a:-1000000000000<=p.1/\p.1<1000000000000) (c:p.2<=10000000000000)=>⟨a.1,by omega,(hB.pr.at_ p hp).1,c⟩) ?_ ?_
 ·obtain⟨s,hs,ho⟩:=over p hp
  rw[fO] at ho
  have:=hsr s hs
  omega
 ·obtain ⟨pp',pm,n'⟩:=less p hp
  have e1:=tD (λ_=>true) pm
  rw[rH,rH,a0i,a0p] at e1
  have s0:0<=(pp'.map (·.2)).sum:=by
   clear e1 pm
   induction pp' with
   |nil=>exact a3s _
   | cons q l ih=>
    have a1:=ih λt ht=>n' t (a0j _ ht)
    have a2:=n' q a0n
    rw[a0i,a0p];omega
  have r0:0<=iE bk pp:=by
   unfold iE
   clear over tot hsr hl hB sm ld cl
   induction bk with
   |nil=>exact a3s _
   | cons s l ih=>
    rw[a0i,a0p]
    have:0<=gE s pp:=by unfold gE;omega
    omega
  have p1:=(hB.pr.at_ p hp).1
  unfold dU at cl
  have m1:(pp.map (·.2)).sum*1<=(pp.map (·.2)).sum*((b:Int)+1):=a5l ∅ ∅
  omega
theorem Bst.step{bk:List Sr}{b:Nat}{ks ks2:List Int}{pp pp2:List Pr}(h:Bst bk b ks pp)(h2:Bst bk (b+1) ks2 pp2):dU bk ((b:Int)+1) pp=cK (aO bk ks2):=by
 obtain⟨ks',sm,ld,cl⟩:=h.nx
 have a1:=qP (b:=(b:Int)+1) (pp:=pp2) sm (λm=>by have:=ld m;omega) h2.nn
 have a2:=qP (b:=(b:Int)+1) (pp:=pp) h2.sm (λm=>by have:=h2.ld m;omega) h.nn
 have c2:=h2.cl
 rw[show ((b+1:Nat):Int)=(b:Int)+1 from rfl] at c2
 omega
theorem Bst.last {bk:List Sr} {G:Nat} {f:Option Int} {ks:List Int} {pp:List Pr} (hc:Crowd bk G f) (hs:∀ks:List Int,SmOk ks bk.length->(aO bk ks).Sublist bk) (h:Bst bk G ks pp):pp=[]:=by
 obtain⟨ks',sm,ld,cl⟩:=h.nx
 have a1:=qP (b:=(G:Int)) (pp:=pp) sm (λm=>by have:=a0D (hs ks' sm) m;have:=hc.top m;omega) h.nn
 have c:=h.cl
 rw[vV] at cl
 cases pp with
 |nil=>rfl
 | cons p pp=>
  have p1:=(h.pr.at_ p a0n).1
  have nn:=h.nn
  have s0:∀l:List Pr,(∀p∈l,0<=p.2)->0<=(l.map (·.2)).sum:=λl=>by
   induction l with
   |nil=>intro _;exact a3s _
   | cons q l ih=>
    intro hh
    have a1:=ih λt ht=>hh t (a0j _ ht)
    have a2:=hh q a0n
    rw[a0i,a0p];omega
  have:=s0 pp λq hq=>nn q (a0j _ hq)
  rw[a0i,a0p] at cl
  omega
theorem LI (xs:List PV):mQ xs none (some (-1))=xs.dropLast:=by
 unfold mQ
 rw[HT.sIx_none]
 have:HT.sIx xs.length xs.length (some (-1))=xs.length-1:=by
  unfold HT.sIx
  simp
  omega
 rw[this,a6o,List.drop_zero,Nat.sub_zero]
theorem BF {bk:List Sr} {tl:List Tl} {R:PV->Prop} (hl:bk.length<=10) (hpos:1<=tl.length) (ht:tl.length<=20) (hok:∀z∈tl,PaperOk z.2) (hlast:∀z,tl.getLast? =some z->z.2=[])
  (h1:∀(j:Nat) (h:j<tl.length),dU bk (j:Int) tl[j].2=cK (aO bk tl[j].1)) (h2:∀(j:Nat) (h:j+1<tl.length),dU bk ((j:Int)+1) tl[j].2=cK (aO bk tl[j+1].1)) (q:R (.bl true)) :
  bO [kY bk,.lst (tl.map λz=>.tup [.int (cK (aO bk z.1)),fE z.1]),.lst (tl.map λz=>eI z.2)] R:=by
 unfold bO
 fail
 refine g_list_of (okP_l λy hy=>by obtain⟨z,_,rfl⟩:=a0s.mp hy;exact okP_papp _) ?_
 rw[show lstN (PV.lst (tl.map λz=>eI z.2)) ((tl.map λz=>PV.tup [.int (cK (aO bk z.1)),fE z.1]).length:Nat)=true from lstN_iff.mpr ⟨_,rfl,by simp⟩]
 tb_from(jW (λi env=>∃t,env=[t]) ⟨_,rfl⟩ ?_ ?_)
 ·rintro i y env N hi ⟨t,rfl⟩ hN
  rw[a0h,a0u] at hi
  obtain⟨z,hz,rfl⟩:=hi
  tb_from(g_paper (okP_papp _) (λ_ _ _=>?_) λno=>absurd ⟨z.2,rfl,hok z (a0k hz)⟩ no)
  fail
  exact hN _ ⟨_,rfl⟩
 ·rintro env _
  fail
  obtain ⟨l,z,rfl⟩ : ∃l z,tl=l++[z]:=by
   rcases a5h tl with e|⟨l,z,e⟩
   ·subst e;simp at hpos
   ·exact⟨l,z,by rw[e,a5i]⟩
  have hz:=hlast z (by simp)
  refine fA (z:=.lst []) (by
   rw[a1k]
   refine (DJ _ _).trans ?_
   show some (eI z.2)=_
   rw[hz];rfl) ?_
  tb_from(⟨a1b BK (by decide),a2u BK (by decide),?_⟩)
  rw[OQ]
  refine a38 (c:=false) rfl ?_
  fail
  have clm:∀(R:PV->Prop) (b j:Nat) (hj:j<(l++[z]).length) (hb:b<(l++[z]).length),dU bk (b:Int) (l++[z])[j].2=cK (aO bk (l++[z])[b].1)->R (.bl true)->cV [kY bk,.lst ((l++[z]).map λz=>.tup [.int (cK (aO bk z.1)),fE z.1]),.int (b:Int),eI (l++[z])[j].2] R:=λR b j hj hb e q=>by
   have ok:=hok _ (a1h hj)
   have hpl:=ok.len
   unfold cV
   fail
   refine TC ∅ ∅ (λp hp=>by have:=(ok.at_ p hp).2.2.1;omega) ∅ ∅ ?_
   fail
   refine fA (z:=.tup [.int (cK (aO bk (l++[z])[b].1)),fE (l++[z])[b].1]) (bY ∅ (by
    rw[a1v,a0h,a0a hb];rfl)) ?_
   tb_from(iW n4 ?_)
   show R (.bl (decide (_=_)))
   rw[a2n e]
   exact q
  refine jW (λi env=>∃t1 t2,env=[t1,t2,some (kY bk),some (.lst ((l++[z]).map λz=>.tup [.int (cK (aO bk z.1)),fE z.1]))]) ⟨_,_,rfl⟩ ?_ ?_
  ·rintro i y env N hi ⟨t1,t2,rfl⟩ hN
   rw[jJ,a0h,a5y,a0u] at hi
   obtain⟨w,hw,rfl⟩:=hi
   obtain⟨hj,rfl⟩:=a0e.mp hw
   show RD.bU 2 _ (.tup [.int i,eI (l++[z])[i].2]) _ _
   tb_from(⟨rfl,?_⟩)
   tb_from(clm _ i i hj hj (h1 i hj) ?_)
   fail
   exact hN _ ⟨_,_,rfl⟩
  ·rintro env _
   fail
   rw[LI,<- List.map_dropLast]
   refine jW (λi env=>∃t1 t2,env=[t1,t2,some (kY bk),some (.lst ((l++[z]).map λz=>.tup [.int (cK (aO bk z.1)),fE z.1]))]) ⟨_,_,rfl⟩ ?_ ?_
   ·rintro i y env N hi ⟨t1,t2,rfl⟩ hN
    rw[jJ,a0h,a5y,a0u] at hi
    obtain⟨w,hw,rfl⟩:=hi
    obtain⟨hj,hw2⟩:=a0e.mp hw
    rw[List.getElem_dropLast] at hw2
    subst hw2
    rw[a3k] at hj
    show RD.bU 2 _ (.tup [.int i,eI (l++[z])[i].2]) _ _
    tb_from(⟨rfl,?_⟩)
    tb_from(clm _ (i+1) i ∅ ∅ (h2 i ∅) ?_)
    fail
    exact hN _ ⟨_,_,rfl⟩
   ·rintro env _
    exact q
theorem sU(bk:List Sr)(tl:List Tl):bR (.lst (tl.map λz=>.tup [.int (cK (aO bk z.1)),fE z.1]))=true:=okP_l λy hy=>by
 obtain⟨z,_,rfl⟩:=a0s.mp hy
 refine okP_t λx hx=>?_
 simp only[a0l,a0y,a2i] at hx
 rcases hx with rfl|rfl
 ·rw[bR]
 ·exact okP_inp _
theorem wG(tl:List Tl):bR (.lst (tl.map λz=>eI z.2))=true:=okP_l λy hy=>by obtain⟨z,_,rfl⟩:=a0s.mp hy;exact okP_papp _
theorem VD(bk:List Sr)(tl:List Tl):bR (z7 bk tl)=true:=okP_t λy hy=>by
 simp only[a0l,a0y,a2i] at hy
 rcases hy with rfl|rfl|rfl
 ·rw[bR]
 ·exact sU bk tl
 ·exact wG tl
theorem GR {bk:List Sr} {tl:List Tl} {G:Nat} {f:Option Int} {R:PV->Prop} (h:BkW bk) (h10:bk.length<=10) (hc:Crowd bk G f) (hG:G<=12) (ht:tl.length=G+1) (hall:∀(j:Nat) (h:j<tl.length),Bst bk j tl[j].1 tl[j].2) (q:R (.bl true)):dE [kY bk,z7 bk tl] R:=by
 have hsr:∀s∈bk,s.b<s.e/\-1000000000000<=s.b/\s.e<=1000000000000/\0<=s.w/\s.w<=1000000000000:=λs hs=>⟨h.lt s hs,h.b0 s hs,h.e1 s hs,h.w0 s hs,h.w1 s hs⟩
 unfold dE
 tb_from(g_word (VD bk tl) (by decide) (λy ys e=>?_) ?_)
 ·unfold z7 at e
  injection e with e
  injection e with e1 e2
  subst e1
  exact .inl (by rw[PV.dep];omega)
 rw [show wordT (z7 bk tl) (.str (Str.ofString "row")) 3=true from by
  unfold wordT z7
  dsimp only
  rw[eqB_ss]
  simp]
 unfold z7
 tb_from(⟨rfl,?_⟩)
 tb_from(iK ∅ h.lt λG' f' hc'=>?_)
 obtain⟨rfl,_⟩:=hc.uniq hc'
 fail
 refine tU (n:=G+1) ∅ h.lt (sU bk tl) (λ_=>?_) λno=>absurd ⟨_,rfl,by rw[a0g];exact ht,λj y hj=>?_⟩ no
 ·tb_from(BF h10 ∅ ∅ (λz hz=>?_) (λz hz=>?_) (λj hj=>(hall j hj).cl) (λj hj=>((hall j ∅).step (hall (j+1) hj))) q)
  ·obtain⟨j,hj,rfl⟩:=a2d hz
   exact (hall j hj).paper h10 hsr
  ·rw[List.getLast?_eq_getElem?] at hz
   obtain⟨hj,rfl⟩:=a0e.mp hz
   have hb:=hall (tl.length-1) hj
   have e:tl.length-1=G:=by omega
   exact Bst.last (G:=tl.length-1) (by rw[e];exact hc) (λks sm=>VU sm) hb
 ·rw[a0h,a0u] at hj
  obtain⟨z,hz,rfl⟩:=hj
  obtain⟨hj,rfl⟩:=a0e.mp hz
  have hb:=hall j hj
  exact⟨_,hb.sm,rfl,λm=>by have:=hb.ld m;omega⟩
end Lib
set_option maxHeartbeats 4000000
namespace K38
open PySem L2
abbrev dD:PN:=Lib.dD
abbrev cF:PN:=Lib.cF
abbrev fM:PN:=Lib.fM
abbrev fU:PN:=Lib.fU
abbrev dF:PN:=Lib.dF
abbrev fN:PN:=Lib.fN
abbrev eW:PN:=Lib.eW
abbrev cO:PN:=Lib.cO
abbrev cG:PN:=Lib.cG
abbrev cN:PN:=Lib.cN
abbrev eV:PN:=Lib.eV
abbrev fW:PN:=Lib.fW
abbrev fX:PN:=Lib.fX
abbrev zT:PN:=HW
abbrev cA:PN:=JZ
def wX: bJ:=(aN (qS (aA 0) (bU 3 (aK (aF 1) (aK (aF 2) (aK (aF 3) cL)))))
 (aN (c4 4 (bB (a8 (pC .non) (a8 (pC (.int 0)) (a8 (pC (.bl true)) (a8 (pC (.str "row")) (a8 (pC (.str "")) (a8 (bB aE) (a8 (bC aE) (a8 (pC (.dic [] [])) (a8 (aA 2) (a8 (aA 3) (a8 (bT qW (a8 (aA 0) aE)) (a8 (bC (a8 (aA 1) (a8 (aA 2) aE))) aE))))))))))))))
 (aN (c4 4 (bA kK (aA 4) (bB (a8 (bC (a8 (aA 2) (a8 (aA 3) aE))) (a8 (bC (a8 (aA 1) (a8 (aA 3) (a8 (aA 2) aE)))) (a8 (bC (a8 (aA 2) (a8 (aA 1) (a8 (aA 3) aE)))) (a8 (bA EQ (aA 0) (bC (a8 (bB aE) aE))) aE)))))))
 (aN (kL (cW (bB (a8 (pC (.str "Row")) (a8 (pC (.int 0)) (a8 (pC .non) (a8 (bB aE) (a8 (pC (.dic [] [])) (a8 (pC (.str "")) (a8 (pC (.str "rows")) aE))))))))) (aF 5) (aN (eH "list" 4 cB (a8 (bC (a8 (aA 5) (a8 (aA 2) (a8 (aA 3) aE)))) aE))
 bG))
 (aN (c4 4 (bA kK (aA 4) (bB (a8 (bC (a8 (aA 1) (a8 (pC .non) (a8 (aA 3) aE)))) (a8 (bC (a8 (aA 1) (a8 (aA 2) (a8 (pC .non) aE)))) (a8 (bC (a8 (aA 1) (a8 (pC (.str "")) (a8 (pC (.str "")) aE)))) (a8 (bC (a8 (aA 1) (a8 (bB aE) (a8 (bB aE) aE)))) aE)))))))
 (aN (c4 4 (bA kK (aA 4) (bB (a8 (bC (a8 (aA 1) (a8 (pC (.dic [] [])) (a8 (pC (.dic [] [])) aE)))) (a8 (bC (a8 (aA 1) (a8 (pC (.int 1)) (a8 (pC (.int 1)) aE)))) (a8 (bC (a8 (aA 1) (a8 (aA 2) (a8 (bA kK (dW qZ (aA 3) dZ (gN (C6 gM (pC (.int 1))))) (bB (a8 (pC .non) aE))) aE)))) aE))))))
 (aN (qS (bA iA (aA 2) (C6 gM (pC (.int 1)))) (bU 2 (aK (aF 6) (aK (aF 7) cL))))
 (aN (c4 4 (bA kK (aA 4) (bB (a8 (bC (a8 (aA 1) (a8 (aA 2) (a8 (bT sZ (a8 (aA 3) aE)) aE)))) (a8 (bC (a8 (aA 1) (a8 (bA kK (dW qZ (aA 2) dZ (gN (C6 gM (pC (.int 1))))) (bB (a8 (bC (a8 (aA 6) (a8 (bT sZ (a8 (aA 7) aE)) aE))) aE))) (a8 (aA 3) aE)))) aE)))))
 (aN (kL (cW (bB (a8 (bA kK (bB (a8 (pC (.bl true)) aE)) (dW qZ (aA 7) (gN (pC (.int 1))) dZ)) (a8 (bA kK (bB (a8 (pC (.bl false)) aE)) (aA 7)) (a8 (bA kK (aA 7) (bB (a8 (pC (.bl true)) aE))) aE))))) (aF 5) (aN (eH "list" 4 cB (a8 (bC (a8 (aA 1) (a8 (bA kK (dW qZ (aA 2) dZ (gN (C6 gM (pC (.int 1))))) (bB (a8 (bC (a8 (aA 6) (a8 (aA 5) aE))) aE))) (a8 (aA 3) aE)))) aE))
 bG))
 (aN (kL (cW (bB (a8 (pC .non) (a8 (pC (.int 0)) (a8 (pC (.str "")) (a8 (bB aE) (a8 (bC aE) (a8 (bC (a8 (pC (.bl true)) (a8 (bB aE) aE))) (a8 (bC (a8 (pC (.int 0)) (a8 (pC .non) aE))) (a8 (bC (a8 (pC .non) (a8 (bB aE) aE))) (a8 (bC (a8 (pC (.str "0")) (a8 (bB aE) aE))) (a8 (bC (a8 (pC (.int 0)) (a8 (bB (a8 (pC (.bl true)) aE)) aE))) aE)))))))))))) (aF 5) (aN (eH "list" 4 cB (a8 (bC (a8 (aA 1) (a8 (bA kK (bB (a8 (aA 5) aE)) (dW qZ (aA 2) (gN (pC (.int 1))) dZ)) (a8 (aA 3) aE)))) aE))
 bG))
 (aN (kL (cW (bB (a8 (bC (a8 (pC (.int 0)) (a8 (bB (a8 (pC .non) aE)) aE))) (a8 (bC (a8 (pC (.int 0)) (a8 (bB (a8 (pC (.str "0")) aE)) aE))) (a8 (bC (a8 (pC (.int 0)) (a8 (bC (a8 (pC (.int 0)) aE)) aE))) (a8 (bC (a8 (pC (.int 0)) (a8 (bB aE) (a8 (bB aE) aE)))) (a8 (bB (a8 (pC (.int 0)) (a8 (bB aE) aE))) (a8 (bC (a8 (pC (.bl false)) (a8 (bB aE) aE))) (a8 (bC (a8 (pC (.int 0)) (a8 (bB (a8 (C6 gM (pC (.int 1))) aE)) aE))) (a8 (bC (a8 (pC (.int 0)) (a8 (bC aE) aE))) (a8 (bC (a8 (pC (.int 0)) (a8 (pC (.dic [] [])) aE))) aE))))))))))) (aF 5) (aN (eH "list" 4 cB (a8 (bC (a8 (aA 1) (a8 (bA kK (bB (a8 (aA 5) aE)) (dW qZ (aA 2) (gN (pC (.int 1))) dZ)) (a8 (aA 3) aE)))) aE))
 bG))
 (aN (kL (cW (bB (a8 (pC (.int 0)) (a8 (pC (.str "")) (a8 (bC aE) (a8 (pC (.dic [] [])) (a8 (bB (a8 (bC aE) aE)) (a8 (bB (a8 (bC (a8 (pC (.int 0)) (a8 (pC (.int 0)) aE))) aE)) (a8 (bB (a8 (bC (a8 (pC (.int 0)) (a8 (pC (.int 1)) aE))) (a8 (bC (a8 (pC (.int 0)) (a8 (pC (.int 1)) aE))) aE))) (a8 (bB (a8 (bC (a8 (pC (.int 0)) (a8 (pC (.bl true)) aE))) aE)) (a8 (bB (a8 (bB (a8 (pC (.int 0)) (a8 (pC (.int 1)) aE))) aE)) aE))))))))))) (aF 5) (aN (eH "list" 4 cB (a8 (bC (a8 (aA 1) (a8 (aA 2) (a8 (bA kK (bB (a8 (aA 5) aE)) (dW qZ (aA 3) (gN (pC (.int 1))) dZ)) aE)))) aE))
 bG))
 (aN (kL (cW (bB (a8 (bB (a8 (bC (a8 (pC (.int 1)) (a8 (pC (.int 1)) (a8 (pC (.int 1)) aE)))) aE)) (a8 (bB (a8 (bC (a8 (pC (.int 0)) (a8 (bA dA (bA qY (pC (.int 10)) (pC (.int 13))) (pC (.int 1))) aE))) aE)) (a8 (bB (a8 (pC .non) aE)) (a8 (bB (a8 (bC (a8 (pC (.str "0")) (a8 (pC (.int 1)) aE))) aE)) aE)))))) (aF 5) (aN (eH "list" 4 cB (a8 (bC (a8 (aA 1) (a8 (aA 2) (a8 (bA kK (bB (a8 (aA 5) aE)) (dW qZ (aA 3) (gN (pC (.int 1))) dZ)) aE)))) aE))
 bG))
 (bS (aA 4)))))))))))))))
abbrev xJ:{r:bJ // r=wX}:=⟨_,by unfold wX;walk_at "rp"⟩
def lO:PN:=LJ (λa0=>[some a0,none,none,none,none,none,none,none]) (λR=>R .non) xJ.1
abbrev cM:PN:=Lib.cM
abbrev bK:PN:=Lib.bK
abbrev gW:PN:=Lib.gW
abbrev fV:PN:=Lib.fV
abbrev eT:PN:=Lib.eT
abbrev jA:PN:=Lib.jA
abbrev l4:PN:=Lib.l4
abbrev gX:PN:=Lib.gX
abbrev dP:PN:=Lib.dP
abbrev gZ:PN:=Lib.gZ
abbrev gV:PN:=Lib.gV
abbrev j9:PN:=Lib.j9
abbrev l3:PN:=Lib.l3
abbrev fL:PN:=Lib.fL
abbrev j7:PN:=Lib.j7
abbrev eU:PN:=Lib.eU
abbrev gY:PN:=Lib.gY
abbrev fT:PN:=Lib.fT
abbrev c7:PN:=Lib.c7
abbrev gU:PN:=Lib.gU
abbrev o3:PN:=Lib.o3
abbrev j8:PN:=Lib.j8
abbrev cV:PN:=Lib.cV
abbrev l5:PN:=Lib.l5
abbrev fS:PN:=Lib.fS
abbrev bO:PN:=Lib.bO
abbrev dE:PN:=Lib.dE
def Y2: bJ:=(aN (kL (iM (bT A3 (a8 (pC (.int 1)) (a8 (bT ET (a8 (bT qV (a8 (aA 0) aE)) (a8 (pC (.int 12)) aE))) aE)))) (aF 1) (aN (c4 2 (bT zT (a8 (aA 0) (a8 (aA 1) aE))))
 (aN (c4 3 (bT l3 (a8 (aA 2) (a8 (pC (.int 7)) aE))))
 (aN (c4 3 (bA kK (aA 3) (bB (a8 (bC (a8 (pC (.str "zz")) (a8 (pC (.int 3)) (a8 (pC (.int 8)) (a8 (bT cA (a8 (aA 2) (a8 (pC (.int 50)) aE))) aE))))) aE))))
 (aN (c4 4 (bT l5 (a8 (aA 3) aE)))
 (aN (c4 5 (bT lO (a8 (aA 4) aE)))
 (aN (c4 6 (bT cA (a8 (aA 2) (a8 (bT kM (a8 (aA 5) aE)) aE))))
 (aN (kL (cW (bB (a8 (aA 6) (a8 (bA A4 (bA dA (aA 6) (pC (.int 17))) (bT kM (a8 (aA 5) aE))) (a8 (bA A4 (bA dA (aA 6) (pC (.int 34))) (bT kM (a8 (aA 5) aE))) aE))))) (aF 7) (aN (c4 8 (bT dE (a8 (aA 3) (a8 (bA iA (aA 5) (aA 7)) aE))))
 (aN (l7 (VL (qX (nG (bT pH (a8 (aA 8) (a8 (pC (.ty "bool")) aE))))) (nG (aA 8))) (bS (pC (.bl false))) bG)
 bG)))
 (aN (l7 (nG (bA EU (bT dE (a8 (aA 3) (a8 (aA 4) aE))) (pC (.bl true)))) (bS (pC (.bl false))) bG)
 bG)))))))))
 (bS (pC (.bl true))))
abbrev Y6:{r:bJ // r=Y2}:=⟨_,by unfold Y2;walk_at "rp"⟩
def O7:PN:=LJ (λa0=>[some a0,none,none,none,none,none,none,none,none]) (λR=>R .non) Y6.1
end K38
set_option maxHeartbeats 2000000
namespace K38
open PySem L2 Lib
abbrev row:PV:=.str (Str.ofString "row")
abbrev WX(bk:List Sr)(tl:List Tl):List PV:=tl.map λz=>.tup [.int (cK (aO bk z.1)),fE z.1]
abbrev a60(tl:List Tl):List PV:=tl.map λz=>eI z.2
structure Bad(bk:List Sr)(G:Nat)(x:PV):Prop where
 ok:bR x=true
 hd:∀y ys,x= .tup (y::ys)->y.dep<=60\/lT y=true
 no:¬∃ss y,x= .tup [.str "row",.lst ss,y]/\ss.length=G+1/\(∀(j:Nat) (y:PV),ss[j]? =some y->oF bk j y)/\v6 (G+1) y
section
variable{bk:List Sr}{G:Nat}
theorem kG{x:PV}(ok:bR x=true)(h:∀ys,x≠ .tup ys):Bad bk G x:=⟨ok,λy ys e=>absurd e (h _),λ⟨_,_,e,_⟩=>h _ e⟩
theorem v7{ys:List PV}(ok:bR (.tup ys)=true)(hd:∀y zs,ys=y::zs->y.dep<=60\/lT y=true)(h:ys.length≠3):Bad bk G (.tup ys):=
 ⟨ok,λy zs e=>hd y zs (by injection e),λ⟨_,_,e,_⟩=>h (by injection e with e;rw[e];rfl)⟩
theorem iG{a b c:PV}(ok:∀x∈[a,b,c],bR x=true)(hd:a.dep<=60\/lT a=true)(h:a≠ .str "row"):Bad bk G (.tup [a,b,c]):=
 ⟨okP_t ok,λy zs e=>by injection e with e;injection e with e1;subst e1;exact hd,λ⟨_,_,e,_⟩=>h (by injection e with e;injection e)⟩
theorem vF:row.dep<=60\/lT row=true:=.inl (by rw[PV.dep];omega)
theorem oY {s y:PV} (o1:bR s=true) (o2:bR y=true) (h:∀ss,s= .lst ss->ss.length=G+1->¬∀z∈ss,∃b,oF bk b z):Bad bk G (.tup [row,s,y]):=
 ⟨okP_t λx hx=>by
  simp only[a0l,a0y,a2i] at hx
  rcases hx with rfl|rfl|rfl
  ·rw[bR]
  ·exact o1
  ·exact o2,λy zs e=>by injection e with e;injection e with e1;subst e1;exact vF,λ⟨ss,_,e,hl,hs,_⟩=>by
  injection e with e
  injection e with _ e
  injection e with e _
  exact h ss e hl λz hz=>by
   obtain⟨j,hj⟩:=List.mem_iff_getElem?.mp hz
   exact⟨_,hs j z hj⟩⟩
theorem GM {s y:PV} (o1:bR s=true) (o2:bR y=true) (h:¬v6 (G+1) y):Bad bk G (.tup [row,s,y]):=
 ⟨okP_t λx hx=>by
  simp only[a0l,a0y,a2i] at hx
  rcases hx with rfl|rfl|rfl
  ·rw[bR]
  ·exact o1
  ·exact o2,λy zs e=>by injection e with e;injection e with e1;subst e1;exact vF,λ⟨ss,_,e,hl,hs,hp⟩=>by
  injection e with e
  injection e with _ e
  injection e with _ e
  injection e with e
  subst e
  exact h hp⟩
theorem B8 {ss:List PV} {y z:PV} (o1:∀x∈ss,bR x=true) (o2:bR y=true) (hz:z∈ss) (hn:∀b,¬oF bk b z):Bad bk G (.tup [row,.lst ss,y]):=
 oY (okP_l o1) o2 λss' e _ h=>by
  injection e with e
  subst e
  obtain⟨b,hb⟩:=h z hz
  exact hn b hb
theorem GN {s z:PV} {ys:List PV} (o1:bR s=true) (o2:∀x∈ys,bR x=true) (hz:z∈ys) (hn:∀pp,z=eI pp->¬PaperOk pp):Bad bk G (.tup [row,s,.lst ys]):=
 GM o1 (okP_l o2) λ⟨pps,e,_,hp⟩=>by
  injection e with e
  subst e
  obtain⟨pp,h1,rfl⟩:=a0s.mp hz
  exact hn pp rfl (hp pp h1)
end
theorem TN{xs:List PV}{lo hi:Option Int}{y:PV}(h:y∈mQ xs lo hi):y∈xs:=List.mem_of_mem_drop (List.mem_of_mem_take h)
theorem O5{xs:List PV}{lo hi:Option Int}:(mQ xs lo hi).length<=xs.length:=by
 unfold mQ
 rw[a2h,a6j];omega
theorem VJ{zs:List PV}{P:PV->Prop}{r:Int}{Q:PV->Prop}(h0:0<=r)(h1:r<zs.length)(hP:∀z∈zs,P z)(q:∀z,P z->Q z):iA (.lst zs) (.int r) Q:=by
 have h:r.toNat<zs.length:=by omega
 exact fA (bY h0 (a0a h)) (q _ (hP _ (a1h h)))
structure Odd(bk:List Sr)(G:Nat)(l:List PV)(lo hi:Nat):Prop where
 bad:∀z∈l,Bad bk G z
 lo:lo<=l.length
 hi:l.length<=hi
theorem Odd.app {bk:List Sr} {G:Nat} {l m:List PV} {lo hi k:Nat} (h:Odd bk G l lo hi) (hm:∀z∈m,Bad bk G z) (hk:m.length<=k):Odd bk G (l++m) lo (hi+k):=
 ⟨λz hz=>by
  rcases a1c.mp hz with a|a
  ·exact h.bad z a
  ·exact hm z a,by rw[a1l];have:=h.lo;omega,by rw[a1l];have:=h.hi;omega⟩
theorem Odd.push{bk:List Sr}{G:Nat}{l:List PV}{z:PV}{lo hi:Nat}(h:Odd bk G l lo hi)(hz:Bad bk G z):Odd bk G (l++[z]) lo (hi+1):=h.app (λy hy=>by simp at hy;subst hy;exact hz) (by simp)
def a2B (z:PV):Bool:=match z with
 | .tup [.int _,.lst xs]=>xs.all λx=>match x with
  |.int k=>decide (0<=k)
  |_=>false
 |_=>false
theorem BW {bk:List Sr} {z:PV} (h:a2B z=false):∀b,¬oF bk b z:=λb ⟨ks,sm,e,_⟩=>by
 subst e
 have:a2B (.tup [.int (cK (aO bk ks)),fE ks])=true:=by
  unfold a2B
  dsimp only
  rw[List.all_map,a1a]
  intro k hk
  exact a2n (sm.at_ k hk).1
 rw[this] at h
 cases h
def a4C (z:PV):Bool:=match z with
 | .lst xs=>(xs.all λx=>match x with
  |.tup [.int _,.int v]=>decide (1<=v)&&decide (v<=10000000000000)
  |_=>false)&&(match xs with
  |[.tup [.int a,_],.tup [.int b,_]]=>decide (a<b)
  |_=>true)
 |_=>false
theorem Q6 {z:PV} (h:a4C z=false):∀pp,z=eI pp->¬PaperOk pp:=λpp e ok=>by
 subst e
 have:a4C (eI pp)=true:=by
  unfold a4C
  dsimp only
  rw[a1d]
  refine⟨?_,?_⟩
  ·rw[List.all_map,a1a]
   intro p hp
   have:=ok.at_ p hp
   show (decide (1<=p.2)&&decide (p.2<=10000000000000))=true
   rw[a2n this.2.2.1,a2n this.2.2.2]
   rfl
  ·match pp,ok.lt with
   |[],_=>rfl
   |[_],_=>rfl
   | [a,b],h=>
    have:=List.rel_of_pairwise_cons h (show b∈[b] by simp)
    exact a2n this
   |_::_::_::_,_=>rfl
 rw[this] at h
 cases h
theorem O0 {bk:List Sr} {tl:List Tl} {G:Nat} {R:PV->Prop} (hw:BkW bk) (ht:tl.length=G+1) (hG:G<=12) (hsm:∀z∈tl,SmOk z.1 bk.length) (q:∀l,Odd bk G l 1 200->R (.lst l)):lO [z7 bk tl] R:=by
 have oS:∀y∈WX bk tl,bR y=true:=okP_lst (sU bk tl)
 have oP:∀y∈a60 tl,bR y=true:=okP_lst (wG tl)
 have lS:(WX bk tl).length=G+1:=by rw[a0g,ht]
 have lP:(a60 tl).length=G+1:=by rw[a0g,ht]
 obtain ⟨l,zl,rfl⟩ : ∃l z,tl=l++[z]:=by
  rcases a5h tl with e|⟨l,z,e⟩
  ·subst e;simp at ht
  ·exact⟨l,z,by rw[e,a5i]⟩
 have eL:kZ (WX bk (l++[zl])) (-1)=some (.tup [.int (cK (aO bk zl.1)),fE zl.1]):=by
  unfold WX
  rw[a1k]
  exact DJ _ _
 have dS:(PV.lst (WX bk (l++[zl]))).dep<=60:=a1b (BJ (n:=2) λy hy=>by
  obtain⟨z,_,rfl⟩:=a0s.mp hy
  exact TX (n:=1) λx hx=>by
   simp only[a0l,a0y,a2i] at hx
   rcases hx with rfl|rfl
   ·rw[vA];omega
   ·exact TV _) (by decide)
 have hPl:∀y∈a60 (l++[zl]),∃pp,y=eI pp:=λy hy=>by
  obtain⟨z,_,rfl⟩:=a0s.mp hy
  exact⟨_,rfl⟩
 generalize hst:WX bk (l++[zl])=S at oS lS eL dS
 generalize hpa:a60 (l++[zl])=P at oP lP hPl
 unfold z7
 rw[show ((l++[zl]).map λz=>PV.tup [.int (cK (aO bk z.1)),fE z.1])=S from hst,show ((l++[zl]).map λz=>eI z.2)=P from hpa]
 unfold lO
 tb_from(⟨rfl,?_⟩)
 tb_from(⟨by simp,by simp,b8 (by simp),?_⟩)
 tb_from(⟨b8 (by simp),?_⟩)
 fail
 have okS:bR (.lst S)=true:=okP_l oS
 have okQ:bR (.lst P)=true:=okP_l oP
 have ok3:∀ {a b c:PV},bR a=true->bR b=true->bR c=true->∀x∈[a,b,c],bR x=true:=λh1 h2 h3 x hx=>by
  simp only[a0l,a0y,a2i] at hx
  rcases hx with rfl|rfl|rfl<;>assumption
 have okR:bR row=true:=by rw[bR]
 have A0:Odd bk G ([PV.non,.int 0,.bl true,.str (Str.ofString "row"),.str (Str.ofString ""),.lst [],.tup [],.dic [] [],.lst S,.lst P,.lst [row,.lst S,.lst P],.tup [row,.lst S]]++[.tup [.lst S,.lst P],.tup [row,.lst P,.lst S],.tup [.lst S,row,.lst P],.tup ([row,.lst S,.lst P]++[.lst []])]) 1 16:=by
  refine⟨λz hz=>?_,by simp,by simp⟩
  simp only[a1c,a0l,a0y,a2i] at hz
  have okE:bR (PV.lst [])=true:=by simp[bR,nE]
  have okI:∀ {xs:List PV},(∀x∈xs,bR x=true)->bR (.tup xs)=true:=okP_t
  rcases hz with (rfl|rfl|rfl|rfl|rfl|rfl|rfl|rfl|rfl|rfl|rfl|rfl)|rfl|rfl|rfl|rfl
  ·exact kG (by rw[bR]) λys e=>(nomatch e)
  ·exact kG (by rw[bR]) λys e=>(nomatch e)
  ·exact kG (by rw[bR]) λys e=>(nomatch e)
  ·exact kG (by rw[bR]) λys e=>(nomatch e)
  ·exact kG (by rw[bR]) λys e=>(nomatch e)
  ·exact kG okE λys e=>(nomatch e)
  ·exact v7 (by simp[bR,nE]) (λ_ _ e=>(nomatch e)) (by simp)
  ·exact kG (by rw[bR]) λys e=>(nomatch e)
  ·exact kG okS λys e=>(nomatch e)
  ·exact kG okQ λys e=>(nomatch e)
  ·exact kG (okP_l (ok3 okR okS okQ)) λys e=>(nomatch e)
  ·exact v7 (okP_t λx hx=>by simp at hx;rcases hx with rfl|rfl<;>assumption) (λ_ _ e=>by injection e with e1;subst e1;exact vF) (by simp)
  ·exact v7 (okP_t λx hx=>by simp at hx;rcases hx with rfl|rfl<;>assumption) (λ_ _ e=>by injection e with e1;subst e1;exact .inl dS) (by simp)
  ·refine oY okQ okS λss e hl hall=>?_
   injection e with e
   subst e
   obtain ⟨y,hy⟩ : ∃y,y∈P:=by
    cases P with
    |nil=>simp at lP
    |cons a b=>exact⟨a,a0n⟩
   obtain⟨b,ks,_,e2,_⟩:=hall y hy
   obtain⟨pp,e3⟩:=hPl y hy
   rw[e2] at e3
   cases e3
  ·exact iG (ok3 okS okR okQ) (.inl dS) (λe=>(nomatch e))
  ·exact v7 (okP_t λx hx=>by simp at hx;rcases hx with rfl|rfl|rfl|rfl<;>assumption) (λ_ _ e=>by injection e with e1;subst e1;exact vF) (by simp)
 refine cY (λi env=>∃acc t5,env=[some (.tup [row,.lst S,.lst P]),some row,some (.lst S),some (.lst P),some (.lst acc),t5,none,none]/\Odd bk G acc 1 (16+i)) ⟨_,_,rfl,A0⟩ ?_ ?_
 ·rintro i x env N hx ⟨acc,t5,rfl,hA⟩ hN
  have hi:=(a0e.mp hx).1
  have hx:=a0k hx
  have hah:=hA.hi
  tb_from(⟨rfl,?_⟩)
  fail
  refine⟨fH (by simp at hi;omega),?_⟩
  refine hN _ ⟨_,_,rfl,hA.push ?_⟩
  simp only[a0l,a0y,a2i] at hx
  rcases hx with rfl|rfl|rfl|rfl|rfl|rfl|rfl
  ·exact iG (ok3 (by rw[bR]) okS okQ) (.inl (by rw[PV.dep];omega)) (λe=>by injection e with e;exact absurd e ⋯)
  ·exact iG (ok3 (by rw[bR]) okS okQ) (.inl (by rw[PV.dep];omega)) (λe=>(nomatch e))
  ·exact iG (ok3 (by rw[bR]) okS okQ) (.inl (by rw[PV.dep];omega)) (λe=>(nomatch e))
  ·exact iG (ok3 (by simp[bR,nE]) okS okQ) (.inl (a1b BK (by decide))) (λe=>(nomatch e))
  ·exact iG (ok3 (by rw[bR]) okS okQ) (.inr rfl) (λe=>(nomatch e))
  ·exact iG (ok3 (by rw[bR]) okS okQ) (.inl (by rw[PV.dep];omega)) (λe=>by injection e with e;exact absurd e ⋯)
  ·exact iG (ok3 (by rw[bR]) okS okQ) (.inl (by rw[PV.dep];omega)) (λe=>by injection e with e;exact absurd e ⋯)
 rintro env ⟨acc,t5,rfl,hA⟩
 have hah:=hA.hi
 simp only[a1n,a3h] at hah
 fail
 have lc:∀(xs:List PV) (lo hi:Option Int),xs.length=G+1->(mQ xs lo hi).length<=13:=λxs lo hi h=>a1b O5 ∅
 have lS1:=lc S none (some (-1)) lS
 have lS2:=lc S (some 1) none lS
 have lP1:=lc P none (some (-1)) lP
 have lP2:=lc P (some 1) none lP
 have lC:(mQ (zl.1.map PV.int) (some 1) none).length<=zl.1.length:=a1b O5 (by rw[a0g];omega)
 have oc:∀ {xs:List PV} {lo hi:Option Int},(∀y∈xs,bR y=true)->∀y∈mQ xs lo hi,bR y=true:=λh y hy=>h y (TN hy)
 have oa:∀ {as bs:List PV},(∀y∈as,bR y=true)->(∀y∈bs,bR y=true)->∀y∈as++bs,bR y=true:=λh1 h2 y hy=>by
  rcases a1c.mp hy with z|z
  ·exact h1 y z
  ·exact h2 y z
 have o1:∀ {w:PV},bR w=true->∀y∈[w],bR y=true:=λh y hy=>by simp at hy;subst hy;exact h
 have sml:=hsm zl (by simp)
 have kl:=sml.len
 have hbl:=hw.len
 refine⟨b8 (by simp;omega),?_⟩
 fail
 refine⟨b8 (by simp;omega),?_⟩
 fail
 refine⟨b8 (by simp;omega),?_⟩
 tb_from(fA eL ?_)
 refine⟨rfl,?_⟩
 fail
 refine⟨b8 (by simp;omega),?_⟩
 fail
 refine⟨b8 (by simp;omega),?_⟩
 fail
 refine⟨b8 (by simp;omega),?_⟩
 fail
 refine⟨b8 (by simp;omega),?_⟩
 fail
 refine⟨b8 (by simp;omega),?_⟩
 fail
 have okN:bR PV.non=true:=by rw[bR]
 have okE:bR (PV.lst [])=true:=by simp[bR,nE]
 have okW:∀ {c:PV},bR c=true->bR (.tup [.int (cK (aO bk zl.1)),c])=true:=λh=>okP_t λx hx=>by
  simp only[a0l,a0y,a2i] at hx
  rcases hx with rfl|rfl
  ·rw[bR]
  ·exact h
 have okC:bR (fE zl.1)=true:=okP_inp _
 have okCt:bR (.tup (zl.1.map PV.int))=true:=okP_t (okP_lst okC)
 have B0:=((hA.app (m:=[PV.tup [row,.non,.lst P],.tup [row,.lst S,.non],.tup [row,.str (Str.ofString ""),.str (Str.ofString "")],.tup [row,.lst [],.lst []]]) (k:=4) (λz hz=>by
  simp only[a0l,a0y,a2i] at hz
  rcases hz with rfl|rfl|rfl|rfl
  ·exact oY okN okQ λss e=>(nomatch e)
  ·exact GM okS okN λ⟨_,e,_⟩=>(nomatch e)
  ·exact oY (by rw[bR]) (by rw[bR]) λss e=>(nomatch e)
  ·exact oY okE okE λss e hl=>by injection e with e;subst e;simp at hl) (by simp)).app (m:=[PV.tup [row,.dic [] [],.dic [] []],.tup [row,.int 1,.int 1],.tup [row,.lst S,.lst (mQ P none (some (-1))++[.non])]]) (k:=3) (λz hz=>by
  simp only[a0l,a0y,a2i] at hz
  rcases hz with rfl|rfl|rfl
  ·exact oY (by rw[bR]) (by rw[bR]) λss e=>(nomatch e)
  ·exact oY (by rw[bR]) (by rw[bR]) λss e=>(nomatch e)
  ·exact GN (z:=.non) okS (oa (oc oP) (o1 okN)) (a0t _ (by simp)) λpp e=>(nomatch e)) (by simp)).app (m:=[PV.tup [row,.lst S,.tup P],.tup [row,.lst (mQ S none (some (-1))++[.tup [.int (cK (aO bk zl.1)),.tup (zl.1.map PV.int)]]),.lst P]]) (k:=2) (λz hz=>by
  simp only[a0l,a0y,a2i] at hz
  rcases hz with rfl|rfl
  ·exact GM okS (okP_t oP) λ⟨_,e,_⟩=>(nomatch e)
  ·exact B8 (z:=.tup [.int (cK (aO bk zl.1)),.tup (zl.1.map PV.int)]) (oa (oc oS) (o1 (okW okCt))) okQ (a0t _ (by simp)) (BW rfl)) (by simp)
 refine cY (λi env=>∃acc t5,env=[some (.tup [row,.lst S,.lst P]),some row,some (.lst S),some (.lst P),some (.lst acc),t5,some (.int (cK (aO bk zl.1))),some (fE zl.1)]/\Odd bk G acc 1 (32+i)) ⟨_,_,rfl,⟨B0.bad,B0.lo,by have:=B0.hi;simpa using this⟩⟩ ?_ ?_
 ·rintro i x env N hx ⟨acc,t5,rfl,hA⟩ hN
  have hi:=(a0e.mp hx).1
  have hx:=a0k hx
  have hah:=hA.hi
  tb_from(⟨rfl,?_⟩)
  fail
  refine⟨b8 (by simp;omega),?_⟩
  fail
  refine⟨fH (by simp at hi;omega),?_⟩
  refine hN _ ⟨_,_,rfl,hA.push ?_⟩
  have okx:bR x=true/\a2B (.tup [.int (cK (aO bk zl.1)),x])=false:=by
   have okB:∀b:Bool,bR (.bl b)=true:=λb=>by rw[bR]
   simp only[a0l,a0y,a2i] at hx
   rcases hx with rfl|rfl|rfl
   ·exact⟨okP_l (oa (o1 (okB _)) (oc (okP_lst okC))),rfl⟩
   ·exact⟨okP_l (oa (o1 (okB _)) (okP_lst okC)),rfl⟩
   ·exact⟨okP_l (oa (okP_lst okC) (o1 (okB _))),by unfold a2B;dsimp only;rw[List.all_append];simp⟩
  exact B8 (z:=.tup [.int (cK (aO bk zl.1)),x]) (oa (oc oS) (o1 (okW okx.1))) okQ (a0t _ (by simp)) (BW okx.2)
 rintro env ⟨acc,t5,rfl,hA⟩
 have hah:=hA.hi
 simp only[a1n,a3h] at hah
 tb_from(cY (λi env=>∃acc t5,env=[some (.tup [row,.lst S,.lst P]),some row,some (.lst S),some (.lst P),some (.lst acc),t5,some (.int (cK (aO bk zl.1))),some (fE zl.1)]/\Odd bk G acc 1 (40+i)) ⟨_,_,rfl,⟨hA.bad,hA.lo,by omega⟩⟩ ?_ ?_)
 ·rintro i x env N hx ⟨acc,t5,rfl,hA⟩ hN
  have hi:=(a0e.mp hx).1
  have hx:=a0k hx
  have hah:=hA.hi
  tb_from(⟨rfl,?_⟩)
  fail
  refine⟨b8 (by simp;omega),?_⟩
  fail
  refine⟨fH (by simp at hi;omega),?_⟩
  refine hN _ ⟨_,_,rfl,hA.push ?_⟩
  have okx:bR x=true/\a2B x=false:=by
   simp only[a0l,a0y,a2i] at hx
   rcases hx with rfl|rfl|rfl|rfl|rfl|rfl|rfl|rfl|rfl|rfl<;>exact⟨by simp[bR,nE],rfl⟩
  exact B8 (z:=x) (oa (o1 okx.1) (oc oS)) okQ (a1z _ (by simp)) (BW okx.2)
 rintro env ⟨acc,t5,rfl,hA⟩
 have hah:=hA.hi
 simp only[a1n,a3h] at hah
 tb_from(cY (λi env=>∃acc t5,env=[some (.tup [row,.lst S,.lst P]),some row,some (.lst S),some (.lst P),some (.lst acc),t5,some (.int (cK (aO bk zl.1))),some (fE zl.1)]/\Odd bk G acc 1 (50+i)) ⟨_,_,rfl,⟨hA.bad,hA.lo,by omega⟩⟩ ?_ ?_)
 ·rintro i x env N hx ⟨acc,t5,rfl,hA⟩ hN
  have hi:=(a0e.mp hx).1
  have hx:=a0k hx
  have hah:=hA.hi
  tb_from(⟨rfl,?_⟩)
  fail
  refine⟨b8 (by simp;omega),?_⟩
  fail
  refine⟨fH (by simp at hi;omega),?_⟩
  refine hN _ ⟨_,_,rfl,hA.push ?_⟩
  have okx:bR x=true/\a2B x=false:=by
   simp only[a0l,a0y,a2i] at hx
   rcases hx with rfl|rfl|rfl|rfl|rfl|rfl|rfl|rfl|rfl<;>exact⟨by simp[bR,nE],rfl⟩
  exact B8 (z:=x) (oa (o1 okx.1) (oc oS)) okQ (a1z _ (by simp)) (BW okx.2)
 rintro env ⟨acc,t5,rfl,hA⟩
 have hah:=hA.hi
 simp only[a1n,a3h] at hah
 tb_from(cY (λi env=>∃acc t5,env=[some (.tup [row,.lst S,.lst P]),some row,some (.lst S),some (.lst P),some (.lst acc),t5,some (.int (cK (aO bk zl.1))),some (fE zl.1)]/\Odd bk G acc 1 (60+i)) ⟨_,_,rfl,⟨hA.bad,hA.lo,by omega⟩⟩ ?_ ?_)
 ·rintro i x env N hx ⟨acc,t5,rfl,hA⟩ hN
  have hi:=(a0e.mp hx).1
  have hx:=a0k hx
  have hah:=hA.hi
  tb_from(⟨rfl,?_⟩)
  fail
  refine⟨b8 (by simp;omega),?_⟩
  fail
  refine⟨fH (by simp at hi;omega),?_⟩
  refine hN _ ⟨_,_,rfl,hA.push ?_⟩
  have okx:bR x=true/\a4C x=false:=by
   simp only[a0l,a0y,a2i] at hx
   rcases hx with rfl|rfl|rfl|rfl|rfl|rfl|rfl|rfl|rfl<;>exact⟨by simp[bR,nE],rfl⟩
  exact GN (z:=x) okS (oa (o1 okx.1) (oc oP)) (a1z _ (by simp)) (Q6 okx.2)
 rintro env ⟨acc,t5,rfl,hA⟩
 have hah:=hA.hi
 simp only[a1n,a3h] at hah
 tb_from(⟨⟨by decide,by decide,by decide⟩,?_⟩)
 tb_from(cY (λi env=>∃acc t5,env=[some (.tup [row,.lst S,.lst P]),some row,some (.lst S),some (.lst P),some (.lst acc),t5,some (.int (cK (aO bk zl.1))),some (fE zl.1)]/\Odd bk G acc 1 (70+i)) ⟨_,_,rfl,⟨hA.bad,hA.lo,by omega⟩⟩ ?_ ?_)
 ·rintro i x env N hx ⟨acc,t5,rfl,hA⟩ hN
  have hi:=(a0e.mp hx).1
  have hx:=a0k hx
  have hah:=hA.hi
  tb_from(⟨rfl,?_⟩)
  fail
  refine⟨b8 (by simp;omega),?_⟩
  fail
  refine⟨fH (by simp at hi;omega),?_⟩
  refine hN _ ⟨_,_,rfl,hA.push ?_⟩
  have okx:bR x=true/\a4C x=false:=by
   simp only[a0l,a0y,a2i] at hx
   rcases hx with rfl|rfl|rfl|rfl
   ·exact⟨by simp[bR,nE],rfl⟩
   ·exact⟨by simp[bR,nE],by decide⟩
   ·exact⟨by simp[bR,nE],rfl⟩
   ·exact⟨by simp[bR,nE],rfl⟩
  exact GN (z:=x) okS (oa (o1 okx.1) (oc oP)) (a1z _ (by simp)) (Q6 okx.2)
 rintro env ⟨acc,t5,rfl,hA⟩
 have hah:=hA.hi
 simp only[a1n,a3h] at hah
 exact q acc ⟨hA.bad,hA.lo,by omega⟩
theorem a0A:∀ ns:List Int,ns.length<=63->O7 [.scr ns] λr=>r= .bl true:=by
  intro ns hns
  unfold O7
  tb_from(⟨by omega,?_⟩)
  refine⟨by omega,?_⟩
  refine JI (λenv=>∃t1 t2 t3 t4 t5 t6 t7 t8,env=[some (.scr ns),t1,t2,t3,t4,t5,t6,t7,t8]) ⟨_,_,_,_,_,_,_,_,rfl⟩ ?_ ?_
  · rintro x env N hx ⟨t1,t2,t3,t4,t5,t6,t7,t8,rfl⟩ hN
    obtain⟨i,rfl,i0,i1⟩:=HJ hx
    tb_from(⟨by omega,by omega,?_⟩)
    tb_from(NX (n:=7) ∅ λbk hb=>?_)
    have hlen:=hb.len
    tb_from(⟨by decide,by decide,λw w0 w1=>?_⟩)
    fail
    refine⟨b8 (by simp;omega),?_⟩
    have eb:bk.map rY++[PV.tup [.str (Str.ofString "zz"),.int 3,.int 8,.int w]]=(bk++[Sr.mk (Str.ofString "zz") 3 8 w]).map rY:=by rw[a1k];rfl
    rw[eb]
    have hsr:∀s∈bk++[Sr.mk (Str.ofString "zz") 3 8 w],s.b<s.e/\-1000000000000<=s.b/\s.e<=1000000000000/\0<=s.w/\s.w<=1000000000000:=λt ht=>by
      rcases a1c.mp ht with z|z
      · obtain⟨i,hi,e⟩:=a2d z
        have h:=hb.at_ i t (by rw[a0a hi,e])
        exact⟨h.lt,h.b0,h.e1,h.w0,h.w1⟩
      · simp at z;subst z;dsimp only;omega
    have hl8:(bk++[Sr.mk (Str.ofString "zz") 3 8 w]).length<=8:=by simp;omega
    generalize bk++[Sr.mk (Str.ofString "zz") 3 8 w]=ck at hsr hl8
    have hw:BkW ck:=⟨by omega,λs hs=>(hsr s hs).1,λs hs=>(hsr s hs).2.2.2.1,λs hs=>(hsr s hs).2.2.2.2,λs hs=>(hsr s hs).2.1,λs hs=>(hsr s hs).2.2.1⟩
    tb_from(NZ hw λtl G f hc hG ht hall=>?_)
    fail
    refine O0 hw ht hG (λz hz=>by
      obtain⟨j,hj,rfl⟩:=a2d hz
      exact (hall j hj).sm) λl hl=>?_
    have llo:=hl.lo
    have lhi:=hl.hi
    fail
    refine ⟨by omega, by have : (1000 : Int)<2^250:=by decide
                         omega,λr r0 r1=>?_⟩
    refine⟨show (0:Int)<l.length by omega,?_⟩
    tb_from(⟨show (0:Int)<l.length by omega,?_⟩)
    fail
    have inb:∀k∈[r,(r+17) % (l.length:Int),(r+34) % (l.length:Int)],0<=k/\k<(l.length:Int):=λk hk=>by
      have p:(0:Int)<l.length:=by omega
      simp only[a0l,a0y,a2i] at hk
      rcases hk with rfl|rfl|rfl
      · exact⟨r0,r1⟩
      · exact⟨a3y _ ∅,a3j _ p⟩
      · exact⟨a3y _ ∅,a3j _ p⟩
    refine JI (items:=[r,(r+17) % (l.length:Int),(r+34) % (l.length:Int)].map PV.int) (λenv=>∃t7 t8,env=[some (.scr ns),some (.int i),some .st,some (kY ck),some (z7 ck tl),some (.lst l),some (.int r),t7,t8]) ⟨_,_,rfl⟩ ?_ ?_
    · rintro x env N2 hx ⟨t7,t8,rfl⟩ hN2
      obtain⟨k,hk,rfl⟩:=a0s.mp hx
      obtain⟨k0,k1⟩:=inb k hk
      tb_from(VJ (P:=Bad ck G) k0 k1 hl.bad λz hz=>?_)
      tb_from(P1 ∅ hw.lt hc hz.ok hz.hd hz.no ?_)
      tb_from(P8 ?_)
      fail
      exact hN2 _ ⟨_,_,rfl⟩
    · rintro env ⟨t7,t8,rfl⟩
      tb_from(GR hw ∅ hc hG ht hall ?_)
      fail
      exact hN _ ⟨_,_,_,_,_,_,_,_,rfl⟩
  · rintro env ⟨t1,t2,t3,t4,t5,t6,t7,t8,rfl⟩
    rfl
end K38
set_option maxHeartbeats 4000000
local macro_rules | `(tactic| walk_at "lk") => `(tactic| with_reducible first | assumption | exact L2.bM | (apply L2.lk_ne; (walk_at "ne"); (walk_at "lk")))
local macro_rules | `(tactic| walk_at "ne") => `(tactic| with_reducible first | assumption | exact Ne.symm (by assumption) | (apply L2.ne_new; assumption; (walk_at "lk")) | (apply Ne.symm; apply L2.ne_new; assumption; (walk_at "lk")))
local macro_rules | `(tactic| walk_at "at") => `(tactic| with_reducible first | exact L2.n4 | exact L2.B6 | exact L2.NM | exact L2.GK | exact L2.at_b | exact L2.at_e | exact L2.at_w | exact L2.at_n | assumption)
local macro_rules | `(tactic| walk_at "side") => `(tactic| first | assumption | omega | (apply L2.YQ <;> omega) | (apply L2.YR <;> omega) | (apply L2.TK; omega; first | assumption | (apply L2.a43; omega)))
local macro_rules | `(tactic| walk_at "len") => `(tactic| first | assumption | omega | (simp only [List.length_cons, List.length_nil, List.length_append]; omega))
local macro_rules | `(tactic| walk_at "st1") => `(tactic| with_reducible first
  |refine L2.step ?_
  |(apply L2.a70;(walk_at "side"))
  |(apply L2.WM;(walk_at "lk");(walk_at "at"))
  |(apply L2.rIxTp_s;(walk_at "lk");(walk_at "at"))
  |(apply L2.iteT)|(apply L2.iteF)|(apply L2.iteNT_s)|(apply L2.iteNF_s)
  |(apply L2.a3Z;(walk_at "len"))
  |(apply L2.a25;(walk_at "lk"))|(apply L2.a26;(walk_at "lk"))|(apply L2.a27;(walk_at "lk"))
  |(apply L2.gTup2_s;(walk_at "lk"))|(apply L2.gTup3_s;(walk_at "lk"))|(apply L2.gTup4_s;(walk_at "lk"))
  |(apply L2.KC;assumption)|(apply L2.rLenL_s;(walk_at "lk"))|(apply L2.rLenT_s;(walk_at "lk"))
  |(apply L2.rListOfL_s;(walk_at "lk"))
  |(apply L2.tyL_s;(walk_at "lk"))
  |(apply L2.rAppend_s;(walk_at "lk");(apply L2.lenT_s;(walk_at "len")))
  |(apply L2.sl13_s;(walk_at "lk"))
  |(apply L2.rCat_s;(walk_at "lk");(walk_at "lk");(apply L2.lenL_s;(walk_at "len")))
  |(apply L2.exfl_s;(walk_at "lk"))
  |(apply L2.exacc_s;(walk_at "lk");(walk_at "len"))
  |(apply L2.rListR_s;(walk_at "lk");omega)
  |(apply L2.rAddS_s;(apply L2.lenL_s;omega)))
local macro_rules | `(tactic| walk_at "st") => `(tactic| (repeat walk_at "st1"))
local macro_rules | `(tactic| walk_at "but") => `(tactic| with_reducible (repeat (first | assumption | exact L2.But.refl | refine L2.But.put_of ?_ | (refine L2.But.new_of ?_ (by assumption)) | (refine L2.But.own_of ?_ (by assumption)))))
local macro_rules | `(tactic| walk_at "same") => `(tactic| with_reducible (repeat (first | assumption | exact L2.Same.refl _ | (refine L2.Same.new_of ?_ (by assumption)))))
local macro_rules | `(tactic| walk_at "tups") => `(tactic| with_reducible (repeat (first | assumption | exact L2.Tups.refl | (refine L2.Tups.new_of ?_ (by assumption)) | (apply L2.Tups.put_of; rotate_left; (walk_at "lk")))))
local macro_rules | `(tactic| walk_at "n") => `(tactic| exact L2.Y0 (by first | exact Or.inl (by decide +kernel) | exact Or.inr (by decide +kernel)) rfl (by decide +kernel) (by decide +kernel))
local macro_rules | `(tactic| walk_at "d") => `(tactic| (refine' L2.YS ?da ?dl ?dc ?dk; (case da => k_is); (case dl => k_is); (case dc => k_is); (case dk => k_is)))
namespace K38
open PySem L2
def top(i:Nat):Stmt:=PySem.Challenge.pw_benchworth_k38_what_is_no_row.main.body.getD i (.Pass ⟨0,0,0,0⟩)
structure Txt(K:PySem.W.Frag)(mg:Str->Option Value):Prop where
 b_all:mg "all"=none
 b_bool:mg "bool"=none
 b_enumerate:mg "enumerate"=none
 b_int:mg "int"=none
 b_isinstance:mg "isinstance"=none
 b_len:mg "len"=none
 b_list:mg "list"=none
 b_max:mg "max"=none
 b_min:mg "min"=none
 b_range:mg "range"=none
 b_set:mg "set"=none
 b_sorted:mg "sorted"=none
 b_sum:mg "sum"=none
 b_tuple:mg "tuple"=none
 b_zip:mg "zip"=none
 c_FARTHEST:∃t,mg "FARTHEST"=some (.int 1000000000000 t)
 c_GREATEST_PRICE:∃t,mg "GREATEST_PRICE"=some (.int 10000000000000 t)
 c_MOST_PRICES:∃t,mg "MOST_PRICES"=some (.int 48 t)
section
variable{P:Program}{w:World}{K:Aa}{mg:Str->Option Value}{base:Heap}
theorem JP{X:Cx}{md:List Md}{e:Expr}{pe:b5}(h:VE X md e (.o .fl) pe):VE X md e (.p .fl) pe:=fB h rfl
theorem a2Z{X:Cx}{md:List Md}{e:Expr}{pe:b5}(h:VE X md e (.o .fl) pe):VE X md e .bw pe:=fB h rfl
theorem HH{X:Cx}{md:List Md}{e:Expr}{pe:b5}(h:VE X md e (.o .sh) pe):VE X md e (.p .sh) pe:=fB h rfl
theorem a3W{X:Cx}{md:List Md}{e:Expr}{pe:b5}(h:VE X md e (.o .sh) pe):VE X md e .bw pe:=fB h rfl
theorem a5X{X:Cx}{md:List Md}{e:Expr}{pe:b5}(h:VE X md e (.o .sn) pe):VE X md e (.p .sn) pe:=fB h rfl
theorem a5Y{X:Cx}{md:List Md}{e:Expr}{pe:b5}(h:VE X md e (.p .fl) pe):VE X md e (.p .sh) pe:=fB h rfl
theorem a3X{X:Cx}{md:List Md}{e:Expr}{pe:b5}(h:VE X md e (.p .sn) pe):VE X md e (.p .sh) pe:=fB h rfl
theorem a7W{X:Cx}{md:List Md}{e:Expr}{pe:b5}(h:VE X md e (.v .fl) pe):VE X md e (.p .fl) pe:=fB h rfl
theorem aP{X:Cx}{md:List Md}{e:Expr}{pe:b5}(h:VE X md e (.v .fl) pe):VE X md e .bw pe:=fB h rfl
theorem M7{X:Cx}{md:List Md}{e:Expr}{pe:b5}(h:VE X md e (.v .sh) pe):VE X md e (.p .sh) pe:=fB h rfl
theorem fZ{X:Cx}{md:List Md}{e:Expr}{pe:b5}(h:VE X md e (.v .sh) pe):VE X md e .bw pe:=fB h rfl
theorem a08{X:Cx}{md:List Md}{e:Expr}{pe:b5}(h:VE X md e (.v .sn) pe):VE X md e (.p .sn) pe:=fB h rfl
theorem a3V{X:Cx}{md:List Md}{e:Expr}{pe:b5}(h:VE X md e (.v .sn) pe):VE X md e (.v .sh) pe:=fB h rfl
theorem a09{X:Cx}{md:List Md}{e:Expr}{pe:b5}(h:VE X md e (.v .sn) pe):VE X md e .bw pe:=fB h rfl
theorem dM{X:Cx}{md:List Md}{e:Expr}{pe:b5}(h:VE X md e (.z .fl) pe):VE X md e (.v .sn) pe:=fB h rfl
theorem uV{X:Cx}{md:List Md}{e:Expr}{pe:b5}(h:VE X md e (.z .sh) pe):VE X md e (.v .sh) pe:=fB h rfl
theorem UW{X:Cx}{md:List Md}{e:Expr}{pe:b5}(h:VE X md e (.z .sn) pe):VE X md e (.v .sn) pe:=fB h rfl
abbrev m8:Stmt:=top 1
abbrev AY:List Str:=["thing", "many"]
theorem D4:SN AY ["thing", "many"] m8:=bL
abbrev i6:=jU 1 "is_list_of" ["thing", "many"] [.bw,.bw] (.v .fl) dD
theorem yT(D:Df K mg "is_list_of" m8)(T:Txt K mg): i6 P w K mg base:=
 have z:=D4
 DA (mn:=[.no,.no]) (D7 Lib.rN.2) D z λf cdv A outer s H E hr=>
 (aI (aS (iQ (aP (aU pL mB gD T.b_isinstance cU (a7 (vb z) (a7 (aP (dI (lY (v:=.ty "list") gD T.b_list qE rfl v9 v8) (λ_=>.ty _))) a9)) cT cS)) (iR (pX xR rX (aP (aU cR cZ gD T.b_len dR (a7 (vb z) a9) eD eC)) (vb z) (c9 _)))) rfl))
abbrev kR:Stmt:=top 2
abbrev yJ:List Str:=["thing", "many"]
theorem zD:SN yJ ["thing", "many"] kR:=bL
abbrev e9:=jU 1 "is_tuple_of" ["thing", "many"] [.bw,.bw] (.v .fl) cF
theorem wJ(D:Df K mg "is_tuple_of" kR)(T:Txt K mg): e9 P w K mg base:=
 have z:=zD
 DA (mn:=[.no,.no]) (D7 Lib.oR.2) D z λf cdv A outer s H E hr=>
 (aI (aS (iQ (aP (aU pL mB gD T.b_isinstance cU (a7 (vb z) (a7 (aP (dI (lY (v:=.ty "tuple") gD T.b_tuple vS rfl vR vM) (λ_=>.ty _))) a9)) cT cS)) (iR (pX xR rX (aP (aU cR cZ gD T.b_len dR (a7 (vb z) a9) eD eC)) (vb z) (c9 _)))) rfl))
abbrev pO:Stmt:=top 5
abbrev G8:List Str:=["thing"]
theorem IT:SN G8 ["thing"] pO:=bL
abbrev jS:=jU 1 "is_whole" ["thing"] [.bw] (.v .fl) fM
theorem EI(D:Df K mg "is_whole" pO)(T:Txt K mg): jS P w K mg base:=
 have z:=IT
 XB (mn:=[.no]) (N8 Lib.xI.2) D z λf cdv A outer s H E hr=>
 (aI (aS (iQ (aP (aU pL mB gD T.b_isinstance cU (a7 (vb z) (a7 (aP (dI (lY (v:=.ty "int") gD T.b_int NT rfl NR NP) (λ_=>.ty _))) a9)) cT cS)) (iR (a2Q (aP (aU pL mB gD T.b_isinstance cU (a7 (vb z) (a7 (aP (dI (lY (v:=.ty "bool") gD T.b_bool JA rfl J9 J6) (λ_=>.ty _))) a9)) cT cS))))) rfl))
abbrev tG:Stmt:=top 9
abbrev KZ:List Str:=["stretch", "moment"]
theorem MZ:SN KZ ["stretch", "moment"] tG:=bL
abbrev jF:=jU 1 "is_over" ["stretch", "moment"] [.bw,.bw] (.v .fl) fU
theorem HL(D:Df K mg "is_over" tG)(T:Txt K mg): jF P w K mg base:=
 have z:=MZ
 DA (mn:=[.no,.no]) (D7 Lib.AF.2) D z λf cdv A outer s H E hr=>
 (aI (aS (FU CC CD a61 a7N (fZ (aR (vp .sh z) (aP aD) (λ_ _=>rfl))) (vb z) (fZ (aR (vp .sh z) (aP aD) (λ_ _=>rfl)))) rfl))
abbrev j5:Stmt:=top 10
abbrev AZ:List Str:=["book"]
theorem D5:SN AZ ["book"] j5:=bL
abbrev i7:=jU 1 "moments_of" ["book"] [.bw] (.o .fl) dF
theorem yU(D:Df K mg "moments_of" j5)(T:Txt K mg): i7 P w K mg base:=
 have z:=D5
 XB (mn:=[.no]) (N8 Lib.rO.2) D z λf cdv A outer s H E hr=>
 (aI (aS (IN (N':=["stretch", "moment"]) (n:=2) (cap:=[]) (mb:=[(.v .sh),.no]) (m2:=[(.v .sh),.no]) (λ_=>rfl) rfl (show LcOk ["book"] (aB j5) _ _ _ _ from i8 (by rfl) (by rfl) ⋯) rfl rfl gD T.b_sorted (fI (vr (.v .sh) z)) (λ_ _ _ _=>(gq 0)) (λ_ _ _ _=>fK) (λ_ _ _ _=>a5K (m1:=[(.v .sh),(.v .sh)]) (m2:=[(.v .sh),(.v .sh)]) rfl rfl rfl rfl (a2T (SJ (M7 (b7 (m:=(.v .sh)) qo rfl rfl)) (e8 (aP aD)) (e8 (aP aD)))) (gq 1) fK (a2O rfl rfl bo))) rfl))
abbrev pV:Stmt:=top 19
abbrev GG:List Str:=["book", "some"]
theorem J1:SN GG ["book", "some"] pV:=bL
abbrev jT:=jU 1 "worth_of" ["book", "some"] [.bw,.bw] (.v .fl) fN
theorem EO(D:Df K mg "worth_of" pV)(T:Txt K mg): jT P w K mg base:=
 have z:=J1
 DA (mn:=[.no,.no]) (D7 Lib.xP.2) D z λf cdv A outer s H E hr=>
 (aI (aS (aU (CA rfl) vG gD T.b_sum BB (a7 (a3W (XG ["number", "book"] 1 [0] [(.v .sh),(.v .sh)] (fI (vr (.v .sh) z)) (λ_ _ _ _=>(gq 0)) (λ_ _ _ _=>fK) (λ_ _ _ _=>(aR (M7 (aR (M7 (b7 (m:=(.v .sh)) (qk cD) rfl rfl)) bo (λ_ _=>rfl))) (aP aD) (λ_ _=>rfl))))) a9) BA B9) rfl))
abbrev m7:Stmt:=top 22
abbrev AX:List Str:=["rooms", "ahead", "back"]
theorem D3:SN AX ["rooms"] m7:=bL
abbrev kF:=jU 1 "free_roads" ["rooms"] [.bw] (.o .fl) eW
theorem yS (D:Df K mg "free_roads" m7) (T:Txt K mg)  : kF P w K mg base:=
  have z:=D3
  XB (mn:=[.no,.no,.no]) (N8 Lib.rM.2) D z λf cdv A outer s H E hr=>
  (aC (a55 1 z ["at"] 1 [] [(.v .fl)] (i5 gD T.b_range (aP (aU cR cZ gD T.b_len dR (a7 (vb z) a9) eD eC))) (λ_ _ _ _=>(gq 0)) (λ_ _ _ _=>fK) (λ_ _ _ _=>(aJ .fl (a7 (b7 (m:=(.v .fl)) qo rfl rfl) (a7 (bN bE kO bo (aP aD)) (a7 aD (a7 dJ a9)))) rfl)))
 (aC (a55 2 z ["at", "room"] 2 [] [(.v .sh),(.v .sh)] (sD gD T.b_enumerate (vr (.v .sh) z)) (λ_ _ _ _=>(cE (n:=2) rfl (aG (gq 0) (aG (gq 1) bP)))) (λ_ _ _ _=>(sF (fQ nM a31 bo (aP aD) (c9 _)))) (λ_ _ _ _=>(aJ .sh (a7 (bN bE kO bo (aP aD)) (a7 (b7 (m:=(.v .sh)) qo rfl rfl) (a7 aD (a7 dJ a9)))) rfl)))
 (aI (aS (yC (eM (vp .sh z) (HH (a2S (vk .sh z) (aP (gI (aP aD))))))) rfl))))
abbrev fG:Stmt:=top 23
abbrev uP:List Str:=["book", "places", "chosen", "place_of", "roads", "number", "name", "begin", "end", "worth"]
theorem v5:SN uP ["book", "places", "chosen"] fG:=bL
abbrev gR:=jU 1 "stretch_roads" ["book", "places", "chosen"] [.bw,.bw,.bw] (.o .fl) cO
theorem sY (D:Df K mg "stretch_roads" fG) (T:Txt K mg)  : gR P w K mg base:=
  have z:=v5
  YB (mn:=[.no,.no,.no,.no,.no,.no,.no,.no,.no,.no]) (SX Lib.mN.2) D z λf cdv A outer s H E hr=>
  (aC (SM (i:=3) (N':=["at", "moment"]) (n:=2) (cap:=[]) (mb:=[(.v .sh),(.v .sh)]) z.s.nd rfl (ln z 3) rfl (.inl rfl) rfl (by decide) (λ_=>rfl) rfl (show LcOk ["book", "places", "chosen", "place_of", "roads", "number", "name", "begin", "end", "worth"] (aB fG) _ _ _ _ from i8 (by rfl) (by rfl) ⋯) rfl rfl (sD gD T.b_enumerate (vr (.v .sh) z)) (λ_ _ _ _=>(cE (n:=2) rfl (aG (gq 0) (aG (gq 1) bP)))) (λ_ _ _ _=>fK) (λ_ _ _ _=>bo) (λ_ _ _ _=>(sC bo)))
 (aC (mC 4 z (aH .fl a9 rfl))
 (aC (f9 a1u rfl rfl (sD gD T.b_enumerate (vr (.v .sh) z)) (cE (n:=2) rfl (aG (gn 5 z) (aG (cE (n:=4) rfl (aG (gn 6 z) (aG (gn 7 z) (aG (gn 8 z) (aG (gn 9 z) bP))))) bP)))
 (aC (iX (fQ (WG hr.units) a28 (vb z) (vb z) (by with_unfolding_all rfl))
 (aC (fJ a1r a1p a1o cP bV (qn z) rfl (a7 (sC (fZ (aJ .sh (a7 (vH hr.units (vk .fl z) (vb z) (λ_ _=>rfl)) (a7 (vH hr.units (vk .fl z) (vb z) (λ_ _=>rfl)) (a7 (gI (vb z)) (a7 (vr (.v .sh) z) a9)))) rfl))) a9))
 aQ)
 (aC (fJ a1r a1p a1o cP bV (qn z) rfl (a7 (sC (fZ (aJ .sh (a7 (vH hr.units (vk .fl z) (vb z) (λ_ _=>rfl)) (a7 (vH hr.units (vk .fl z) (vb z) (λ_ _=>rfl)) (a7 (vr (.v .sh) z) (a7 (vr (.v .sh) z) a9)))) rfl))) a9))
 aQ))
 (eP (m1:=[(.v .sh),(.v .sh),(.v .sh),(.o .fl),(.o .fl),.no,.no,.no,.no,.no]) rfl aQ)))
 (aI (sE (qn z) rfl rfl)))))
abbrev d6:Stmt:=top 25
abbrev sM:List Str:=["roads", "many", "start", "gains", "last_roads", "better", "road", "before", "goal", "gain", "number"]
theorem tS:SN sM ["roads", "many", "start"] d6:=bL
abbrev gA:=jU 1 "greatest_gains" ["roads", "many", "start"] [.bw,.bw,.bw] (.v .sn) cG
theorem qR (D:Df K mg "greatest_gains" d6) (T:Txt K mg)  : gA P w K mg base:=
  have z:=tS
  YB (mn:=[.no,.no,.no,.no,.no,.no,.no,.no,.no,.no,.no]) (SX Lib.lD.2) D z λf cdv A outer s H E hr=>
  (aC (KQ (i:=3) (j:=4) (m1:=(.o .fl)) (m2:=(.o .fl)) rfl z.s.nd rfl rfl (by decide) (show (aB d6).names.lookup (Str.ofString "gains")=some NameKind.local by decide+kernel) (show (aB d6).names.lookup (Str.ofString "last_roads")=some NameKind.local by decide+kernel) (IM (JP (aH .fl (a7 dJ a9) rfl)) (vb z)) (IM (JP (aH .fl (a7 dJ a9) rfl)) (vb z)) rfl rfl rfl (by decide) rfl (by decide))
 (aC (a2U (qn z) rfl aD (vb z))
 (aC (mC 5 z e7)
 (aC (FV a1u (fR (vb z))
 (aC (mC 5 z e7)
 (aC (f9 a1u rfl rfl (fI (vr (.v .sh) z)) (gn 6 z)
 (aC (kW (vr (.v .sh) z) (cE (n:=4) rfl (aG (gn 7 z) (aG (gn 8 z) (aG (gn 9 z) (aG (gn 10 z) bP))))))
 (aC (iX (AT (SQ (fQ xS xY (aP (aR (vk .fl z) (vb z) (λ_ _=>rfl))) (aP dJ) (c9 _)) (KR (AT (FW (fQ WH WR (aP (aR (vk .fl z) (vb z) (λ_ _=>rfl))) (aP dJ) (c9 _)) (CY (fQ nM a31 (aP (bN bE kO (aP (aR (vk .fl z) (vb z) (λ_ _=>rfl))) (vb z))) (aP (aR (vk .fl z) (vb z) (λ_ _=>rfl))) (c9 _))))))))
 (aC (XH rfl (qn z) rfl (qn z) rfl (sC (fZ (aJ .sh (a7 (bN bE kO (aP (aR (vk .fl z) (vb z) (λ_ _=>rfl))) (vb z)) (a7 (vr (.v .sh) z) a9)) rfl))) (vb z) (vb z))
 (aC (mC 5 z e7)
 aQ))
 aQ)
 (eP (m1:=[(.v .sh),(.v .sh),(.v .sh),(.o .fl),(.o .fl),(.v .fl),.no,.no,.no,.no,.no]) rfl aQ))))
 aQ)))
 (aI (pY 3 .fl rfl (pY 4 .fl rfl (aS (aJ .sn (a7 (dM (vr (.z .fl) z)) (a7 (dM (vr (.z .fl) z)) a9)) rfl) rfl))))))))
abbrev iP:Stmt:=top 26
abbrev uO:List Str:=["last_roads", "goal", "numbers", "reached", "gain", "number"]
theorem uZ:SN uO ["last_roads", "goal"] iP:=bL
abbrev gQ:=jU 1 "numbers_along" ["last_roads", "goal"] [.bw,.bw] (.o .fl) cN
theorem sX (D:Df K mg "numbers_along" iP) (T:Txt K mg)  : gQ P w K mg base:=
  have z:=uZ
  DA (mn:=[.no,.no,.no,.no,.no,.no]) (D7 Lib.mM.2) D z λf cdv A outer s H E hr=>
  (aC (mC 2 z (aH .fl a9 rfl))
 (aC (FV a1u (fQ xS xY (fZ (aR (vp .sh z) (vb z) (λ_ _=>rfl))) (aP dJ) (c9 _))
 (aC (kW (aR (vp .sh z) (vb z) (λ_ _=>rfl)) (cE (n:=4) rfl (aG (gn 1 z) (aG (gn 3 z) (aG (gn 4 z) (aG (gn 5 z) bP))))))
 (aC (iX (fQ xS xY (vb z) (aP dJ) (c9 _))
 (aC (fJ a1r a1p a1o cP bV (qn z) rfl (a7 (sC (vb z)) a9))
 aQ)
 aQ)
 (eP (m1:=[(.v .sh),(.v .sh),(.o .fl),.no,.no,.no]) rfl aQ))))
 (aI (sE (qn z) rfl rfl))))
abbrev m6:Stmt:=top 27
abbrev AW:List Str:=["chosen", "numbers"]
theorem D2:SN AW ["chosen", "numbers"] m6:=bL
abbrev kE:=jU 1 "changed_by" ["chosen", "numbers"] [.bw,.bw] (.o .fl) eV
theorem yR(D:Df K mg "changed_by" m6)(T:Txt K mg): kE P w K mg base:=
 have z:=D2
 DA (mn:=[.no,.no]) (D7 Lib.rL.2) D z λf cdv A outer s H E hr=>
 (aI (aS (IP rfl gD T.b_sorted gD T.b_set (vb z) (vb z)) rfl))
abbrev nU:Stmt:=top 28
abbrev DG:List Str:=["gains", "spots", "rises"]
theorem G1:SN DG ["gains", "spots"] nU:=bL
abbrev lL:=jU 1 "prices_by" ["gains", "spots"] [.bw,.bw] (.o .fl) fW
theorem C1 (D:Df K mg "prices_by" nU) (T:Txt K mg)  : lL P w K mg base:=
  have z:=G1
  DA (mn:=[.no,.no,.no]) (D7 Lib.uH.2) D z λf cdv A outer s H E hr=>
  (aC (a55 2 z ["at", "gains"] 1 [0] [(.v .fl),(.v .sh)] (i5 gD T.b_range (aP (aU cR cZ gD T.b_len dR (a7 (vb z) a9) eD eC))) (λ_ _ _ _=>(gq 0)) (λ_ _ _ _=>fK) (λ_ _ _ _=>(bN iD CL (fZ (aR (M7 (b7 (m:=(.v .sh)) (qk cD) rfl rfl)) (aP (bN bE kO bo (aP aD))) (λ_ _=>rfl))) (fZ (aR (M7 (b7 (m:=(.v .sh)) (qk cD) rfl rfl)) bo (λ_ _=>rfl))))))
 (aI (pY 2 .fl rfl (aS (yC (XG ["spot", "rise"] 2 [] [(.v .sh),(.v .sh)] (SL gD T.b_zip (vr (.v .sh) z) (a3V (dM (vr (.z .fl) z)))) (λ_ _ _ _=>(cE (n:=2) rfl (aG (gq 0) (aG (gq 1) bP)))) (λ_ _ _ _=>(sF (fQ nM a31 bo (aP aD) (c9 _)))) (λ_ _ _ _=>(aJ .sh (a7 (b7 (m:=(.v .sh)) qo rfl rfl) (a7 (b7 (m:=(.v .sh)) qo rfl rfl) a9)) rfl)))) rfl))))
abbrev nV:Stmt:=top 41
abbrev DH:List Str:=["paper"]
theorem G2:SN DH ["paper"] nV:=bL
abbrev lM:=jU 1 "prices_of" ["paper"] [.bw] (.v .fl) fX
theorem C2(D:Df K mg "prices_of" nV)(T:Txt K mg): lM P w K mg base:=
 have z:=G2
 XB (mn:=[.no]) (N8 Lib.uI.2) D z λf cdv A outer s H E hr=>
 (aI (aS (aU (CA rfl) vG gD T.b_sum BB (a7 (a3W (XG ["moment", "price"] 2 [] [(.v .sh),(.v .sh)] (fI (vr (.v .sh) z)) (λ_ _ _ _=>(cE (n:=2) rfl (aG (gq 0) (aG (gq 1) bP)))) (λ_ _ _ _=>fK) (λ_ _ _ _=>(b7 (m:=(.v .sh)) qo rfl rfl)))) a9) BA B9) rfl))
abbrev d7:Stmt:=top 52
abbrev gS:List Str:=["_law_script", "_law_k", "_law_cell", "_law_number", "_law_seed"]
theorem jC:SN gS ["_law_script", "_law_k"] d7:=bL
theorem xX:FnScope gS ["_law_script", "_law_k"] (aB d7):=jC.s
theorem tZ:NV gS "_law_begun" d7 "_law_script" 0:=jC.n.nv rfl
theorem jY:NV gS "_law_begun" d7 "_law_k" 1:=jC.n.nv rfl
theorem jZ:NV gS "_law_begun" d7 "_law_cell" 2:=jC.n.nv rfl
theorem iH:NV gS "_law_begun" d7 "_law_number" 3:=jC.n.nv rfl
theorem u5:NV gS "_law_begun" d7 "_law_seed" 4:=jC.n.nv rfl
theorem w4:GL d7 "len":=⋯
theorem w6:GL d7 "max":=⋯
theorem HP (D:Df K mg "_law_begun" d7) (T:Txt K mg):Cal P w K mg base 1 "_law_begun" ["_law_script", "_law_k"] (KG K):=by
 refine D.ok xX (λ_ _ _ _ _ _ us hl=>a0G hl (λ_ _=>rfl)) (λvs H Q E h=>?_) (λf cdv A outer s H vs Q E hr h=>?_)
 ·obtain⟨p,k,ns,rfl,_⟩:=h
  rfl
 ·obtain ⟨p,k,ns,rfl,hS,k0,k1,kk⟩:=h
  have sc:=xX
  refine RA (dN (nN (i:=2) sc.nd rfl jZ.lo bI rfl (.inl rfl))
   (dN (RF (CG CD jY.h (FA WC w4 T.b_len dR (k9 tZ.h xQ) eD eC) (c9 _))
    (o8 (nN (i:=2) sc.nd rfl jZ.lo (rP WK tZ.h jY.h (λ_ _=>rfl)) rfl (.inl rfl)))
    CF)
   (dN (nN (i:=3) sc.nd rfl iH.lo (FA (IA rfl) w6 T.b_max GQ (k9 jZ.h (k9 (eZ iD (a4Q KA bI) jZ.h) xQ)) GP GO) rfl (.inl rfl))
   (dN (nN (i:=4) sc.nd rfl u5.lo (eZ m3 (eZ bE (eZ bE iH.h (eZ iC (eZ iC bI jY.h) jY.h)) bI) bI) rfl (.inl rfl))
   (dN (RF (CG CD iH.h (eZ m4 bI bI) (c9 _))
    (o8 (nN (i:=3) sc.nd rfl iH.lo bI rfl (.inl rfl)))
    CF)
   (o8 (ID (a1Q (k9 iH.h (k9 u5.h (k9 bI xQ))))))))))) ?_
  refine KH (σ:=[some _,some _,none,none,none]) rfl ?_
  walk_at "st"
  have nn:∀cell:Int,0<=(if -1-cell>cell then -1-cell else cell):=by
   intro cell;split<;>omega
  refine KC hS ?_
  walk_at "st"
  refine UU (λh1=>?_) (λh1=>?_)
  ·have h2:k<((ns.map V.int).length:Int):=a3u h1
   rw[a0g] at h2
   have h3:k.toNat<ns.length:=by omega
   have e:kZ (ns.map V.int) k=some (.int ns[k.toNat]):=bY k0 (by rw[a0h,a0a h3];rfl)
   walk_at "st"
   refine a1Z hS e ?_
   walk_at "st"
   have h4:=nn ns[k.toNat]
   refine UU (λh2=>?_) (λh2=>?_)
   all_goals (walk_at "st";intro q hq;exact kk q _ _ _ hq ⟨by first|omega|exact h4,a3y _ ∅,a3j _ ∅⟩)
  ·walk_at "st"
   have h4:=nn 0
   refine UU (λh2=>?_) (λh2=>?_)
   all_goals (walk_at "st";intro q hq;exact kk q _ _ _ hq ⟨by first|omega|exact h4,a3y _ ∅,a3j _ ∅⟩)
abbrev vJ:=jU 1 "_law_begun" ["_law_script", "_law_k"] [.scr,.bw] .st zT
abbrev eJ:Stmt:=top 53
abbrev jG:List Str:=["_law_state", "_law_many", "_law_found", "_law_made", "_law_turn"]
theorem lE:SN jG ["_law_state", "_law_many"] eJ:=bL
theorem AQ:FnScope jG ["_law_state", "_law_many"] (aB eJ):=lE.s
theorem cJ:NV jG "_law_take" eJ "_law_state" 0:=lE.n.nv rfl
theorem lU:NV jG "_law_take" eJ "_law_many" 1:=lE.n.nv rfl
theorem wF:NV jG "_law_take" eJ "_law_found" 2:=lE.n.nv rfl
theorem lV:NV jG "_law_take" eJ "_law_made" 3:=lE.n.nv rfl
theorem HK:NV jG "_law_take" eJ "_law_turn" 4:=lE.n.nv rfl
theorem uT:GL eJ "range":=⋯
theorem yM:GL eJ "int":=⋯
def YF(H:Hp)(p:Ac)(m a:Int)(_:Nat)(σ:St)(H1:Hp):Prop:=∃(b c made:Int) (tv:Option V),σ=[some (.ref p),some (.int m),none,some (.int made),tv]/\H1=bX H p (D9 a b c)/\StOk a b c
theorem MF (D:Df K mg "_law_take" eJ) (T:Txt K mg):Cal P w K mg base 1 "_law_take" ["_law_state", "_law_many"] S1:=by
 refine D.ok AQ (λ_ _ _ _ _ _ us hl=>a0G hl (λ_ _=>rfl)) (λvs H Q E h=>?_) (λf cdv A outer s H vs Q E hr h=>?_)
 ·obtain⟨p,m,a,b,c,rfl,_⟩:=h
  rfl
 ·obtain ⟨p,m,a,b,c,rfl,hp,ok,m0,m1,k⟩:=h
  have sc:=AQ
  refine RA (dN (RF (CG nM (rP nO cJ.h bI (λ_ _=>rfl)) bI (c9 _))
    (dN (nN (i:=2) sc.nd rfl wF.lo (eZ m3 (rP nO cJ.h bI (λ_ _=>rfl)) lU.h) rfl (.inl rfl))
    (dN (IC (eZ AL (rP nO cJ.h bI (λ_ _=>rfl)) lU.h) (IB cJ.h bI tE))
    (o8 (ID wF.h))))
    CF)
   (dN (nN (i:=3) sc.nd rfl lV.lo bI rfl (.inl rfl))
   (dN (a1V a1u rfl (MN uT T.b_range (k9 (eZ bE bI (MM a1O yM T.b_int NT (k9 (WD nM lU.h (eZ m4 bI bI) (c9 _)) xQ) NR NP)) xQ)) (CB (i:=4) sc.nd rfl HK.lo (.inl rfl))
    (dN (IC (eZ bE (rP nO cJ.h bI (λ_ _=>rfl)) bI) (IB cJ.h bI tE))
    (dN (IC (eZ m3 (eZ bE (eZ iC (rP nO cJ.h bI (λ_ _=>rfl)) bI) (eZ iC bI (rP nO cJ.h bI (λ_ _=>rfl)))) bI) (IB cJ.h bI tE))
    (o8 (nN (i:=3) sc.nd rfl lV.lo (eZ bE (eZ iC lV.h bI) (eZ m3 (eZ iC (rP nO cJ.h bI (λ_ _=>rfl)) (rP nO cJ.h bI (λ_ _=>rfl))) bI)) rfl (.inl rfl))))))
   (o8 (ID (eZ m3 (eZ AL lV.h bI) lU.h)))))) ?_
  refine KH (σ:=[some _,some _,none,none,none]) rfl ?_
  walk_at "st"
  refine UU (λh1=>?_) (λh1=>?_)
  ·have h2:=a3u h1
   walk_at "st"
   exact k _ _ _ _ (a3y _ ∅) (a3j _ m0) ⟨Int.ediv_nonneg ok.a0 ∅,ok.b0,ok.b1⟩
  ·walk_at "st"
   generalize hn:(1+if decide ((1000000:Int)<m)=true then (1:Int) else 0)=n
   have hn0:1<=n/\n<=2:=by subst hn;split<;>omega
   refine⟨by omega,by omega,LV (YF H p m a) ⟨b,c,0,none,rfl,(SE hp).symm,ok⟩ ?_ ?_⟩
   ·rintro i σ H1 hi ⟨b',c',made,tv,rfl,rfl,ok'⟩
    have h3:0<=(b'*48271+11*(c'+1)) % 2147483647:=a3y _ (by decide)
    have h4:(b'*48271+11*(c'+1)) % 2147483647<2147483647:=a3j _ (by decide)
    walk_at "st"
    exact⟨_,_,_,_,rfl,by rw[KP,KP],⟨ok'.a0,h3,h4⟩⟩
   ·rintro σ H1 ⟨b',c',made,tv,rfl,rfl,ok'⟩
    walk_at "st"
    exact k _ _ _ _ (a3y _ ∅) (a3j _ m0) ok'
abbrev nX:=jU 1 "_law_take" ["_law_state", "_law_many"] [.st,.bw] (.v .fl) cA
abbrev pP:Stmt:=top 56
abbrev G9:List Str:=["_law_told", "_law_word", "_law_steps", "_law_papers", "_law_some", "_law_odd", "_law_worth", "_law_choice"]
theorem IU:SN G9 ["_law_told"] pP:=bL
abbrev mV:=jU 1 "_law_things" ["_law_told"] [(.v .sh)] (.v .sh) lO
theorem EJ (D:Df K mg "_law_things" pP) (T:Txt K mg)  : mV P w K mg base:=
  have z:=IU
  a83 (mn:=[.no,.no,.no,.no,.no,.no,.no,.no]) (N8 xJ.2) D z λf cdv A outer s H E hr=>
  (aC (kW (vr (.v .sh) z) (cE (n:=3) rfl (aG (gn 1 z) (aG (gn 2 z) (aG (gn 3 z) bP)))))
 (aC (mC 4 z (aH .sh (a7 dJ (a7 aD (a7 e7 (a7 eN (a7 eN (a7 (dM (aM (aH .fl a9 rfl))) (a7 (aJ .fl a9 rfl) (a7 (dM (aM o9)) (a7 (vr (.v .sh) z) (a7 (vr (.v .sh) z) (a7 (uV (aM (tQ ML IG gD T.b_list qE (a7 (vp .sh z) a9) v9 v8))) (a7 (aJ .sh (a7 (vr (.v .sh) z) (a7 (vr (.v .sh) z) a9)) rfl) a9)))))))))))) rfl))
 (aC (mC 4 z (eM (vk .sh z) (HH (aH .sh (a7 (aJ .sh (a7 (vr (.v .sh) z) (a7 (vr (.v .sh) z) a9)) rfl) (a7 (aJ .sh (a7 (vr (.v .sh) z) (a7 (vr (.v .sh) z) (a7 (vr (.v .sh) z) a9))) rfl) (a7 (aJ .sh (a7 (vr (.v .sh) z) (a7 (vr (.v .sh) z) (a7 (vr (.v .sh) z) a9))) rfl) (a7 (XD (vp .sh z) (a3X (a08 (aJ .sn (a7 (dM (aM (aH .fl a9 rfl))) a9) rfl)))) a9)))) rfl))))
 (aC (f9 a1u rfl rfl (eO (aM (aH .sn (a7 eN (a7 aD (a7 dJ (a7 (dM (aM (aH .fl a9 rfl))) (a7 (dM (aM o9)) (a7 eN (a7 eN a9))))))) rfl))) (gn 5 z)
 (aC (fJ a1r a1p a1o cP bV (qn z) rfl (a7 (aJ .sh (a7 (vr (.v .sn) z) (a7 (vr (.v .sh) z) (a7 (vr (.v .sh) z) a9))) rfl) a9))
 (eP (m1:=[(.v .sh),(.v .sh),(.v .sh),(.v .sh),(.o .sh),.no,.no,.no]) rfl aQ)))
 (aC (mC 4 z (eM (vk .sh z) (HH (aH .sh (a7 (aJ .sh (a7 (vr (.v .sh) z) (a7 dJ (a7 (vr (.v .sh) z) a9))) rfl) (a7 (aJ .sh (a7 (vr (.v .sh) z) (a7 (vr (.v .sh) z) (a7 dJ a9))) rfl) (a7 (aJ .sh (a7 (vr (.v .sh) z) (a7 eN (a7 eN a9))) rfl) (a7 (aJ .sh (a7 (vr (.v .sh) z) (a7 (dM (aM (aH .fl a9 rfl))) (a7 (dM (aM (aH .fl a9 rfl))) a9))) rfl) a9)))) rfl))))
 (aC (mC 4 z (eM (vk .sh z) (HH (aH .sh (a7 (aJ .sh (a7 (vr (.v .sh) z) (a7 (dM (aM o9)) (a7 (dM (aM o9)) a9))) rfl) (a7 (aJ .sh (a7 (vr (.v .sh) z) (a7 aD (a7 aD a9))) rfl) (a7 (aJ .sh (a7 (vr (.v .sh) z) (a7 (vr (.v .sh) z) (a7 (uV (aM (eM (HH (kU (vp .sh z) iF (e8 (aP (gI (aP aD)))))) (a5Y (JP (aH .fl (a7 dJ a9) rfl)))))) a9))) rfl) a9))) rfl))))
 (aC (kW (aR (vp .sh z) (aP (gI (aP aD))) (λ_ _=>rfl)) (cE (n:=2) rfl (aG (gn 6 z) (aG (gn 7 z) bP))))
 (aC (mC 4 z (eM (vk .sh z) (HH (aH .sh (a7 (aJ .sh (a7 (vr (.v .sh) z) (a7 (vr (.v .sh) z) (a7 (tQ F9 AR gD T.b_tuple vS (a7 (vp .sh z) a9) vR vM) a9))) rfl) (a7 (aJ .sh (a7 (vr (.v .sh) z) (a7 (uV (aM (eM (HH (kU (vp .sh z) iF (e8 (aP (gI (aP aD)))))) (HH (aH .sh (a7 (aJ .sh (a7 (vr (.v .sh) z) (a7 (tQ F9 AR gD T.b_tuple vS (a7 (vp .sh z) a9) vR vM) a9)) rfl) a9) rfl))))) (a7 (vr (.v .sh) z) a9))) rfl) a9)) rfl))))
 (aC (f9 a1u rfl rfl (eO (aM (aH .sh (a7 (uV (aM (eM (a5Y (JP (aH .fl (a7 e7 a9) rfl))) (HH (kU (vp .sh z) (e8 (aP aD)) iF))))) (a7 (uV (aM (eM (a5Y (JP (aH .fl (a7 e7 a9) rfl))) (vp .sh z)))) (a7 (uV (aM (eM (vp .sh z) (a5Y (JP (aH .fl (a7 e7 a9) rfl)))))) a9))) rfl))) (gn 5 z)
 (aC (fJ a1r a1p a1o cP bV (qn z) rfl (a7 (aJ .sh (a7 (vr (.v .sh) z) (a7 (uV (aM (eM (HH (kU (vp .sh z) iF (e8 (aP (gI (aP aD)))))) (HH (aH .sh (a7 (aJ .sh (a7 (vr (.v .sh) z) (a7 (vr (.v .sh) z) a9)) rfl) a9) rfl))))) (a7 (vr (.v .sh) z) a9))) rfl) a9))
 (eP (m1:=[(.v .sh),(.v .sh),(.v .sh),(.v .sh),(.o .sh),.no,(.v .sh),(.v .sh)]) rfl aQ)))
 (aC (f9 a1u rfl rfl (eO (aM (aH .sn (a7 dJ (a7 aD (a7 eN (a7 (dM (aM (aH .fl a9 rfl))) (a7 (aJ .fl a9 rfl) (a7 (aJ .sn (a7 e7 (a7 (dM (aM (aH .fl a9 rfl))) a9)) rfl) (a7 (aJ .fl (a7 aD (a7 dJ a9)) rfl) (a7 (aJ .sn (a7 dJ (a7 (dM (aM (aH .fl a9 rfl))) a9)) rfl) (a7 (aJ .sn (a7 eN (a7 (dM (aM (aH .fl a9 rfl))) a9)) rfl) (a7 (aJ .sn (a7 aD (a7 (dM (aM (aH .fl (a7 e7 a9) rfl))) a9)) rfl) a9)))))))))) rfl))) (gn 5 z)
 (aC (fJ a1r a1p a1o cP bV (qn z) rfl (a7 (aJ .sh (a7 (vr (.v .sh) z) (a7 (uV (aM (eM (a3X (a5X (aH .sn (a7 (vr (.v .sn) z) a9) rfl))) (HH (kU (vp .sh z) (e8 (aP aD)) iF))))) (a7 (vr (.v .sh) z) a9))) rfl) a9))
 (eP (m1:=[(.v .sh),(.v .sh),(.v .sh),(.v .sh),(.o .sh),.no,(.v .sh),(.v .sh)]) rfl aQ)))
 (aC (f9 a1u rfl rfl (eO (aM (aH .sn (a7 (aJ .sn (a7 aD (a7 (dM (aM (aH .fl (a7 dJ a9) rfl))) a9)) rfl) (a7 (aJ .sn (a7 aD (a7 (dM (aM (aH .fl (a7 eN a9) rfl))) a9)) rfl) (a7 (aJ .fl (a7 aD (a7 (aJ .fl (a7 aD a9) rfl) a9)) rfl) (a7 (aJ .sn (a7 aD (a7 (dM (aM (aH .fl a9 rfl))) (a7 (dM (aM (aH .fl a9 rfl))) a9))) rfl) (a7 (UW (aM (aH .sn (a7 aD (a7 (dM (aM (aH .fl a9 rfl))) a9)) rfl))) (a7 (aJ .sn (a7 e7 (a7 (dM (aM (aH .fl a9 rfl))) a9)) rfl) (a7 (aJ .sn (a7 aD (a7 (dM (aM (aH .fl (a7 (gI (aP aD)) a9) rfl))) a9)) rfl) (a7 (aJ .fl (a7 aD (a7 (aJ .fl a9 rfl) a9)) rfl) (a7 (aJ .sn (a7 aD (a7 (dM (aM o9)) a9)) rfl) a9))))))))) rfl))) (gn 5 z)
 (aC (fJ a1r a1p a1o cP bV (qn z) rfl (a7 (aJ .sh (a7 (vr (.v .sh) z) (a7 (uV (aM (eM (a3X (a5X (aH .sn (a7 (vr (.v .sn) z) a9) rfl))) (HH (kU (vp .sh z) (e8 (aP aD)) iF))))) (a7 (vr (.v .sh) z) a9))) rfl) a9))
 (eP (m1:=[(.v .sh),(.v .sh),(.v .sh),(.v .sh),(.o .sh),.no,(.v .sh),(.v .sh)]) rfl aQ)))
 (aC (f9 a1u rfl rfl (eO (aM (aH .sn (a7 aD (a7 eN (a7 (aJ .fl a9 rfl) (a7 (dM (aM o9)) (a7 (dM (aM (aH .fl (a7 (aJ .fl a9 rfl) a9) rfl))) (a7 (dM (aM (aH .fl (a7 (aJ .fl (a7 aD (a7 aD a9)) rfl) a9) rfl))) (a7 (dM (aM (aH .fl (a7 (aJ .fl (a7 aD (a7 aD a9)) rfl) (a7 (aJ .fl (a7 aD (a7 aD a9)) rfl) a9)) rfl))) (a7 (dM (aM (aH .fl (a7 (aJ .fl (a7 aD (a7 e7 a9)) rfl) a9) rfl))) (a7 (UW (aM (aH .sn (a7 (dM (aM (aH .fl (a7 aD (a7 aD a9)) rfl))) a9) rfl))) a9))))))))) rfl))) (gn 5 z)
 (aC (fJ a1r a1p a1o cP bV (qn z) rfl (a7 (aJ .sh (a7 (vr (.v .sh) z) (a7 (vr (.v .sh) z) (a7 (uV (aM (eM (a3X (a5X (aH .sn (a7 (vr (.v .sn) z) a9) rfl))) (HH (kU (vp .sh z) (e8 (aP aD)) iF))))) a9))) rfl) a9))
 (eP (m1:=[(.v .sh),(.v .sh),(.v .sh),(.v .sh),(.o .sh),.no,(.v .sh),(.v .sh)]) rfl aQ)))
 (aC (f9 a1u rfl rfl (eO (aM (aH .sn (a7 (dM (aM (aH .fl (a7 (aJ .fl (a7 aD (a7 aD (a7 aD a9))) rfl) a9) rfl))) (a7 (dM (aM (aH .fl (a7 (aJ .fl (a7 aD (a7 (bN bE kO (aP (bN m4 RU (aP aD) (aP aD))) (aP aD)) a9)) rfl) a9) rfl))) (a7 (dM (aM (aH .fl (a7 dJ a9) rfl))) (a7 (dM (aM (aH .fl (a7 (aJ .fl (a7 eN (a7 aD a9)) rfl) a9) rfl))) a9)))) rfl))) (gn 5 z)
 (aC (fJ a1r a1p a1o cP bV (qn z) rfl (a7 (aJ .sh (a7 (vr (.v .sh) z) (a7 (vr (.v .sh) z) (a7 (uV (aM (eM (a3X (a5X (aH .sn (a7 (vr (.v .sn) z) a9) rfl))) (HH (kU (vp .sh z) (e8 (aP aD)) iF))))) a9))) rfl) a9))
 (eP (m1:=[(.v .sh),(.v .sh),(.v .sh),(.v .sh),(.o .sh),.no,(.v .sh),(.v .sh)]) rfl aQ)))
 (aI (pY 4 .sh rfl (aS (uV (vr (.z .sh) z)) rfl))))))))))))))))
abbrev iO:Stmt:=top 3
abbrev uN:List Str:=["thing", "word", "many"]
theorem uY:SN uN ["thing", "word", "many"] iO:=bL
abbrev gP:=jU 2 "is_word_tuple" ["thing", "word", "many"] [.bw,.bw,.bw] (.v .fl) cM
theorem sW(D:Df K mg "is_word_tuple" iO)(T:Txt K mg)(C_is_tuple_of:e9 P w K mg base):gP P w K mg base:=
 have z:=uY
 YB (mn:=[.no,.no,.no]) (SX Lib.mL.2) D z λf cdv A outer s H E hr=>
 (aI (aS (iQ (aP (eR hr C_is_tuple_of (a7 (vb z) (a7 (vb z) a9)) gD)) (iR (pX (WF hr.units) WQ (fZ (aR (vp .sh z) (aP aD) (λ_ _=>rfl))) (vb z) (c9 _)))) rfl))
abbrev gG:Stmt:=top 6
abbrev qA:List Str:=["thing", "least", "greatest"]
theorem sG:SN qA ["thing", "least", "greatest"] gG:=bL
abbrev dC:=jU 2 "is_whole_within" ["thing", "least", "greatest"] [.bw,.bw,.bw] (.v .fl) bK
theorem pD(D:Df K mg "is_whole_within" gG)(T:Txt K mg)(C_is_whole:jS P w K mg base):dC P w K mg base:=
 have z:=sG
 YB (mn:=[.no,.no,.no]) (SX Lib.k8.2) D z λf cdv A outer s H E hr=>
 (aI (aS (iQ (aP (eR hr C_is_whole (a7 (vb z) a9) gD)) (iR (FU CC CC a61 a61 (vb z) (vb z) (vb z)))) rfl))
abbrev tJ:Stmt:=top 12
abbrev L3:List Str:=["book", "some", "moment"]
theorem N3:SN L3 ["book", "some", "moment"] tJ:=bL
abbrev lJ:=jU 2 "load_at" ["book", "some", "moment"] [.bw,.bw,.bw] (.v .fl) gW
theorem HQ(D:Df K mg "load_at" tJ)(T:Txt K mg)(C_is_over:jF P w K mg base):lJ P w K mg base:=
 have z:=N3
 YB (mn:=[.no,.no,.no]) (SX Lib.AI.2) D z λf cdv A outer s H E hr=>
 (aI (aS (aU cR cZ gD T.b_len dR (a7 (a3W (XG ["number", "moment", "book"] 1 [2,0] [(.v .sh),(.v .sh),(.v .sh)] (fI (vr (.v .sh) z)) (λ_ _ _ _=>(gq 0)) (λ_ _ _ _=>(sF (fR (aP (eR hr C_is_over (a7 (fZ (aR (M7 (b7 (m:=(.v .sh)) (qk cD) rfl rfl)) bo (λ_ _=>rfl))) (a7 (bk cD) a9)) gL))))) (λ_ _ _ _=>(b7 (m:=(.v .sh)) qo rfl rfl)))) a9) eD eC) rfl))
abbrev nT:Stmt:=top 21
abbrev DF:List Str:=["book"]
theorem FZ:SN DF ["book"] nT:=bL
abbrev lK:=jU 2 "places_of" ["book"] [.bw] (.o .fl) fV
theorem C0(D:Df K mg "places_of" nT)(T:Txt K mg)(C_moments_of:i7 P w K mg base):lK P w K mg base:=
 have z:=FZ
 XB (mn:=[.no]) (N8 Lib.uG.2) D z λf cdv A outer s H E hr=>
 (aI (aS (a2R (eR hr C_moments_of (a7 (vb z) a9) gD) (iR (aH .fl (a7 aD a9) rfl))) rfl))
abbrev j4:Stmt:=top 36
abbrev AU:List Str:=["steps"]
theorem D0:SN AU ["steps"] j4:=bL
abbrev kC:=jU 2 "are_rising" ["steps"] [.bw] (.v .fl) eT
theorem yP(D:DfT K mg base "are_rising" j4)(T:Txt K mg): kC P w K mg base:=
 have z:=D0
 a7R (mn:=[.no]) (N8 Lib.rJ.2) D z λf cdv A outer s H E ht hr=>
 (aI (aS (tP (N':=["at", "steps"]) (n:=1) (k:=0) (cap:=[0]) (mb:=[(.v .fl),(.v .sh)]) (λ_=>rfl) rfl (hr.mono (by decide)) (show LcOk ["steps"] (aB j4) _ _ _ _ from i8 (by rfl) (by rfl) ⋯) ht ⋯ ⋯ rfl (i5 gD T.b_range (aP (bN iD CL (aP (aU cR cZ gD T.b_len dR (a7 (vb z) a9) eD eC)) (aP aD)))) (λ_ _ _ _ _ _=>(fD (qM (i:=0) ⋯ rfl ⋯) rfl (by decide))) (λ_ _ _ _ _ _ hr=>(pX CD a7N (fZ (aR (M7 (aR (M7 (b7 (m:=(.v .sh)) (p5 (i:=1) rfl ⋯ ⋯ ⋯) rfl rfl)) (aP (b7 (m:=(.v .fl)) (kI (i:=0) rfl ⋯ ⋯ ⋯) rfl rfl)) (λ_ _=>rfl))) (aP aD) (λ_ _=>rfl))) (fZ (aR (M7 (aR (M7 (b7 (m:=(.v .sh)) (p5 (i:=1) rfl ⋯ ⋯ ⋯) rfl rfl)) (aP (bN bE kO (aP (b7 (m:=(.v .fl)) (kI (i:=0) rfl ⋯ ⋯ ⋯) rfl rfl)) (aP aD))) (λ_ _=>rfl))) (aP aD) (λ_ _=>rfl))) (c9 _))) gD T.b_all sP sO sN) rfl))
abbrev tL:Stmt:=top 38
abbrev L5:List Str:=["stretch", "paper"]
theorem N5:SN L5 ["stretch", "paper"] tL:=bL
abbrev oX:=jU 2 "toll_of" ["stretch", "paper"] [.bw,.bw] (.v .fl) jA
theorem HU(D:Df K mg "toll_of" tL)(T:Txt K mg)(C_is_over:jF P w K mg base):oX P w K mg base:=
 have z:=N5
 DA (mn:=[.no,.no]) (D7 Lib.AK.2) D z λf cdv A outer s H E hr=>
 (aI (aS (aU (CA rfl) vG gD T.b_sum BB (a7 (a3W (XG ["moment", "price", "stretch"] 2 [0] [(.v .sh),(.v .sh),(.v .sh)] (fI (vr (.v .sh) z)) (λ_ _ _ _=>(cE (n:=2) rfl (aG (gq 0) (aG (gq 1) bP)))) (λ_ _ _ _=>(sF (fR (aP (eR hr C_is_over (a7 (bk cD) (a7 bo a9)) gL))))) (λ_ _ _ _=>(b7 (m:=(.v .sh)) qo rfl rfl)))) a9) BA B9) rfl))
abbrev xV:Stmt:=top 54
abbrev NH:List Str:=["_law_state", "_law_k", "_law_letters", "_law_spelt", "_law_j"]
theorem SU:SN NH ["_law_state", "_law_k"] xV:=bL
abbrev sI:=jU 2 "_law_name" ["_law_state", "_law_k"] [.st,.bw] (.v .fl) l4
theorem ME (D:Df K mg "_law_name" xV) (T:Txt K mg) (C_l_take:nX P w K mg base):sI P w K mg base:=
  have z:=SU
  DA (mn:=[.no,.no,.no,.no,.no]) (D7 Lib.F6.2) D z λf cdv A outer s H E hr=>
  (aC (mC 2 z eN)
 (aC (mC 3 z eN)
 (aC (f9 a1u rfl rfl (i5 gD T.b_range (aP (eR hr C_l_take (a7 (vr .st z) (a7 (aP aD) a9)) gD))) (gn 4 z)
 (aC (mC 3 z (bN FB FK (vb z) (aP (aR (vp .fl z) (aP (eR hr C_l_take (a7 (vr .st z) (a7 (aP aD) a9)) gD)) (λ_ _=>rfl)))))
 (eP (m1:=[.st,(.v .sh),(.v .fl),(.v .fl),.no]) rfl aQ)))
 (aI (aS (bN FB FK (vb z) (aP (aR (vp .fl z) (vb z) (λ_ _=>rfl)))) rfl)))))
abbrev pR:Stmt:=top 13
abbrev GB:List Str:=["book", "some", "steps", "before", "moment", "load"]
theorem IW:SN GB ["book", "some"] pR:=bL
abbrev mX:=jU 3 "loads_of" ["book", "some"] [.bw,.bw] (.o .fl) gX
theorem EL (D:Df K mg "loads_of" pR) (T:Txt K mg) (C_moments_of:i7 P w K mg base) (C_load_at:lJ P w K mg base):mX P w K mg base:=
  have z:=IW
  DA (mn:=[.no,.no,.no,.no,.no,.no]) (D7 Lib.xM.2) D z λf cdv A outer s H E hr=>
  (aC (mC 2 z (aH .fl a9 rfl))
 (aC (mC 3 z aD)
 (aC (f9 a1u rfl rfl (eO (aM (eR hr C_moments_of (a7 (a3W (XG ["number", "book"] 1 [0] [(.v .sh),(.v .sh)] (fI (vr (.v .sh) z)) (λ_ _ _ _=>(gq 0)) (λ_ _ _ _=>fK) (λ_ _ _ _=>(aR (M7 (b7 (m:=(.v .sh)) (qk cD) rfl rfl)) bo (λ_ _=>rfl))))) a9) gD))) (gn 4 z)
 (aC (mC 5 z (eR hr C_load_at (a7 (vb z) (a7 (vb z) (a7 (vb z) a9))) gD))
 (aC (iX (fQ a1U WS (vb z) (vb z) (c9 _))
 (aC (fJ a1r a1p a1o cP bV (qn z) rfl (a7 (aJ .fl (a7 (vr (.v .fl) z) (a7 (vr (.v .fl) z) a9)) rfl) a9))
 aQ)
 aQ)
 (aC (mC 3 z (vr (.v .fl) z))
 (eP (m1:=[(.v .sh),(.v .sh),(.o .fl),(.v .fl),.no,.no]) rfl aQ)))))
 (aI (sE (qn z) rfl rfl)))))
abbrev kP:Stmt:=top 16
abbrev yH:List Str:=["thing", "many", "least", "number"]
theorem zB:SN yH ["thing", "many"] kP:=bL
abbrev jD:=jU 3 "are_numbers" ["thing", "many"] [.bw,.bw] (.v .fl) dP
theorem wH (D:Df K mg "are_numbers" kP) (T:Txt K mg) (C_is_whole_within:dC P w K mg base):jD P w K mg base:=
  have z:=zB
  DA (mn:=[.no,.no,.no,.no]) (D7 Lib.oO.2) D z λf cdv A outer s H E hr=>
  (aC (iX (kX (fR (aP (aU pL mB gD T.b_isinstance cU (a7 (vb z) (a7 (aP (dI (lY (v:=.ty "list") gD T.b_list qE rfl v9 v8) (λ_=>.ty _))) a9)) cT cS))))
 (aI (aS e7 rfl))
 aQ)
 (aC (mC 2 z aD)
 (aC (f9 a1u rfl rfl (fI (vr (.v .sh) z)) (gn 3 z)
 (aC (iX (kX (fR (aP (eR hr C_is_whole_within (a7 (vb z) (a7 (vb z) (a7 (aP (bN iD CL (vb z) (aP aD))) a9))) gD))))
 (aI (aS e7 rfl))
 aQ)
 (aC (mC 2 z (bN bE kO (vb z) (aP aD)))
 (eP (m1:=[(.v .sh),(.v .sh),(.v .fl),.no]) rfl aQ))))
 (aI (aS e7 rfl)))))
abbrev pT:Stmt:=top 24
abbrev GD:List Str:=["book", "places", "limits", "chosen", "rooms"]
theorem J0:SN GD ["book", "places", "limits", "chosen"] pT:=bL
abbrev mZ:=jU 3 "roads_of" ["book", "places", "limits", "chosen"] [.bw,.bw,.bw,.bw] (.o .fl) gZ
theorem EN (D:Df K mg "roads_of" pT) (T:Txt K mg) (C_free_roads:kF P w K mg base) (C_stretch_roads:gR P w K mg base) (C_load_at:lJ P w K mg base):mZ P w K mg base:=
  have z:=J0
  a7Q (mn:=[.no,.no,.no,.no,.no]) (a7K Lib.xO.2) D z λf cdv A outer s H E hr=>
  (aC (a55 4 z ["limit", "place", "book", "chosen"] 2 [0,3] [(.v .sh),(.v .sh),(.v .sh),(.v .sh)] (SL gD T.b_zip (vr (.v .sh) z) (vr (.v .sh) z)) (λ_ _ _ _=>(cE (n:=2) rfl (aG (gq 0) (aG (gq 1) bP)))) (λ_ _ _ _=>fK) (λ_ _ _ _=>(bN iD CL bo (aP (eR hr C_load_at (a7 (bk cD) (a7 (bk cD) (a7 bo a9))) gL)))))
 (aI (aS (eM (JP (eR hr C_free_roads (a7 (vb z) a9) gD)) (JP (eR hr C_stretch_roads (a7 (vb z) (a7 (vb z) (a7 (vb z) a9))) gD))) rfl)))
abbrev pN:Stmt:=top 35
abbrev G7:List Str:=["thing", "moment", "price"]
theorem IS:SN G7 ["thing"] pN:=bL
abbrev mU:=jU 3 "is_price" ["thing"] [.bw] (.v .fl) gV
theorem EH (D:Df K mg "is_price" pN) (T:Txt K mg) (C_is_tuple_of:e9 P w K mg base) (C_is_whole_within:dC P w K mg base):mU P w K mg base:=
  have z:=IS
  XB (mn:=[.no,.no,.no]) (N8 Lib.xH.2) D z λf cdv A outer s H E hr=>
  (aC (iX (kX (fR (aP (eR hr C_is_tuple_of (a7 (vb z) (a7 (aP aD) a9)) gD))))
 (aI (aS e7 rfl))
 aQ)
 (aC (kW (vr (.v .sh) z) (cE (n:=2) rfl (aG (gn 1 z) (aG (gn 2 z) bP))))
 (aI (aS (iQ (aP (eR hr C_is_whole_within (a7 (vb z) (a7 (aP (gI (aP (dI (vE (v:=.int (1000000000000)) gD (T.c_FARTHEST).choose_spec ⟨_,rfl⟩ dB) (λ_=>.int _))))) (a7 (aP (bN iD CL (aP (dI (vE (v:=.int (1000000000000)) gD (T.c_FARTHEST).choose_spec ⟨_,rfl⟩ dB) (λ_=>.int _))) (aP aD))) a9))) gD)) (iR (eR hr C_is_whole_within (a7 (vb z) (a7 (aP aD) (a7 (aP (dI (vE (v:=.int (10000000000000)) gD (T.c_GREATEST_PRICE).choose_spec ⟨_,rfl⟩ dB) (λ_=>.int _))) a9))) gD))) rfl))))
abbrev tK:Stmt:=top 39
abbrev L4:List Str:=["stretch", "paper"]
theorem N4:SN L4 ["stretch", "paper"] tK:=bL
abbrev oW:=jU 3 "rest_of" ["stretch", "paper"] [.bw,.bw] (.v .fl) j9
theorem HR(D:Df K mg "rest_of" tK)(T:Txt K mg)(C_toll_of:oX P w K mg base):oW P w K mg base:=
 have z:=N4
 DA (mn:=[.no,.no]) (D7 Lib.AJ.2) D z λf cdv A outer s H E hr=>
 (aI (aS (aU (IA rfl) FL gD T.b_max GQ (a7 (aP aD) (a7 (aP (bN iD CL (fZ (aR (vp .sh z) (aP aD) (λ_ _=>rfl))) (aP (eR hr C_toll_of (a7 (vb z) (a7 (vb z) a9)) gD)))) a9)) GP GO) rfl))
abbrev xU:Stmt:=top 55
abbrev NG:List Str:=["_law_state", "_law_most", "_law_size", "_law_unit", "_law_low", "_law_book_here", "_law_k", "_law_begin", "_law_end", "_law_worth", "_law_span"]
theorem SS:SN NG ["_law_state", "_law_most"] xU:=bL
abbrev sH:=jU 3 "_law_book" ["_law_state", "_law_most"] [.st,.bw] (.o .fl) l3
theorem MD (D:Df K mg "_law_book" xU) (T:Txt K mg) (C_l_take:nX P w K mg base) (C_l_name:sI P w K mg base):sH P w K mg base:=
  have z:=SS
  DA (mn:=[.no,.no,.no,.no,.no,.no,.no,.no,.no,.no,.no]) (D7 Lib.F5.2) D z λf cdv A outer s H E hr=>
  (aC (mC 2 z (aR (JP (aH .fl (a7 aD (a7 aD (a7 aD (a7 aD a9)))) rfl)) (aP (eR hr C_l_take (a7 (vr .st z) (a7 (aP aD) a9)) gD)) (λ_ _=>rfl)))
 (aC (mC 3 z (bN bE kO (aP aD) (aP (eR hr C_l_take (a7 (vr .st z) (a7 (aP (aR (JP (aH .fl (a7 aD (a7 aD (a7 aD (a7 (bN m4 RU (aP aD) (aP aD)) a9)))) rfl)) (aP (eR hr C_l_take (a7 (vr .st z) (a7 (aP aD) a9)) gD)) (λ_ _=>rfl))) a9)) gD))))
 (aC (mC 4 z (aR (JP (aH .fl (a7 aD (a7 (gI (aP aD)) (a7 (gI (aP (bN m4 RU (aP aD) (aP aD)))) (a7 (bN iD CL (aP (bN m4 RU (aP aD) (aP aD))) (aP (bN iC WO (aP aD) (vb z)))) a9)))) rfl)) (aP (eR hr C_l_take (a7 (vr .st z) (a7 (aP aD) a9)) gD)) (λ_ _=>rfl)))
 (aC (mC 5 z (aH .fl a9 rfl))
 (aC (f9 a1u rfl rfl (i5 gD T.b_range (aP (eR hr C_l_take (a7 (vr .st z) (a7 (aP (bN bE kO (vb z) (aP aD))) a9)) gD))) (gn 6 z)
 (aC (mC 7 z (eR hr C_l_take (a7 (vr .st z) (a7 (vb z) a9)) gD))
 (aC (mC 8 z (bN bE kO (aP (bN bE kO (vb z) (aP aD))) (aP (eR hr C_l_take (a7 (vr .st z) (a7 (vb z) a9)) gD))))
 (aC (mC 9 z (eR hr C_l_take (a7 (vr .st z) (a7 (aP (aR (JP (aH .fl (a7 aD (a7 aD (a7 aD (a7 (bN bE kO (aP (bN m4 RU (aP aD) (aP aD))) (aP aD)) a9)))) rfl)) (aP (eR hr C_l_take (a7 (vr .st z) (a7 (aP aD) a9)) gD)) (λ_ _=>rfl))) a9)) gD))
 (aC (mC 10 z (aJ .fl (a7 (bN bE kO (vb z) (aP (bN iC WO (vb z) (vb z)))) (a7 (bN bE kO (vb z) (aP (bN iC WO (vb z) (vb z)))) a9)) rfl))
 (aC (iX (AT (SQ (fQ nM a31 (vb z) (aP aD) (c9 _)) (KR (fQ xR rX (aP (eR hr C_l_take (a7 (vr .st z) (a7 (aP aD) a9)) gD)) (aP aD) (c9 _)))))
 (aC (mC 10 z (SJ (a7W (aR (vk .fl z) (aP (gI (aP aD))) (λ_ _=>rfl))) (e8 (aP aD)) (e8 (aP aD))))
 aQ)
 aQ)
 (aC (fJ a1r a1p a1o cP bV (qn z) rfl (a7 (aJ .fl (a7 (eR hr C_l_name (a7 (vr .st z) (a7 (vb z) a9)) gD) (a7 (aR (vp .fl z) (aP aD) (λ_ _=>rfl)) (a7 (aR (vp .fl z) (aP aD) (λ_ _=>rfl)) (a7 (vr (.v .fl) z) a9)))) rfl) a9))
 (eP (m1:=[.st,(.v .sh),(.v .fl),(.v .fl),(.v .fl),(.o .fl),.no,.no,.no,.no,.no]) rfl aQ))))))))
 (aI (sE (qn z) rfl rfl)))))))
abbrev pM:Stmt:=top 14
abbrev G5:List Str:=["book", "some", "greatest", "first", "moment", "load"]
theorem IQ:SN G5 ["book", "some"] pM:=bL
abbrev jR:=jU 4 "crowd_of" ["book", "some"] [.bw,.bw] (.v .sn) fL
theorem EF (D:Df K mg "crowd_of" pM) (T:Txt K mg) (C_loads_of:mX P w K mg base) (C_is_over:jF P w K mg base):jR P w K mg base:=
  have z:=IQ
  DA (mn:=[.no,.no,.no,.no,.no,.no]) (D7 Lib.xF.2) D z λf cdv A outer s H E hr=>
  (aC (kW (aJ .fl (a7 aD (a7 dJ a9)) rfl) (cE (n:=2) rfl (aG (gn 2 z) (aG (gn 3 z) bP))))
 (aC (f9 a1u rfl rfl (eO (aM (eR hr C_loads_of (a7 (vb z) (a7 (vb z) a9)) gD))) (cE (n:=2) rfl (aG (gn 4 z) (aG (gn 5 z) bP)))
 (aC (iX (fQ nM a31 (vb z) (vb z) (c9 _))
 (aC (kW (aJ .fl (a7 (vr (.v .fl) z) (a7 (vr (.v .fl) z) a9)) rfl) (cE (n:=2) rfl (aG (gn 2 z) (aG (gn 3 z) bP))))
 aQ)
 aQ)
 (eP (m1:=[(.v .sh),(.v .sh),(.v .fl),(.v .fl),.no,.no]) rfl aQ)))
 (aI (aS (aJ .sn (a7 (vr (.v .fl) z) (a7 (vr (.v .fl) z) (a7 (dM (aM (yC (XG ["number", "first", "book"] 1 [3,0] [(.v .sh),(.v .fl),(.v .sh)] (fI (vr (.v .sh) z)) (λ_ _ _ _=>(gq 0)) (λ_ _ _ _=>(sF (fR (aP (eR hr C_is_over (a7 (fZ (aR (M7 (b7 (m:=(.v .sh)) (qk cD) rfl rfl)) bo (λ_ _=>rfl))) (a7 (bk cD) a9)) gL))))) (λ_ _ _ _=>(b7 (m:=(.v .sh)) qo rfl rfl)))))) a9))) rfl) rfl))))
abbrev tH:Stmt:=top 17
abbrev L0:List Str:=["book", "thing"]
theorem N0:SN L0 ["book", "thing"] tH:=bL
abbrev oU:=jU 4 "is_some" ["book", "thing"] [.bw,.bw] (.v .fl) j7
theorem HM(D:Df K mg "is_some" tH)(T:Txt K mg)(C_are_numbers:jD P w K mg base):oU P w K mg base:=
 have z:=N0
 DA (mn:=[.no,.no]) (D7 Lib.AG.2) D z λf cdv A outer s H E hr=>
 (aI (aS (eR hr C_are_numbers (a7 (vb z) (a7 (aP (aU cR cZ gD T.b_len dR (a7 (vb z) a9) eD eC)) a9)) gD) rfl))
abbrev gF:Stmt:=top 30
abbrev AV:List Str:=["book", "benches", "places", "chosen", "told", "many", "roads", "gains", "last_roads"]
theorem D1:SN AV ["book", "benches"] gF:=bL
abbrev kD:=jU 4 "best_up_to" ["book", "benches"] [.bw,.bw] (.o .sn) eU
theorem yQ (D:Df K mg "best_up_to" gF) (T:Txt K mg) (C_places_of:lK P w K mg base) (C_roads_of:mZ P w K mg base) (C_greatest_gains:gA P w K mg base) (C_changed_by:kE P w K mg base) (C_numbers_along:gQ P w K mg base) (C_prices_by:lL P w K mg base):kD P w K mg base:=
  have z:=D1
  DA (mn:=[.no,.no,.no,.no,.no,.no,.no,.no,.no]) (D7 Lib.rK.2) D z λf cdv A outer s H E hr=>
  (aC (mC 2 z (eR hr C_places_of (a7 (vb z) a9) gD))
 (aC (KQ (i:=3) (j:=4) (m1:=(.o .fl)) (m2:=(.o .fl)) rfl z.s.nd rfl rfl (by decide) (show (aB gF).names.lookup (Str.ofString "chosen")=some NameKind.local by decide+kernel) (show (aB gF).names.lookup (Str.ofString "told")=some NameKind.local by decide+kernel) (aH .fl a9 rfl) (aH .fl a9 rfl) rfl rfl rfl (by decide) rfl (by decide))
 (aC (a5P (m1:=[(.v .sh),(.v .sh),(.o .fl),(.o .fl),(.o .sn),.no,.no,.no,.no]) rfl (f9 a1u rfl rfl (i5 gD T.b_range (aP (bN bE kO (vb z) (aP aD)))) (gn 5 z)
 (aC (mC 6 z (eR hr C_roads_of (a7 (vb z) (a7 (vb z) (a7 (a2Z (IM (JP (aH .fl (a7 (vr (.v .fl) z) a9) rfl)) (aP (bN iD CL (aP (aU cR cZ gD T.b_len dR (a7 (vb z) a9) eD eC)) (aP aD))))) (a7 (vb z) a9)))) gD))
 (aC (kW (eR hr C_greatest_gains (a7 (vb z) (a7 (aP (aU cR cZ gD T.b_len dR (a7 (vb z) a9) eD eC)) (a7 (aP aD) a9))) gD) (cE (n:=2) rfl (aG (gn 7 z) (aG (gn 8 z) bP))))
 (aC (pY 3 .fl rfl (fJ a1r a1p a1o cP bV (qn z) rfl (a7 (aJ .sn (a7 (dM (vr (.z .fl) z)) (a7 (dM (aM (eR hr C_prices_by (a7 (vb z) (a7 (a2Z (kU (vk .fl z) iF (e8 (aP (gI (aP aD)))))) a9)) gD))) a9)) rfl) a9)))
 (aC (mC 3 z (eR hr C_changed_by (a7 (vb z) (a7 (a2Z (eR hr C_numbers_along (a7 (vb z) (a7 (aP (bN iD CL (aP (aU cR cZ gD T.b_len dR (a7 (vb z) a9) eD eC)) (aP aD))) a9)) gD)) a9)) gD))
 (eP (m1:=[(.v .sh),(.v .sh),(.o .fl),(.o .fl),(.o .sn),.no,.no,.no,.no]) rfl aQ)))))))
 (aI (sE (qn z) rfl rfl)))))
abbrev pS:Stmt:=top 40
abbrev GC:List Str:=["book", "paper"]
theorem IZ:SN GC ["book", "paper"] pS:=bL
abbrev mY:=jU 4 "rests_of" ["book", "paper"] [.bw,.bw] (.v .fl) gY
theorem EM(D:Df K mg "rests_of" pS)(T:Txt K mg)(C_rest_of:oW P w K mg base):mY P w K mg base:=
 have z:=IZ
 DA (mn:=[.no,.no]) (D7 Lib.xN.2) D z λf cdv A outer s H E hr=>
 (aI (aS (aU (CA rfl) vG gD T.b_sum BB (a7 (a2Z (XG ["stretch", "paper"] 1 [1] [(.v .sh),(.v .sh)] (fI (vr (.v .sh) z)) (λ_ _ _ _=>(gq 0)) (λ_ _ _ _=>fK) (λ_ _ _ _=>(eR hr C_rest_of (a7 bo (a7 (bk cD) a9)) gL)))) a9) BA B9) rfl))
abbrev nR:Stmt:=top 18
abbrev DE:List Str:=["book", "benches", "thing"]
theorem FY:SN DE ["book", "benches", "thing"] nR:=bL
abbrev lI:=jU 5 "is_choice" ["book", "benches", "thing"] [.bw,.bw,.bw] (.v .fl) fT
theorem BZ(D:Df K mg "is_choice" nR)(T:Txt K mg)(C_is_some:oU P w K mg base)(C_crowd_of:jR P w K mg base):lI P w K mg base:=
 have z:=FY
 YB (mn:=[.no,.no,.no]) (SX Lib.uF.2) D z λf cdv A outer s H E hr=>
 (aI (aS (iQ (aP (eR hr C_is_some (a7 (vb z) (a7 (vb z) a9)) gD)) (iR (pX CC a61 (a09 (aR (a08 (eR hr C_crowd_of (a7 (vb z) (a7 (vb z) a9)) gD)) (aP aD) (λ_ _=>rfl))) (vb z) (c9 _)))) rfl))
abbrev iN:Stmt:=top 31
abbrev uM:List Str:=["book"]
theorem uX:SN uM ["book"] iN:=bL
abbrev eS:=jU 5 "greatest_load" ["book"] [.bw] (.v .sn) c7
theorem sV(D:Df K mg "greatest_load" iN)(T:Txt K mg)(C_crowd_of:jR P w K mg base):eS P w K mg base:=
 have z:=uX
 XB (mn:=[.no]) (N8 Lib.mK.2) D z λf cdv A outer s H E hr=>
 (aI (aS (aR (a08 (eR hr C_crowd_of (a7 (vb z) (a7 (a2Z (SI rfl gD T.b_list gD T.b_range (aP (aU cR cZ gD T.b_len dR (a7 (vb z) a9) eD eC)))) a9)) gD)) (aP aD) (λ_ _=>rfl)) rfl))
abbrev m9:Stmt:=top 37
abbrev G6:List Str:=["thing"]
theorem IR:SN G6 ["thing"] m9:=bL
abbrev mT:=jU 5 "is_paper" ["thing"] [.bw] (.v .fl) gU
theorem EG (D:DfT K mg base "is_paper" m9) (T:Txt K mg) (C_are_rising:kC P w K mg base) (C_is_price:mU P w K mg base):mT P w K mg base:=
  have z:=IR
  a7R (mn:=[.no]) (N8 Lib.xG.2) D z λf cdv A outer s H E ht hr=>
  (aC (iX (AT (FW (kX (fR (aP (aU pL mB gD T.b_isinstance cU (a7 (vb z) (a7 (aP (dI (lY (v:=.ty "list") gD T.b_list qE rfl v9 v8) (λ_=>.ty _))) a9)) cT cS)))) (CY (fQ nM a31 (aP (aU cR cZ gD T.b_len dR (a7 (vb z) a9) eD eC)) (aP (dI (vE (v:=.int (48)) gD (T.c_MOST_PRICES).choose_spec ⟨_,rfl⟩ dB) (λ_=>.int _))) (c9 _)))))
 (aI (aS e7 rfl))
 aQ)
 (aI (aS (iQ (aP (tP (N':=["part"]) (n:=1) (k:=3) (cap:=[]) (mb:=[(.v .sh)]) (λ_=>rfl) rfl (hr.mono (by decide)) (show LcOk ["thing"] (aB m9) _ _ _ _ from i8 (by rfl) (by rfl) ⋯) ht ⋯ ⋯ rfl (fI (vr (.v .sh) z)) (λ_ _ _ _ _ _=>(fD (qM (i:=0) ⋯ rfl ⋯) rfl (by decide))) (λ_ _ _ _ _ _ hr=>(eR hr C_is_price (a7 (fZ (b7 (m:=(.v .sh)) (kI (i:=0) rfl ⋯ ⋯ ⋯) rfl rfl)) a9) (E6 ⋯))) gD T.b_all sP sO sN)) (iR (eR hr C_are_rising (a7 (vb z) a9) gD))) rfl)))
abbrev CM:Stmt:=top 42
abbrev T2:List Str:=["book", "benches", "paper"]
theorem XI:SN T2 ["book", "benches", "paper"] CM:=bL
abbrev vI:=jU 5 "claim" ["book", "benches", "paper"] [.bw,.bw,.bw] (.v .fl) o3
theorem Q8(D:Df K mg "claim" CM)(T:Txt K mg)(C_rests_of:mY P w K mg base)(C_prices_of:lM P w K mg base):vI P w K mg base:=
 have z:=XI
 YB (mn:=[.no,.no,.no]) (SX Lib.K9.2) D z λf cdv A outer s H E hr=>
 (aI (aS (bN bE kO (aP (bN iC WO (aP (eR hr C_prices_of (a7 (vb z) a9) gD)) (vb z))) (aP (eR hr C_rests_of (a7 (vb z) (a7 (vb z) a9)) gD))) rfl))
abbrev tI:Stmt:=top 44
abbrev L1:List Str:=["book", "benches", "thing", "worth", "choice"]
theorem N1:SN L1 ["book", "benches", "thing"] tI:=bL
abbrev oV:=jU 6 "is_step" ["book", "benches", "thing"] [.bw,.bw,.bw] (.v .fl) j8
theorem HN (D:Df K mg "is_step" tI) (T:Txt K mg) (C_is_tuple_of:e9 P w K mg base) (C_is_whole:jS P w K mg base) (C_is_choice:lI P w K mg base) (C_worth_of:jT P w K mg base):oV P w K mg base:=
  have z:=N1
  YB (mn:=[.no,.no,.no,.no,.no]) (SX Lib.AH.2) D z λf cdv A outer s H E hr=>
  (aC (iX (kX (fR (aP (eR hr C_is_tuple_of (a7 (vb z) (a7 (aP aD) a9)) gD))))
 (aI (aS e7 rfl))
 aQ)
 (aC (kW (vr (.v .sh) z) (cE (n:=2) rfl (aG (gn 3 z) (aG (gn 4 z) bP))))
 (aI (aS (iQ (aP (eR hr C_is_whole (a7 (vb z) a9) gD)) (iQ (aP (eR hr C_is_choice (a7 (vb z) (a7 (vb z) (a7 (vb z) a9))) gD)) (iR (pX xR rX (aP (eR hr C_worth_of (a7 (vb z) (a7 (vb z) a9)) gD)) (vb z) (c9 _))))) rfl))))
abbrev kQ:Stmt:=top 46
abbrev yI:List Str:=["book", "steps", "benches", "paper"]
theorem zC:SN yI ["book", "steps", "benches", "paper"] kQ:=bL
abbrev jE:=jU 6 "claims_step" ["book", "steps", "benches", "paper"] [.bw,.bw,.bw,.bw] (.v .fl) cV
theorem wI(D:Df K mg "claims_step" kQ)(T:Txt K mg)(C_claim:vI P w K mg base):jE P w K mg base:=
 have z:=zC
 a7Q (mn:=[.no,.no,.no,.no]) (a7K Lib.oQ.2) D z λf cdv A outer s H E hr=>
 (aI (aS (pX xR rX (aP (eR hr C_claim (a7 (vb z) (a7 (vb z) (a7 (vb z) a9))) gD)) (fZ (aR (M7 (aR (vp .sh z) (vb z) (λ_ _=>rfl))) (aP aD) (λ_ _=>rfl))) (c9 _)) rfl))
abbrev xW:Stmt:=top 50
abbrev NI:List Str:=["book", "told", "steps"]
theorem SV:SN NI ["book"] xW:=bL
abbrev sJ:=jU 6 "row_of" ["book"] [.bw] (.v .sn) l5
theorem MG (D:Df K mg "row_of" xW) (T:Txt K mg) (C_best_up_to:kD P w K mg base) (C_greatest_load:eS P w K mg base) (C_worth_of:jT P w K mg base):sJ P w K mg base:=
  have z:=SV
  XB (mn:=[.no,.no,.no]) (N8 Lib.F7.2) D z λf cdv A outer s H E hr=>
  (aC (mC 1 z (eR hr C_best_up_to (a7 (vb z) (a7 (a09 (eR hr C_greatest_load (a7 (vb z) a9) gD)) a9)) gD))
 (aC (pY 1 .sn rfl (a55 2 z ["choice", "paper", "book"] 2 [0] [(.v .sn),(.v .sn),(.v .sh)] (eO (vr (.z .sn) z)) (λ_ _ _ _=>(cE (n:=2) rfl (aG (gq 0) (aG (gq 1) bP)))) (λ_ _ _ _=>fK) (λ_ _ _ _=>(aJ .sn (a7 (eR hr C_worth_of (a7 (bk cD) (a7 bo a9)) gL) (a7 (b7 (m:=(.v .sn)) qo rfl rfl) a9)) rfl))))
 (aI (pY 2 .sn rfl (aS (aJ .sn (a7 eN (a7 (UW (vr (.z .sn) z)) (a7 (UW (aM (XG ["choice", "paper"] 2 [] [(.v .sn),(.v .sn)] (eO (vr (.z .sn) z)) (λ_ _ _ _=>(cE (n:=2) rfl (aG (gq 0) (aG (gq 1) bP)))) (λ_ _ _ _=>fK) (λ_ _ _ _=>(b7 (m:=(.v .sn)) qo rfl rfl))))) a9))) rfl) rfl)))))
abbrev kA:Stmt:=top 45
abbrev DC:List Str:=["book", "thing", "many"]
theorem FX:SN DC ["book", "thing", "many"] kA:=bL
abbrev lH:=jU 8 "are_steps" ["book", "thing", "many"] [.bw,.bw,.bw] (.v .fl) fS
theorem BY(D:DfT K mg base "are_steps" kA)(T:Txt K mg)(C_is_list_of:i6 P w K mg base)(C_is_step:oV P w K mg base):lH P w K mg base:=
 have z:=FX
 a7S (mn:=[.no,.no,.no]) (SX Lib.uE.2) D z λf cdv A outer s H E ht hr=>
 (aI (aS (iQ (aP (eR hr C_is_list_of (a7 (vb z) (a7 (vb z) a9)) gD)) (iR (tP (N':=["benches", "step", "book"]) (n:=2) (k:=6) (cap:=[0]) (mb:=[(.v .sh),(.v .sh),(.v .sh)]) (λ_=>rfl) rfl (hr.mono (by decide)) (show LcOk ["book", "thing", "many"] (aB kA) _ _ _ _ from i8 (by rfl) (by rfl) ⋯) ht ⋯ ⋯ rfl (sD gD T.b_enumerate (vr (.v .sh) z)) (λ_ _ _ _ _ _=>(cE (n:=2) rfl (aG (fD (qM (i:=0) ⋯ rfl ⋯) rfl (by decide)) (aG (fD (qM (i:=1) ⋯ rfl ⋯) rfl (by decide)) bP)))) (λ_ _ _ _ _ _ hr=>(eR hr C_is_step (a7 (fZ (b7 (m:=(.v .sh)) (p5 (i:=2) rfl ⋯ ⋯ ⋯) rfl rfl)) (a7 (fZ (b7 (m:=(.v .sh)) (kI (i:=0) rfl ⋯ ⋯ ⋯) rfl rfl)) (a7 (fZ (b7 (m:=(.v .sh)) (kI (i:=1) rfl ⋯ ⋯ ⋯) rfl rfl)) a9))) (E6 ⋯))) gD T.b_all sP sO sN))) rfl))
abbrev cH:Stmt:=top 47
abbrev sL:List Str:=["book", "steps", "thing"]
theorem tR:SN sL ["book", "steps", "thing"] cH:=bL
abbrev g9:=jU 8 "are_papers_for" ["book", "steps", "thing"] [.bw,.bw,.bw] (.v .fl) bO
theorem qQ (D:DfT K mg base "are_papers_for" cH) (T:Txt K mg) (C_is_list_of:i6 P w K mg base) (C_claims_step:jE P w K mg base) (C_is_paper:mT P w K mg base):g9 P w K mg base:=
  have z:=tR
  a7S (mn:=[.no,.no,.no]) (SX Lib.lB.2) D z λf cdv A outer s H E ht hr=>
  (aC (iX (AT (FW (kX (fR (aP (eR hr C_is_list_of (a7 (vb z) (a7 (aP (aU cR cZ gD T.b_len dR (a7 (vb z) a9) eD eC)) a9)) gD)))) (FW (kX (fR (aP (tP (N':=["paper"]) (n:=1) (k:=6) (cap:=[]) (mb:=[(.v .sh)]) (λ_=>rfl) rfl (hr.mono (by decide)) (show LcOk ["book", "steps", "thing"] (aB cH) _ _ _ _ from i8 (by rfl) (by rfl) ⋯) ht ⋯ ⋯ rfl (fI (vr (.v .sh) z)) (λ_ _ _ _ _ _=>(fD (qM (i:=0) ⋯ rfl ⋯) rfl (by decide))) (λ_ _ _ _ _ _ hr=>(eR hr C_is_paper (a7 (fZ (b7 (m:=(.v .sh)) (kI (i:=0) rfl ⋯ ⋯ ⋯) rfl rfl)) a9) (E6 ⋯))) gD T.b_all sP sO sN)))) (CY (fQ (WI hr.units) a29 (fZ (aR (vp .sh z) (aP (gI (aP aD))) (λ_ _=>rfl))) (a2Z (aH .fl a9 rfl)) (c9 _))))))
 (aI (aS e7 rfl))
 aQ)
 (aC (iX (kX (fR (aP (tP (N':=["benches", "paper", "book", "steps"]) (n:=2) (k:=6) (cap:=[0,1]) (mb:=[(.v .sh),(.v .sh),(.v .sh),(.v .sh)]) (λ_=>rfl) rfl (hr.mono (by decide)) (show LcOk ["book", "steps", "thing"] (aB cH) _ _ _ _ from i8 (by rfl) (by rfl) ⋯) ht ⋯ ⋯ rfl (sD gD T.b_enumerate (vr (.v .sh) z)) (λ_ _ _ _ _ _=>(cE (n:=2) rfl (aG (fD (qM (i:=0) ⋯ rfl ⋯) rfl (by decide)) (aG (fD (qM (i:=1) ⋯ rfl ⋯) rfl (by decide)) bP)))) (λ_ _ _ _ _ _ hr=>(eR hr C_claims_step (a7 (fZ (b7 (m:=(.v .sh)) (p5 (i:=2) rfl ⋯ ⋯ ⋯) rfl rfl)) (a7 (fZ (b7 (m:=(.v .sh)) (p5 (i:=3) rfl ⋯ ⋯ ⋯) rfl rfl)) (a7 (fZ (b7 (m:=(.v .sh)) (kI (i:=0) rfl ⋯ ⋯ ⋯) rfl rfl)) (a7 (fZ (b7 (m:=(.v .sh)) (kI (i:=1) rfl ⋯ ⋯ ⋯) rfl rfl)) a9)))) (E6 ⋯))) gD T.b_all sP sO sN))))
 (aI (aS e7 rfl))
 aQ)
 (aI (aS (tP (N':=["benches", "paper", "book", "steps"]) (n:=2) (k:=6) (cap:=[0,1]) (mb:=[(.v .sh),(.v .sh),(.v .sh),(.v .sh)]) (λ_=>rfl) rfl (hr.mono (by decide)) (show LcOk ["book", "steps", "thing"] (aB cH) _ _ _ _ from i8 (by rfl) (by rfl) ⋯) ht ⋯ ⋯ rfl (SK gD T.b_enumerate (aM (kU (vp .sh z) iF (e8 (aP (gI (aP aD))))))) (λ_ _ _ _ _ _=>(cE (n:=2) rfl (aG (fD (qM (i:=0) ⋯ rfl ⋯) rfl (by decide)) (aG (fD (qM (i:=1) ⋯ rfl ⋯) rfl (by decide)) bP)))) (λ_ _ _ _ _ _ hr=>(eR hr C_claims_step (a7 (fZ (b7 (m:=(.v .sh)) (p5 (i:=2) rfl ⋯ ⋯ ⋯) rfl rfl)) (a7 (fZ (b7 (m:=(.v .sh)) (p5 (i:=3) rfl ⋯ ⋯ ⋯) rfl rfl)) (a7 (aP (bN bE kO (fZ (b7 (m:=(.v .sh)) (kI (i:=0) rfl ⋯ ⋯ ⋯) rfl rfl)) (aP aD))) (a7 (fZ (b7 (m:=(.v .sh)) (kI (i:=1) rfl ⋯ ⋯ ⋯) rfl rfl)) a9)))) (E6 ⋯))) gD T.b_all sP sO sN) rfl))))
abbrev pQ:Stmt:=top 48
abbrev GA:List Str:=["book", "thing", "word", "steps", "papers"]
theorem IV:SN GA ["book", "thing"] pQ:=bL
abbrev mW:=jU 9 "lets_row" ["book", "thing"] [.bw,.bw] (.v .fl) dE
theorem EK (D:Df K mg "lets_row" pQ) (T:Txt K mg) (C_is_word_tuple:gP P w K mg base) (C_are_steps:lH P w K mg base) (C_are_papers_for:g9 P w K mg base) (C_greatest_load:eS P w K mg base):mW P w K mg base:=
  have z:=IV
  DA (mn:=[.no,.no,.no,.no,.no]) (D7 Lib.xK.2) D z λf cdv A outer s H E hr=>
  (aC (iX (kX (fR (aP (eR hr C_is_word_tuple (a7 (vb z) (a7 (aP eN) (a7 (aP aD) a9))) gD))))
 (aI (aS e7 rfl))
 aQ)
 (aC (kW (vr (.v .sh) z) (cE (n:=3) rfl (aG (gn 2 z) (aG (gn 3 z) (aG (gn 4 z) bP)))))
 (aI (aS (iQ (aP (eR hr C_are_steps (a7 (vb z) (a7 (vb z) (a7 (aP (bN bE kO (a09 (eR hr C_greatest_load (a7 (vb z) a9) gD)) (aP aD))) a9))) gD)) (iR (eR hr C_are_papers_for (a7 (vb z) (a7 (vb z) (a7 (vb z) a9))) gD))) rfl))))
abbrev AO:Stmt:=top 57
abbrev a36:List Str:=["_law_script", "_law_k", "_law_state", "_law_book_here", "_law_told", "_law_things_here", "_law_first", "_law_at", "_law_found"]
theorem a5T:SN a36 ["_law_script"] AO:=bL
abbrev ND:=jU 10 "law" ["_law_script"] [.scr] (.v .fl) O7
theorem a0N (D:Df K mg "law" AO) (T:Txt K mg) (C_l_begun:vJ P w K mg base) (C_l_book:sH P w K mg base) (C_row_of:sJ P w K mg base) (C_l_things:mV P w K mg base) (C_l_take:nX P w K mg base) (C_lets_row:mW P w K mg base):ND P w K mg base:=
  have z:=a5T
  XB (mn:=[.no,.no,.no,.no,.no,.no,.no,.no,.no]) (N8 Y6.2) D z λf cdv A outer s H E hr=>
  (aC (f9 a1u rfl rfl (i5 gD T.b_range (aP (aU (IA rfl) FL gD T.b_max GQ (a7 (aP aD) (a7 (aP (aU (a1P rfl) RY gD T.b_min YM (a7 (aP (MW gD T.b_len dR (a7 (vr .scr z) a9))) (a7 (aP aD) a9)) YL YH)) a9)) GP GO))) (gn 1 z)
 (aC (mC 2 z (eR hr C_l_begun (a7 (vr .scr z) (a7 (vb z) a9)) gD))
 (aC (mC 3 z (eR hr C_l_book (a7 (vr .st z) (a7 (aP aD) a9)) gD))
 (aC (mC 3 z (eM (vk .fl z) (JP (aH .fl (a7 (aJ .fl (a7 eN (a7 aD (a7 aD (a7 (eR hr C_l_take (a7 (vr .st z) (a7 (aP aD) a9)) gD) a9)))) rfl) a9) rfl))))
 (aC (mC 4 z (eR hr C_row_of (a7 (vb z) a9) gD))
 (aC (mC 5 z (a7F hr C_l_things (a7 (a3V (vr (.v .sn) z)) a9) gD))
 (aC (mC 6 z (eR hr C_l_take (a7 (vr .st z) (a7 (aP (aU cR cZ gD T.b_len dR (a7 (vb z) a9) eD eC)) a9)) gD))
 (aC (f9 a1u rfl rfl (eO (aM (aH .fl (a7 (vr (.v .fl) z) (a7 (bN m3 a53 (aP (bN bE kO (vb z) (aP aD))) (aP (aU cR cZ gD T.b_len dR (a7 (vb z) a9) eD eC))) (a7 (bN m3 a53 (aP (bN bE kO (vb z) (aP aD))) (aP (aU cR cZ gD T.b_len dR (a7 (vb z) a9) eD eC))) a9))) rfl))) (gn 7 z)
 (aC (mC 8 z (eR hr C_lets_row (a7 (vb z) (a7 (fZ (aR (vp .sh z) (vb z) (λ_ _=>rfl))) a9)) gD))
 (aC (iX (AT (FW (kX (fR (aP (aU pL mB gD T.b_isinstance cU (a7 (vb z) (a7 (aP (dI (lY (v:=.ty "bool") gD T.b_bool JA rfl J9 J6) (λ_=>.ty _))) a9)) cT cS)))) (CY (fR (vb z)))))
 (aI (aS e7 rfl))
 aQ)
 (eP (m1:=[.scr,(.v .fl),.st,(.o .fl),(.v .sn),(.v .sh),(.v .fl),.no,.no]) rfl aQ))))
 (aC (iX (fQ RE RZ (aP (eR hr C_lets_row (a7 (vb z) (a7 (vb z) a9)) gD)) (aP e7) (c9 _))
 (aI (aS e7 rfl))
 aQ)
 (eP (m1:=[.scr,.no,.no,.no,.no,.no,.no,.no,.no]) rfl aQ))))))))))
 (aI (aS e7 rfl)))
end
def E7(o:Option (Option Value))(v:Int):Bool:=match o with|some (some (.int i _))=>decide (i=v)|_=>false
theorem w9{o:Option (Option Value)}{v:Int}(h:E7 o v=true):∃t,o=some (some (.int v t)):=by
 unfold E7 at h
 split at h
 ·exact⟨_,by rw[a3u h]⟩
 ·cases h
theorem YG {l:PySem.W.OpenLaw} {q:Program} {w:World} {K:PySem.W.Frag} {h:Heap} {mg:Str->Option Value} {fa:Addr} (X:K.In h) (G:h.Ns mainGlobals mg) (hfa:mg "law"=some (.ref fa))
  (D_is_list_of:DfA K "is_list_of" m8) (D_is_tuple_of:DfA K "is_tuple_of" kR) (D_is_word_tuple:DfA K "is_word_tuple" iO) (D_is_whole:DfA K "is_whole" pO) (D_is_whole_within:DfA K "is_whole_within" gG) (D_is_over:DfA K "is_over" tG) (D_moments_of:DfA K "moments_of" j5) (D_load_at:DfA K "load_at" tJ) (D_loads_of:DfA K "loads_of" pR) (D_crowd_of:DfA K "crowd_of" pM) (D_are_numbers:DfA K "are_numbers" kP) (D_is_some:DfA K "is_some" tH) (D_is_choice:DfA K "is_choice" nR) (D_worth_of:DfA K "worth_of" pV) (D_places_of:DfA K "places_of" nT) (D_free_roads:DfA K "free_roads" m7) (D_stretch_roads:DfA K "stretch_roads" fG) (D_roads_of:DfA K "roads_of" pT) (D_greatest_gains:DfA K "greatest_gains" d6) (D_numbers_along:DfA K "numbers_along" iP) (D_changed_by:DfA K "changed_by" m6) (D_prices_by:DfA K "prices_by" nU) (D_best_up_to:DfA K "best_up_to" gF) (D_greatest_load:DfA K "greatest_load" iN) (D_is_price:DfA K "is_price" pN) (D_are_rising:DfA K "are_rising" j4) (D_is_paper:DfA K "is_paper" m9) (D_toll_of:DfA K "toll_of" tL) (D_rest_of:DfA K "rest_of" tK) (D_rests_of:DfA K "rests_of" pS) (D_prices_of:DfA K "prices_of" nV) (D_claim:DfA K "claim" CM) (D_is_step:DfA K "is_step" tI) (D_are_steps:DfA K "are_steps" kA) (D_claims_step:DfA K "claims_step" kQ) (D_are_papers_for:DfA K "are_papers_for" cH) (D_lets_row:DfA K "lets_row" pQ) (D_row_of:DfA K "row_of" xW) (D_l_begun:DfA K "_law_begun" d7) (D_l_take:DfA K "_law_take" eJ) (D_l_name:DfA K "_law_name" xV) (D_l_book:DfA K "_law_book" xU) (D_l_things:DfA K "_law_things" pP) (D_law:DfA K "law" AO)
  (z_all:PySem.W.nsIn K mainGlobals "all"=some none) (z_bool:PySem.W.nsIn K mainGlobals "bool"=some none) (z_enumerate:PySem.W.nsIn K mainGlobals "enumerate"=some none) (z_int:PySem.W.nsIn K mainGlobals "int"=some none) (z_isinstance:PySem.W.nsIn K mainGlobals "isinstance"=some none) (z_len:PySem.W.nsIn K mainGlobals "len"=some none) (z_list:PySem.W.nsIn K mainGlobals "list"=some none) (z_max:PySem.W.nsIn K mainGlobals "max"=some none) (z_min:PySem.W.nsIn K mainGlobals "min"=some none) (z_range:PySem.W.nsIn K mainGlobals "range"=some none) (z_set:PySem.W.nsIn K mainGlobals "set"=some none) (z_sorted:PySem.W.nsIn K mainGlobals "sorted"=some none) (z_sum:PySem.W.nsIn K mainGlobals "sum"=some none) (z_tuple:PySem.W.nsIn K mainGlobals "tuple"=some none) (z_zip:PySem.W.nsIn K mainGlobals "zip"=some none) (y_FARTHEST:E7 (PySem.W.nsIn K mainGlobals "FARTHEST") 1000000000000=true) (y_GREATEST_PRICE:E7 (PySem.W.nsIn K mainGlobals "GREATEST_PRICE") 10000000000000=true) (y_MOST_PRICES:E7 (PySem.W.nsIn K mainGlobals "MOST_PRICES") 48=true) (t_are_rising:(PySem.W.tabIn K "are_rising").isSome=true) (u_are_rising:((PyProof.Rows.recsOf q).find? (λe=>e.name==("are_rising" : Str))).isSome=true) (t_is_paper:(PySem.W.tabIn K "is_paper").isSome=true) (u_is_paper:((PyProof.Rows.recsOf q).find? (λe=>e.name==("is_paper" : Str))).isSome=true) (t_are_steps:(PySem.W.tabIn K "are_steps").isSome=true) (u_are_steps:((PyProof.Rows.recsOf q).find? (λe=>e.name==("are_steps" : Str))).isSome=true) (t_are_papers_for:(PySem.W.tabIn K "are_papers_for").isSome=true) (u_are_papers_for:((PyProof.Rows.recsOf q).find? (λe=>e.name==("are_papers_for" : Str))).isSome=true) (hnt:PySem.W.noTabs K=true) :
  ∃(TT:List (Ac×Ac)) (fd:FuncData),PySem.W.noTabs K=true/\(∀t∈TT,∃x d',(PyProof.Rows.recsOf q).find? (λe=>e.name==x)=some d'/\PySem.W.tabIn K x=some t)/\(∀(s:Ab) (v:Value),BindsTo s fd ⟨[v],[]⟩ [("_law_script",v)])/\∀base:Heap,K.In base->base.Ns mainGlobals mg->(∀t∈TT,PySem.W.CodeHd base t.1 t.2/\t.2∈base.life.registered)->FnOk l.prog w K mg base jV 10 fa fd ["_law_script"] (CQ K):=by
 obtain⟨fl,oc,od,an,osl,kV,doc,pm,cdv,ct,al,ll,cl,kl⟩:=D_law.ex
 have e:=hfa.symm.trans (a4u X G al)
 cases e
 obtain⟨tk_FARTHEST,y_FARTHEST⟩:=w9 y_FARTHEST
 obtain⟨tk_GREATEST_PRICE,y_GREATEST_PRICE⟩:=w9 y_GREATEST_PRICE
 obtain⟨tk_MOST_PRICES,y_MOST_PRICES⟩:=w9 y_MOST_PRICES
 have T:Txt K mg:=⟨a1t X G z_all,a1t X G z_bool,a1t X G z_enumerate,a1t X G z_int,a1t X G z_isinstance,a1t X G z_len,a1t X G z_list,a1t X G z_max,a1t X G z_min,a1t X G z_range,a1t X G z_set,a1t X G z_sorted,a1t X G z_sum,a1t X G z_tuple,a1t X G z_zip,⟨_,a4u X G y_FARTHEST⟩,⟨_,a4u X G y_GREATEST_PRICE⟩,⟨_,a4u X G y_MOST_PRICES⟩⟩
 obtain⟨tt_are_rising,et_are_rising⟩:=a2f.mp t_are_rising
 obtain⟨dd_are_rising,ed_are_rising⟩:=a2f.mp u_are_rising
 obtain⟨tt_is_paper,et_is_paper⟩:=a2f.mp t_is_paper
 obtain⟨dd_is_paper,ed_is_paper⟩:=a2f.mp u_is_paper
 obtain⟨tt_are_steps,et_are_steps⟩:=a2f.mp t_are_steps
 obtain⟨dd_are_steps,ed_are_steps⟩:=a2f.mp u_are_steps
 obtain⟨tt_are_papers_for,et_are_papers_for⟩:=a2f.mp t_are_papers_for
 obtain⟨dd_are_papers_for,ed_are_papers_for⟩:=a2f.mp u_are_papers_for
 refine⟨[tt_are_rising,tt_is_paper,tt_are_steps,tt_are_papers_for],PySem.W.fnOf "law" "law" (c5 AO) (aW AO) (aB AO) .none kV doc pm an cdv ct,hnt,?_,λs v=>.of_eq rfl,λbase _ _ hTB=>?_⟩
 ·intro t ht
  simp only[a0l,a0y,a2i] at ht
  rcases ht with rfl|rfl|rfl|rfl
  ·exact⟨_,_,ed_are_rising,et_are_rising⟩
  ·exact⟨_,_,ed_is_paper,et_is_paper⟩
  ·exact⟨_,_,ed_are_steps,et_are_steps⟩
  ·exact⟨_,_,ed_are_papers_for,et_are_papers_for⟩
 have C_is_list_of:i6 l.prog w K mg base:=yT (D_is_list_of.df X G) T
 have C_is_tuple_of:e9 l.prog w K mg base:=wJ (D_is_tuple_of.df X G) T
 have C_is_whole:jS l.prog w K mg base:=EI (D_is_whole.df X G) T
 have C_is_over:jF l.prog w K mg base:=HL (D_is_over.df X G) T
 have C_moments_of:i7 l.prog w K mg base:=yU (D_moments_of.df X G) T
 have C_worth_of:jT l.prog w K mg base:=EO (D_worth_of.df X G) T
 have C_free_roads:kF l.prog w K mg base:=yS (D_free_roads.df X G) T
 have C_stretch_roads:gR l.prog w K mg base:=sY (D_stretch_roads.df X G) T
 have C_greatest_gains:gA l.prog w K mg base:=qR (D_greatest_gains.df X G) T
 have C_numbers_along:gQ l.prog w K mg base:=sX (D_numbers_along.df X G) T
 have C_changed_by:kE l.prog w K mg base:=yR (D_changed_by.df X G) T
 have C_prices_by:lL l.prog w K mg base:=C1 (D_prices_by.df X G) T
 have C_prices_of:lM l.prog w K mg base:=C2 (D_prices_of.df X G) T
 have C_l_begun:vJ l.prog w K mg base:=LA (HP (D_l_begun.df X G) T )
 have C_l_take:nX l.prog w K mg base:=O1 (MF (D_l_take.df X G) T )
 have C_l_things:mV l.prog w K mg base:=EJ (D_l_things.df X G) T
 have C_is_word_tuple:gP l.prog w K mg base:=sW (D_is_word_tuple.df X G) T C_is_tuple_of
 have C_is_whole_within:dC l.prog w K mg base:=pD (D_is_whole_within.df X G) T C_is_whole
 have C_load_at:lJ l.prog w K mg base:=HQ (D_load_at.df X G) T C_is_over
 have C_places_of:lK l.prog w K mg base:=C0 (D_places_of.df X G) T C_moments_of
 have C_are_rising:kC l.prog w K mg base:=yP (D_are_rising.dfT X G et_are_rising (hTB _ (by simp))) T
 have C_toll_of:oX l.prog w K mg base:=HU (D_toll_of.df X G) T C_is_over
 have C_l_name:sI l.prog w K mg base:=ME (D_l_name.df X G) T C_l_take
 have C_loads_of:mX l.prog w K mg base:=EL (D_loads_of.df X G) T C_moments_of C_load_at
 have C_are_numbers:jD l.prog w K mg base:=wH (D_are_numbers.df X G) T C_is_whole_within
 have C_roads_of:mZ l.prog w K mg base:=EN (D_roads_of.df X G) T C_free_roads C_stretch_roads C_load_at
 have C_is_price:mU l.prog w K mg base:=EH (D_is_price.df X G) T C_is_tuple_of C_is_whole_within
 have C_rest_of:oW l.prog w K mg base:=HR (D_rest_of.df X G) T C_toll_of
 have C_l_book:sH l.prog w K mg base:=MD (D_l_book.df X G) T C_l_take C_l_name
 have C_crowd_of:jR l.prog w K mg base:=EF (D_crowd_of.df X G) T C_loads_of C_is_over
 have C_is_some:oU l.prog w K mg base:=HM (D_is_some.df X G) T C_are_numbers
 have C_best_up_to:kD l.prog w K mg base:=yQ (D_best_up_to.df X G) T C_places_of C_roads_of C_greatest_gains C_changed_by C_numbers_along C_prices_by
 have C_rests_of:mY l.prog w K mg base:=EM (D_rests_of.df X G) T C_rest_of
 have C_is_choice:lI l.prog w K mg base:=BZ (D_is_choice.df X G) T C_is_some C_crowd_of
 have C_greatest_load:eS l.prog w K mg base:=sV (D_greatest_load.df X G) T C_crowd_of
 have C_is_paper:mT l.prog w K mg base:=EG (D_is_paper.dfT X G et_is_paper (hTB _ (by simp))) T C_are_rising C_is_price
 have C_claim:vI l.prog w K mg base:=Q8 (D_claim.df X G) T C_rests_of C_prices_of
 have C_is_step:oV l.prog w K mg base:=HN (D_is_step.df X G) T C_is_tuple_of C_is_whole C_is_choice C_worth_of
 have C_claims_step:jE l.prog w K mg base:=wI (D_claims_step.df X G) T C_claim
 have C_row_of:sJ l.prog w K mg base:=MG (D_row_of.df X G) T C_best_up_to C_greatest_load C_worth_of
 have C_are_steps:lH l.prog w K mg base:=BY (D_are_steps.dfT X G et_are_steps (hTB _ (by simp))) T C_is_list_of C_is_step
 have C_are_papers_for:g9 l.prog w K mg base:=qQ (D_are_papers_for.dfT X G et_are_papers_for (hTB _ (by simp))) T C_is_list_of C_claims_step C_is_paper
 have C_lets_row:mW l.prog w K mg base:=EK (D_lets_row.df X G) T C_is_word_tuple C_are_steps C_are_papers_for C_greatest_load
 have C_law:ND l.prog w K mg base:=a0N (D_law.df X G) T C_l_begun C_l_book C_row_of C_l_things C_l_take C_lets_row
 exact YO (TJ C_law a0A) hfa ll
theorem a7G {l:PySem.W.OpenLaw} {q:Program} {loose:List Str} {XP:(Str->Option Value)->Heap->Prop} {YP:World->Heap->Prop} {d:DefRec} {K:Params->PySem.W.Frag} (hn:l.most=some 63) (hdf:d.params.defaults=[]) (himp:PyProof.Rows.importsNone q=true)
  (hY:∀(w:World) (h:Heap),YP w h->(K w.params).In h)
  (F:∀(w:World) (mg:Str->Option Value) (fa:Addr) (h:Heap),(K w.params).In h->h.Ns mainGlobals mg->mg d.name=some (.ref fa)->
   ∃(TT:List (Ac×Ac)) (fd:FuncData),PySem.W.noTabs (K w.params)=true/\(∀t∈TT,∃x d',(PyProof.Rows.recsOf q).find? (λe=>e.name==x)=some d'/\PySem.W.tabIn (K w.params) x=some t)/\(∀(s:Ab) (u:Value),BindsTo s fd ⟨[u],[]⟩ [("_law_script",u)])/\∀base:Heap,(K w.params).In base->base.Ns mainGlobals mg->(∀t∈TT,PySem.W.CodeHd base t.1 t.2/\t.2∈base.life.registered)->FnOk l.prog w (K w.params) mg base jV 10 fa fd ["_law_script"] (CQ (K w.params))) :
  PySem.W.WalkO q loose XP YP l.row.toRowW d [] (λf vs=>PySem.call f vs):=
 L2.SR (n:=63) (k:=10) (x:="_law_script") (CX:=λ_=>jV) (sp:=λw=>CQ (K w.params)) hn (by decide) hdf himp ⟨rfl,by decide,by decide,rfl⟩ hY F (λ_ _ a ns hl o hS=>⟨a,ns,rfl,RV hS o,hl,λ_=>rfl⟩) λ_ _ _ _ _ z=>z
end K38
theorem PySem.W.Fast.tw3336101161133876707:True:=⟨⟩
theorem PySem.W.Fast.tw15544755629993490146:True:=⟨⟩
theorem PySem.W.Fast.tw11652333499700431518:True:=⟨⟩
theorem PySem.W.Fast.tw9816139514046694381:True:=⟨⟩
theorem PySem.W.Fast.tw2494093700537207810:True:=⟨⟩
theorem PySem.W.Fast.tw10939735353092937604:True:=⟨⟩
theorem PySem.W.Fast.tw10819282409922745203:True:=⟨⟩
theorem PySem.W.Fast.tw1952385041794578938:True:=⟨⟩
theorem PySem.W.Fast.tw7447423578897113436:True:=⟨⟩
theorem PySem.W.Fast.tw8338560201698822745:True:=⟨⟩
theorem PySem.W.Fast.tw15342256920293686522:True:=⟨⟩
theorem PySem.W.Fast.tw6220501619297766572:True:=⟨⟩
theorem PySem.W.Fast.tw17643199311283992432:True:=⟨⟩
theorem PySem.W.Fast.tw10204088815264161850:True:=⟨⟩
theorem PySem.W.Fast.tw847689849759795261:True:=⟨⟩
theorem PySem.W.Fast.tw1281236585278186373:True:=⟨⟩
theorem PySem.W.Fast.tw11734914532813354019:True:=⟨⟩
theorem PySem.W.Fast.tw10885562444037239084:True:=⟨⟩
theorem PySem.W.Fast.tw11184446709864438519:True:=⟨⟩
theorem PySem.W.Fast.tw791215134995633408:True:=⟨⟩
theorem PySem.W.Fast.tw15420781266179800256:True:=⟨⟩
theorem PySem.W.Fast.tw12050971888816161524:True:=⟨⟩
theorem PySem.W.Fast.tw14559139853193543352:True:=⟨⟩
theorem PySem.W.Fast.tw7383941402783778210:True:=⟨⟩
theorem PySem.W.Fast.tw8218277364879959269:True:=⟨⟩
theorem PySem.W.Fast.tw15264857021548937855:True:=⟨⟩
theorem PySem.W.Fast.tw6300881094145907708:True:=⟨⟩
theorem PySem.W.Fast.tw5156327414151327162:True:=⟨⟩
theorem PySem.W.Fast.tw4013191722185749944:True:=⟨⟩
theorem PySem.W.Fast.tw1301201028357286591:True:=⟨⟩
theorem PySem.W.Fast.tw16796863820014269040:True:=⟨⟩
theorem PySem.W.Fast.tw526269111994250040:True:=⟨⟩
theorem PySem.W.Fast.tw4563274135577788679:True:=⟨⟩
theorem PySem.W.Fast.tw3311317670979703979:True:=⟨⟩
theorem PySem.W.Fast.tw2125065562998316327:True:=⟨⟩
theorem PySem.W.Fast.tw17441334130654948352:True:=⟨⟩
theorem PySem.W.Fast.tw5632394188041922888:True:=⟨⟩
theorem PySem.W.Fast.tw17057512845023572183:True:=⟨⟩
theorem PySem.W.Fast.tw3280974454857887310:True:=⟨⟩
theorem PySem.W.Fast.tw4277654050440890619:True:=⟨⟩
theorem PySem.W.Fast.tw12360718192674661934:True:=⟨⟩
theorem PySem.W.Fast.tw6281664765512038521:True:=⟨⟩
theorem PySem.W.Fast.tw10383036509679421458:True:=⟨⟩
theorem PySem.W.Fast.tw5507266479761966313:True:=⟨⟩
theorem PySem.W.Fast.tw15620671373983397593:True:=⟨⟩
theorem PySem.W.Fast.tw6500404106051110710:True:=⟨⟩
theorem PySem.W.Fast.tw9675498892149567022:True:=⟨⟩
theorem PySem.W.Fast.tw9762650083978865774:True:=⟨⟩
theorem PySem.W.Fast.tw14462625756650756922:True:=⟨⟩
theorem PySem.W.Fast.tw965619580425420963:True:=⟨⟩
theorem PySem.W.Fast.tw16078076434154569539:True:=⟨⟩
theorem PySem.W.Fast.tw2397095610055389517:True:=⟨⟩
theorem PySem.W.Fast.tw10315981129076331369:True:=⟨⟩
theorem PySem.W.Fast.tw9596700848676199361:True:=⟨⟩
theorem PySem.W.Fast.tw6705787970760934324:True:=⟨⟩
theorem PySem.W.Fast.tw1639226472356527235:True:=⟨⟩
theorem PySem.W.Fast.tw11029904464020996758:True:=⟨⟩
theorem PySem.W.Fast.tw6258223440615273559:True:=⟨⟩
theorem PySem.W.Fast.tw12404187927276971346:True:=⟨⟩
theorem PySem.W.Fast.tw4282752497985546986:True:=⟨⟩
theorem PySem.W.Fast.tw3377386027825597619:True:=⟨⟩
theorem PySem.W.Fast.tw14891610285072877658:True:=⟨⟩
theorem PySem.W.Fast.tw1196292194715048301:True:=⟨⟩
theorem PySem.W.Fast.tw9868795563602952639:True:=⟨⟩
theorem PySem.W.Fast.tw4843787871420516190:True:=⟨⟩
theorem PySem.W.Fast.tw12398183350063813012:True:=⟨⟩
theorem PySem.W.Fast.tw5685511046030225596:True:=⟨⟩
theorem PySem.W.Fast.tw13738249141468060476:True:=⟨⟩
open PySem PySem.W PyProof.Rows
set_option maxRecDepth 100000 in
set_option maxHeartbeats 0 in
theorem PySem.Challenge.cw_benchworth_k38_what_is_no_row_holds : PySem.Challenge.rw_benchworth_k38_what_is_no_row.Holds := by
 w_on;o_law;k_head;(case hw=>w_witness2)
 k_fill
 refine K38.a7G (l:=PySem.Challenge.rw_benchworth_k38_what_is_no_row) rfl rfl ⋯ (λw h Y=>PySem.W.kIn_of Y) ?F
 case F=>
  intro w mg fa h KX G hmg
  refine' K38.YG KX G hmg ?_ ?_ ?_ ?_ ?_ ?_ ?_ ?_ ?_ ?_ ?_ ?_ ?_ ?_ ?_ ?_ ?_ ?_ ?_ ?_ ?_ ?_ ?_ ?_ ?_ ?_ ?_ ?_ ?_ ?_ ?_ ?_ ?_ ?_ ?_ ?_ ?_ ?_ ?_ ?_ ?_ ?_ ?_ ?_ ?_ ?_ ?_ ?_ ?_ ?_ ?_ ?_ ?_ ?_ ?_ ?_ ?_ ?_ ?_ ?_ ?_ ?_ ?_ ?_ ?_ ?_ ?_ ?_ ?_ ?_ ?_
  all_goals first|walk_at "d" |k_is|kernel_rfl|decide+kernel
