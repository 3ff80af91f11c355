import PyProof.Rows.All
import Wide.All
import OpenK.AllK
import Wide.FinOn
import Lean
import PyProof.EqAt
import PyProof.EqKinds
import PyProof.TupleCall
import PyProof.NeKinds
import PyProof.CollectWalk
import PyProof.CollectStr
import PyProof.SetRoads
import KE.KDictSum
import PyProof.SeqI3
import PyProof.ZipIter
import PyProof.Rows.SetFrom
import PyProof.FactsAll.set
import PySem.Challenge.RW_benchworth_k35_whole_papers_above_the_mo
set_option Elab.async false
set_option linter.all false
set_option maxRecDepth 100000
abbrev a0a:=@PySem.wpAny_bind
abbrev a0b:=@List.getElem?_eq_getElem
abbrev a0c:=@PySem.wpAny_pure
abbrev a0d:=@List.length_map
abbrev a0e:=@PySem.Heap.get?_push_of_some
abbrev a0f:=@List.map_cons
abbrev a0g:=@List.getD_eq_getElem?_getD
abbrev a0h:=@List.getElem?_map
abbrev a0i:=@List.mem_cons_of_mem
abbrev a0j:=@Bool.false_ne_true
abbrev a0k:=@List.getElem?_eq_some_iff
abbrev a0l:=@Nat.le_refl
abbrev a0m:=@PySem.Heap.lt_size
abbrev a0n:=@List.mem_cons_self
abbrev a0o:=@List.sum_cons
abbrev a0p:=@List.mem_map
abbrev a0q:=@List.mem_cons
abbrev a0r:=@Nat.ne_of_lt
abbrev a0s:=@Array.length_toList
abbrev a0t:=@List.size_toArray
abbrev a0u:=@Option.map_eq_some_iff
abbrev a0v:=@Array.getElem?_eq_getElem
abbrev a0w:=@List.mem_append_right
abbrev a0x:=@List.mem_of_getElem?
abbrev a0y:=@PySem.Heap.get?_push_size
abbrev a0z:=@Nat.lt_of_lt_of_le
abbrev a1a:=@PySem.wpAny_mono
abbrev a1b:=@Nat.le_trans
abbrev a1c:=@List.map_append
abbrev a1d:=@List.length_append
abbrev a1e:=@Bool.and_eq_true
abbrev a1f:=@decide_eq_false
abbrev a1g:=@List.mem_append
abbrev a1h:=@List.filterMap_cons
abbrev a1i:=@Option.some.inj
abbrev a1j:=@Int.toNat_natCast
abbrev a1k:=@List.all_eq_true
abbrev a1l:=@List.mem_range
abbrev a1m:=@PySem.wpAny_newObj_type
abbrev a1n:=@List.getElem?_append_right
abbrev a1o:=@List.take_add_one
abbrev a1p:=@List.getElem?_append_left
abbrev a1q:=@PySem.Heap.get?_update_other
abbrev a1r:=@PySem.PassesOwn.never
abbrev a1s:=@PySem.wpAny_holding
abbrev a1t:=@List.length_replicate
abbrev a1u:=@PySem.Heap.get?_update_self
abbrev a1v:=@List.getElem_of_mem
abbrev a1w:=@List.nodup_cons
abbrev a1x:=@List.getElem_mem
abbrev a1y:=@List.not_mem_nil
abbrev a1z:=@List.take_length
abbrev a2a:=@List.getElem?_eq_none
abbrev a2b:=@List.find?_cons
abbrev a2c:=@PySem.W.mg_none_of
abbrev a2d:=@Ne.symm
abbrev a2e:=@List.mem_filter
abbrev a2f:=@List.length_take
abbrev a2g:=@List.length_cons
abbrev a2h:=@Nat.lt_trans
abbrev a2i:=@List.map_map
abbrev a2j:=@PySem.wpAny_call_entry
abbrev a2k:=@List.filter_cons
abbrev a2l:=@PySem.Heap.SameBut.update
abbrev a2m:=@decide_eq_true
abbrev a2n:=@Array.getElem?_toList
abbrev a2o:=@List.zip_cons_cons
abbrev a2p:=@Array.getD_eq_getD_getElem?
abbrev a2q:=@List.getElem?_replicate
abbrev a2r:=@List.mem_append_left
abbrev a2s:=@List.lookup_cons
abbrev a2t:=@Nat.le_of_lt
abbrev a2u:=@Nat.zero_le
abbrev a2v:=@PySem.Heap.size_push
abbrev a2w:=@List.getElem?_set
abbrev a2x:=@List.getElem?_zip_eq_some
abbrev a2y:=@List.pairwise_iff_getElem
abbrev a2z:=@Nat.lt_succ_self
abbrev a3a:=@PySem.F.slot_list_append
abbrev a3b:=@PySem.F.type_list_append
abbrev a3c:=@PySem.Around.under_plainId
abbrev a3d:=@List.length_eq_zero_iff
abbrev a3e:=@PySem.F.plainAttrs_list
abbrev a3f:=@PySem.wpAny_setState_of
abbrev a3g:=@List.replicate_succ
abbrev a3h:=@PySem.wpAny_standAt
abbrev a3i:=@List.filterMap_map
abbrev a3j:=@PySem.Obj.data_mapFields
abbrev a3k:=@List.drop_eq_getElem_cons
abbrev a3l:=@Int.le_refl
abbrev a3m:=@List.nil_append
abbrev a3n:=@Bool.or_eq_true
abbrev a3o:=@PySem.codeAny_builtin
abbrev a3p:=@List.length_dropLast
abbrev a3q:=@List.pairwise_map
abbrev a3r:=@PySem.wpAny_callSpecial?_slot
abbrev a3s:=@List.ext_getElem
abbrev a3t:=@PySem.wpAny_askSetting
abbrev a3u:=@or_false
abbrev a3v:=@PyProof.Rows.callWith_type1
abbrev a3w:=@List.mem_filterMap
abbrev a3x:=@decide_eq_true_iff
abbrev a3y:=@Int.emod_lt_of_pos
abbrev a3z:=@PySem.wpAny_passesOwn
abbrev a4a:=@List.length_filter_le
abbrev a4b:=@List.range_succ
abbrev a4c:=@List.filterMap_eq_map
abbrev a4d:=@List.any_cons
abbrev a4e:=@List.flatten_cons
abbrev a4f:=@of_decide_eq_true
abbrev a4g:=@PySem.wpAny_storeSet_of
abbrev a4h:=@PySem.Heap.SameBut.refl
abbrev a4i:=@beq_iff_eq
abbrev a4j:=@Nat.le_of_not_lt
abbrev a4k:=@PySem.wpAny_comprehension_free
abbrev a4l:=@PySem.F.called_set
abbrev a4m:=@PySem.mem_of_lookup
abbrev a4n:=@Array.toList_append
abbrev a4o:=@List.length_reverse
abbrev a4p:=@List.map_congr_left
abbrev a4q:=@PyProof.Rows.slot_tuple_getitem
abbrev a4r:=@PySem.wpAny_rule
abbrev a4s:=@Bool.eq_iff_iff
abbrev a4t:=@Int.emod_nonneg
abbrev a4u:=@Nat.eq_or_lt_of_le
abbrev a4v:=@List.filter_append
abbrev a4w:=@List.length_range
abbrev a4x:=@PySem.fits_of_scanBound
abbrev a4y:=@decide_eq_true_eq
abbrev a4z:=@Nat.ne_of_gt
abbrev a5a:=@List.length_singleton
abbrev a5b:=@PySem.wpAny_setField
abbrev a5c:=@PySem.Obj.isFreed_of_fields
abbrev a5d:=@PySem.wpAny_newFunctionEnv
abbrev a5e:=@List.pairwise_append
abbrev a5f:=@List.getElem_map
abbrev a5g:=@List.forIn_cons
abbrev a5h:=@PySem.codeAny_mono
abbrev a5i:=@List.map_nil
abbrev a5j:=@Nat.lt_of_le_of_lt
abbrev a5k:=@List.mem_singleton
abbrev a5l:=@PyProof.Rows.F.plain_set_update_loop
abbrev a5m:=@PySem.wpAny_truthy_bool
abbrev a5n:=@PySem.F.plain_list_iadd
abbrev a5o:=@List.take_of_length_le
abbrev a5p:=@PySem.SetOf_store
abbrev a5q:=@List.findIdx?_eq_some_iff_getElem
abbrev a5r:=@PySem.wpAny_of_eq
abbrev a5s:=@Array.getElem?_eq_none
abbrev a5t:=@Nat.lt_irrefl
abbrev a5u:=@PySem.plainId_quiet
abbrev a5v:=@List.mem_reverse
abbrev a5w:=@Nat.lt_of_not_le
abbrev a5x:=@List.any_eq_true
abbrev a5y:=@List.drop_length
abbrev a5z:=@PySem.wpAny_isInstance
abbrev a64:=@if_true
abbrev a65:=@PySem.builtinLookup_eq_fast
abbrev a66:=@PySem.F.slot_dict_get
abbrev a67:=@List.eraseIdx_eq_take_drop_succ
abbrev a68:=@PySem.wpAny_execs_nil
abbrev a69:=@List.append_nil
abbrev a6a:=@PySem.lookup_relabel_local
abbrev a6b:=@List.length_zip
abbrev a6c:=@Nat.zero_add
abbrev a6d:=@List.getElem?_range
abbrev a6e:=@PySem.isSubtype_type
abbrev a6f:=@Int.mul_one
abbrev a6g:=@List.map_replicate
abbrev a6h:=@List.zipIdx_append
abbrev a6i:=@List.length_zipIdx
abbrev a6j:=@List.append_assoc
abbrev a6k:=@Array.toList_push
abbrev a6l:=@Option.some.injEq
abbrev a6m:=@List.nodup_append
abbrev a6n:=@bind_congr
namespace L2
open PySem PySem.Spec PyProof.Rows
abbrev cK:=Sum Int Str
def CH:cK -> Value -> Bool
 | .inl k,v=>Value.isInt k v
 | .inr x,v=>Value.isStrOf x v
def a4S (w:World):cK -> Int
 | .inl k=>hashInt k
 | .inr x=>hashStr w x
theorem d9:∀ {k:cK} {v:Value},CH k v = true -> (∃ i t,k = Sum.inl i /\ v = Value.int i t) \/ (∃ x t,k = Sum.inr x /\ v = Value.str x t)
 | .inl i,v,h=>by
  obtain ⟨t,e⟩:=Value.isInt_shape (k:=i) (v:=v) h
  exact .inl ⟨i,t,rfl,e⟩
 | .inr x,v,h=>by
  obtain ⟨t,e⟩:=Value.isStrOf_shape (x:=x) (v:=v) h
  exact .inr ⟨x,t,rfl,e⟩
theorem NA (i:Int) (t:Tok):CH (.inl i) (.int i t) = true:=by simp [CH,Value.isInt]
theorem NB (x:Str) (t:Tok):CH (.inr x) (.str x t) = true:=by simp [CH,Value.isStrOf]
theorem ZC (a b:Int):decide ((Sum.inl a:cK) = Sum.inl b) = (a == b):=by
 by_cases e:a = b
 ·subst e;simp
 ·have h:¬ (Sum.inl a:cK) = Sum.inl b:=λq=>e (Sum.inl.inj q)
  rw [a1f h]
  exact (beq_eq_false_iff_ne.mpr e).symm
theorem ZF (a b:Str):decide ((Sum.inr a:cK) = Sum.inr b) = decide (a = b):=by
 by_cases e:a = b
 ·subst e;simp
 ·have h:¬ (Sum.inr a:cK) = Sum.inr b:=λq=>e (Sum.inr.inj q)
  rw [a1f h,a1f e]
theorem ZD (a:Int) (b:Str):decide ((Sum.inl a:cK) = Sum.inr b) = false:=a1f (λq=>nomatch q)
theorem ZE (a:Str) (b:Int):decide ((Sum.inr a:cK) = Sum.inl b) = false:=a1f (λq=>nomatch q)
def cG (prog:Program) (w:World):PySem.KeyKind prog w cK where
 is:=CH
 hash:=a4S w
 inj:=λv a b ha hb=>by
  rcases d9 ha with ⟨i,t,rfl,rfl⟩ | ⟨x,t,rfl,rfl⟩
  ·rcases d9 hb with ⟨j,u,rfl,e⟩ | ⟨y,u,rfl,e⟩
   ·injection e with e1 _;rw [e1]
   ·exact nomatch e
  ·rcases d9 hb with ⟨j,u,rfl,e⟩ | ⟨y,u,rfl,e⟩
   ·exact nomatch e
   ·injection e with e1 _;rw [e1]
 byValue:=λk v h=>by
  rcases d9 h with ⟨i,t,rfl,rfl⟩ | ⟨x,t,rfl,rfl⟩ <;> rfl
 pyHash:=λhv h=>by
  rcases d9 hv with ⟨i,t,rfl,rfl⟩ | ⟨x,t,rfl,rfl⟩
  ·exact wpAny_pyHash_int h
  ·exact wpAny_pyHash_str h
 eqBool:=λhu hv h=>by
  rcases d9 hu with ⟨i,t,rfl,rfl⟩ | ⟨x,t,rfl,rfl⟩
  ·rcases d9 hv with ⟨j,u,rfl,rfl⟩ | ⟨y,u,rfl,rfl⟩
   ·rw [ZC] at h;exact wpAny_eqBool_int h
   ·rw [ZD] at h;exact SeqAt.EqAt.int_str i t y u _ _ _ _ h
  ·rcases d9 hv with ⟨j,u,rfl,rfl⟩ | ⟨y,u,rfl,rfl⟩
   ·rw [ZE] at h;exact SeqAt.EqAt.str_int x t j u _ _ _ _ h
   ·rw [ZF] at h;exact wpAny_eqBool_str h
 «strs»:=λk x t v h=>by
  rcases d9 h with ⟨i,u,rfl,e⟩ | ⟨y,u,rfl,e⟩
  ·exact nomatch e
  ·injection e with e1 _
   subst e1
   cases v <;> rfl
theorem G5 (prog:Program) (w:World) (i:Int) (t:Tok):(cG prog w).is (.inl i) (.int i t) = true:=NA i t
theorem G6 (prog:Program) (w:World) (x:Str) (t:Tok):(cG prog w).is (.inr x) (.str x t) = true:=NB x t
inductive V where
 | non | bl (b:Bool) | int (i:Int) | str (x:Str) | byt (b:Array UInt8) | flt (b:UInt64) | ref (a:Addr) | ty (n:String)
 deriving DecidableEq
def bR:V -> Value -> Prop
 | .non,u=>u = Value.none
 | .bl b,u=>u = Value.bool b
 | .int i,u=>∃ t,u = Value.int i t
 | .str x,u=>∃ t,u = Value.str x t
 | .byt b,u=>∃ t,u = Value.bytes b t
 | .flt b,u=>∃ t,u = Value.float b t
 | .ref a,u=>u = Value.ref a
 | .ty n,u=>u = Value.type n
abbrev bF:List V -> List Value -> Prop:=Paired bR
theorem bF.length {xs:List V} {us:List Value} (r:bF xs us):xs.length = us.length:=Paired.length r
theorem bF.get:∀ {xs:List V} {us:List Value} {i:Nat} {x:V},bF xs us -> xs[i]? = some x -> ∃ u,us[i]? = some u /\ bR x u
 | _,_,_,_,.nil,e=>by simp at e
 | _,_,0,_,.cons r _,e=>by simp at e;subst e;exact ⟨_,rfl,r⟩
 | _,_,i + 1,x,.cons _ t,e=>by
  obtain ⟨u,h1,h2⟩:=bF.get (i:=i) (x:=x) t (by simpa using e)
  exact ⟨u,by simpa using h1,h2⟩
theorem bF.set {x:V} {u:Value} (r:bR x u):∀ {xs:List V} {us:List Value} (i:Nat),bF xs us -> bF (xs.set i x) (us.set i u)
 | _,_,_,.nil=>.nil
 | _,_,0,.cons _ t=>.cons r t
 | _,_,i + 1,.cons q t=>.cons q (bF.set r i t)
theorem bF.append:∀ {xs ys:List V} {us ws:List Value},bF xs us -> bF ys ws -> bF (xs ++ ys) (us ++ ws)
 | _,_,_,_,.nil,s=>s
 | _,_,_,_,.cons r t,s=>.cons r (bF.append t s)
theorem bF.take:∀ {xs:List V} {us:List Value} (n:Nat),bF xs us -> bF (xs.take n) (us.take n)
 | _,_,0,_=>.nil
 | _,_,_ + 1,.nil=>.nil
 | _,_,n + 1,.cons r t=>.cons r (bF.take n t)
theorem bF.drop:∀ {xs:List V} {us:List Value} (n:Nat),bF xs us -> bF (xs.drop n) (us.drop n)
 | _,_,0,r=>r
 | _,_,_ + 1,.nil=>.nil
 | _,_,n + 1,.cons _ t=>bF.drop n t
def yA:Option V -> Option Value -> Prop
 | some v,some u=>bR v u
 | none,none=>True
 | _,_=>False
def KV {κ:Type}:List (κ × V) -> List (κ × Value) -> Prop:=Paired λ(p:κ × V) (q:κ × Value)=>p.1 = q.1 /\ bR p.2 q.2
def kV:cK -> V
 | .inl i=>.int i
 | .inr x=>.str x
inductive HO where
 | lst (xs:List V)
 | tup (xs:List V)
 | dK (kvs:List (cK × V)) | dT (kvs:List (List cK × V))
 | set (S:Int -> Bool) (n:Nat)
 | ins (C dx:Addr) (fs:List (Str × V))
 | own (x:Addr)
 | xd (fs:List (Str × V))
 | met (f x:Addr)
 | rng (lo hi:Int)
 | frz (o:Obj) (u:HO)
 | tbl (ps:Array Value)
 | ext (φ:Heap -> Prop)
abbrev Hp:=Addr -> Option HO
def c7 (H:Hp) (a:Addr) (o:HO):Hp:=λb=>if b = a then some o else H b
theorem bK {H:Hp} {a:Addr} {o:HO}:c7 H a o a = some o:=by unfold c7;rw [if_pos rfl]
theorem aG {H:Hp} {a b:Addr} {o:HO} (h:b ≠ a):c7 H a o b = H b:=by unfold c7;rw [if_neg h]
theorem M6 {H:Hp} {a:Addr} {o u:HO}:c7 (c7 H a o) a u = c7 H a u:=by
 funext b;unfold c7;split <;> rfl
theorem a2Q {H:Hp} {a b:Addr} {o u:HO} (h:H a = some o) (h':H b = some u) (d:o ≠ u):a ≠ b:=by
 intro e;subst e;rw [h] at h';exact d (a1i h')
theorem eY {H:Hp} {a b:Addr} {o:HO} (h:H a = some o) (h':H b = none):a ≠ b:=by
 intro e;subst e;rw [h] at h';cases h'
section
variable (P:Program) (w:World)
def eV (H:Hp) (h:Heap) (a:Addr):HO -> Prop
 | .lst xs=>xs.length <= sizeLine /\ ∃ (its:List Value) (n:Nat),bF xs its /\ h.get? a = some { cls:=.type "list",data:=.seq its.toArray n }
 | .tup xs=>xs.length <= sizeLine /\ ∃ its:List Value,bF xs its /\ IsTup h a its.toArray
 | .dK kvs=>kvs.length <= sizeLine /\ (a == sysModules) = false /\ ∃ vs,KV kvs vs /\ h.DictOf (cG P w) a vs
 | .dT kvs=>kvs.length <= sizeLine /\ (a == sysModules) = false /\ ∃ xs:List (List cK × Addr × Value),
   Paired (λ(p:List cK × V) (q:List cK × Addr × Value)=>p.1 = q.1 /\ H q.2.1 = some (.tup (p.1.map kV)) /\ bR p.2 q.2.2) kvs xs /\
   ∃ o es ep,h.get? a = some o /\ o.ExactDict /\ o.data = .dict es ep /\ es.toList = xs.map (entryOfKey (tupleKind (cG P w))) /\ (xs.map (·.1)).Nodup
 | .set S n=>h.SetOf (intKind P w) a S n
 | .ins C dx fs=>H dx = some (.own a) /\ fs.length <= 1000 /\ dx ≠ a /\ h.get? a = some (PySem.W.instObj C dx) /\
   ∃ mA,h.Ns1 dx mA /\ (∀ f,yA (fs.lookup f) (mA f)) /\ PySem.Within mA (fs.map (·.1))
 | .own _=>∃ o,h.get? a = some o
 | .xd fs=>∃ mA,h.Ns1 a mA /\ ∀ f,yA (fs.lookup f) (mA f)
 | .rng lo hi=>∃ t u v,h.get? a = some { cls:=.type "range",data:=.fields #[.int lo t,.int hi u,.int 1 v] }
 | .frz o u=>h.get? a = some o /\ eV H h a u
 | .tbl ps=>h.get? a = some { cls:=.none,data:=.fields ps }
 | .met f x=>h.get? a = some (PySem.W.methodObj (.ref f) (.ref x))
 | .ext φ=>φ h /\ (∃ o,h.get? a = some o) /\ ∀ h1 h2:Heap,φ h1 -> (∀ o,h1.get? a = some o -> h2.get? a = some o) -> φ h2
def rP (H:Hp) (h:Heap):Prop:=∀ a o,H a = some o -> eV P w H h a o
end
section
variable {P:Program} {w:World} {H H':Hp} {h h':Heap} {a:Addr} {o:HO}
theorem eV.lt (x:eV P w H h a o):a < h.objs.size:=by
 cases o with
 | lst xs=>obtain ⟨_,_,_,_,e⟩:=x;exact a0m e
 | tup xs=>obtain ⟨_,_,_,p⟩:=x;exact p.lt
 | dK kvs=>obtain ⟨_,_,_,_,o,_,_,e,_⟩:=x;exact a0m e
 | dT kvs=>obtain ⟨_,_,_,_,o,_,_,e,_⟩:=x;exact a0m e
 | set S n=>obtain ⟨o,_,_,_,e,_⟩:=x;exact a0m e
 | ins C dx fs=>obtain ⟨_,_,_,e,_⟩:=x;exact a0m e
 | own y=>obtain ⟨_,e⟩:=x;exact a0m e
 | xd fs=>obtain ⟨_,⟨_,_,_,e,_⟩,_⟩:=x;exact a0m e
 | rng lo hi=>obtain ⟨_,_,_,e⟩:=x;exact a0m e
 | frz ob u=>obtain ⟨e,_⟩:=x;exact a0m e
 | tbl ps=>exact a0m (show h.get? a = some _ from x)
 | met f y=>exact a0m (show h.get? a = some _ from x)
 | ext φ=>obtain ⟨_,⟨_,e⟩,_⟩:=x;exact a0m e
theorem Paired.mapP {α β:Type} {F G:α -> β -> Prop}:∀ {l₁:List α} {l₂:List β},Paired F l₁ l₂ -> (∀ a b,F a b -> G a b) -> Paired G l₁ l₂
 | _,_,.nil,_=>.nil
 | _,_,.cons r t,f=>.cons (f _ _ r) (Paired.mapP t f)
theorem eV.stay (x:eV P w H h a o) (k:∀ b u,(b = a \/ H b = some (.own a)) -> h.get? b = some u -> h'.get? b = some u)
  (ho:∀ b,H b = some (.own a) -> H' b = some (.own a)) (ht:∀ b xs,H b = some (.tup xs) -> H' b = some (.tup xs)):eV P w H' h' a o:=by
 induction o with
 | lst xs=>obtain ⟨z,its,n,r,e⟩:=x;exact ⟨z,its,n,r,k _ _ (.inl rfl) e⟩
 | tup xs=>obtain ⟨z,its,r,ob,e,c⟩:=x;exact ⟨z,its,r,ob,k _ _ (.inl rfl) e,c⟩
 | dK kvs=>obtain ⟨z,y,vs,r,ob,es,ep,e,c⟩:=x;exact ⟨z,y,vs,r,ob,es,ep,k _ _ (.inl rfl) e,c⟩
 | dT kvs =>
  obtain ⟨z,y,xs,r,ob,es,ep,e,c⟩:=x
  exact ⟨z,y,xs,Paired.mapP r λp q z=>⟨z.1,ht _ _ z.2.1,z.2.2⟩,ob,es,ep,k _ _ (.inl rfl) e,c⟩
 | set S n=>obtain ⟨ob,es,ep,t,e,c⟩:=x;exact ⟨ob,es,ep,t,k _ _ (.inl rfl) e,c⟩
 | ins C dx fs =>
  obtain ⟨d,z,ne,e,mA,⟨od,es,ep,e2,c⟩,r⟩:=x
  exact ⟨ho _ d,z,ne,k _ _ (.inl rfl) e,mA,⟨od,es,ep,k _ _ (.inr d) e2,c⟩,r⟩
 | own y=>obtain ⟨ob,e⟩:=x;exact ⟨ob,k _ _ (.inl rfl) e⟩
 | xd fs=>obtain ⟨mA,⟨od,es,ep,e,c⟩,r⟩:=x;exact ⟨mA,⟨od,es,ep,k _ _ (.inl rfl) e,c⟩,r⟩
 | rng lo hi=>obtain ⟨t,u,v,e⟩:=x;exact ⟨t,u,v,k _ _ (.inl rfl) e⟩
 | frz ob u ih=>obtain ⟨e,q⟩:=x;exact ⟨k _ _ (.inl rfl) e,ih q⟩
 | tbl ps =>
  have e:h.get? a = some { cls:=.none,data:=.fields ps }:=x
  show h'.get? a = some { cls:=.none,data:=.fields ps }
  exact k a _ (.inl rfl) e
 | met f y =>
  have e:h.get? a = some (PySem.W.methodObj (.ref f) (.ref y)):=x
  show h'.get? a = some (PySem.W.methodObj (.ref f) (.ref y))
  exact k a _ (.inl rfl) e
 | ext φ=>obtain ⟨p,⟨o,e⟩,st⟩:=x;exact ⟨st _ _ p λo q=>k _ _ (.inl rfl) q,⟨o,k _ _ (.inl rfl) e⟩,st⟩
theorem rP.lt (x:rP P w H h) (e:H a = some o):a < h.objs.size:=(x a o e).lt
theorem rP.fresh (x:rP P w H h) (e:h.objs.size <= a):H a = none:=by
 cases q:H a with
 | none=>rfl
 | some u=>exact absurd (a0z (x.lt q) e) (a5t _)
theorem rP.kept (x:rP P w H h) (k:∀ b u,h.get? b = some u -> h'.get? b = some u):rP P w H h':=λa o e =>
 (x a o e).stay (λb u _ q=>k b u q) (λ_ q=>q) λ_ _ q=>q
theorem rP.laid (x:rP P w H h) (k:∀ b u,h.get? b = some u -> h'.get? b = some u) (hp:h.objs.size <= a) (new:eV P w (c7 H a o) h' a o):rP P w (c7 H a o) h':=λb u e=>by
 have hn:=x.fresh hp
 by_cases hb:b = a
 ·subst hb;rw [bK] at e;cases e;exact new
 ·rw [aG hb] at e
  exact (x b u e).stay (λc v _ q=>k c v q) (λc q=>by rw [aG (eY q hn)];exact q) λc xs q=>by rw [aG (eY q hn)];exact q
end
def Rd (H:Hp) (a:Addr) (u:HO):Prop:=H a = some u \/ ∃ o,H a = some (.frz o u)
theorem Rd.ok {P:Program} {w:World} {H:Hp} {h:Heap} {a:Addr} {u:HO} (r:Rd H a u) (x:rP P w H h):eV P w H h a u:=by
 rcases r with r | ⟨o,r⟩
 ·exact x a u r
 ·obtain ⟨_,q⟩:=x a _ r
  exact q
def a1W:Option HO -> Prop
 | some (.lst _)=>True
 | some (.dK _)=>True
 | some (.dT _)=>True
 | some (.set _ _)=>True
 | some (.ins _ _ _)=>True
 | some (.ext _)=>True
 | _=>False
section
variable {P:Program} {w:World} {H:Hp} {h h':Heap} {x e:Addr} {o':HO}
theorem rP.write (ok:rP P w H h) (mu:a1W (H x)) (he:e = x \/ H e = some (.own x)) (k:∀ b u,b ≠ e -> h.get? b = some u -> h'.get? b = some u) (heo:∃ u,h'.get? e = some u)
  (new:eV P w (c7 H x o') h' x o'):rP P w (c7 H x o') h':=λb u q=>by
 have nown:∀ c y,H c = some (.own y) -> c ≠ x:=λc y r z=>by subst z;rw [r] at mu;exact mu
 have ntup:∀ c xs,H c = some (.tup xs) -> c ≠ x:=λc xs r z=>by subst z;rw [r] at mu;exact mu
 by_cases hb:b = x
 ·subst hb;rw [bK] at q;cases q;exact new
 ·rw [aG hb] at q
  by_cases hbe:b = e
  ·have q':H b = some (.own x):=by
    rcases he with z | z
    ·exact absurd (hbe.trans z) hb
    ·rw [hbe];exact z
   rw [q] at q';cases q'
   obtain ⟨v,hv⟩:=heo
   exact ⟨v,by rw [hbe];exact hv⟩
  ·refine (ok b u q).stay (λc v hc r=>k c v ?_ r) (λc r=>by rw [aG (nown c b r)];exact r) λc xs r=>by rw [aG (ntup c xs r)];exact r
   rcases hc with rfl | hc
   ·exact hbe
   ·rintro rfl
    rcases he with z | z
    ·exact nown c b hc z
    ·rw [hc] at z;cases z;exact hb rfl
end
structure Un (fs ex:List Addr) (H H':Hp) (h h':Heap):Prop where
 keep:∀ b o,h.get? b = some o -> H b = none -> b ∉ fs -> b ∉ ex -> h'.get? b = some o
 slot:∀ b o,h.get? b = some o -> H b = none -> b ∈ fs -> b ∉ ex -> ∃ sl,h'.get? b = some { o with slots:=sl }
 free:∀ b o,h.get? b = some o -> H b = none -> b ∉ ex -> H' b = none
 there:∀ b o,h.get? b = some o -> b ∉ ex -> ∃ o',h'.get? b = some o'
 tups:∀ b xs,H b = some (.tup xs) -> H' b = some (.tup xs)
 frzs:∀ b o u,H b = some (.frz o u) -> H' b = some (.frz o u)
 tbls:∀ b ps,H b = some (.tbl ps) -> ∃ more,H' b = some (.tbl (ps ++ more))
section
variable {fs fs' ex ex':List Addr} {H H1 H2:Hp} {h h1 h2 h':Heap} {a x e:Addr} {o:HO}
theorem Un.any (u:Un fs ex H H1 h h1) {b:Addr} {ob:Obj} (q:h.get? b = some ob) (n:H b = none) (hx:b ∉ ex):∃ sl,h1.get? b = some { ob with slots:=sl }:=by
 by_cases hb:b ∈ fs
 ·exact u.slot b ob q n hb hx
 ·exact ⟨ob.slots,u.keep b ob q n hb hx⟩
theorem Un.kept (k:∀ b u,h.get? b = some u -> h'.get? b = some u):Un fs ex H H h h' :=
 ⟨λb ob q _ _ _=>k b ob q,λb ob q _ _ _=>⟨ob.slots,k b ob q⟩,λ_ _ _ n _=>n,λb ob q _=>⟨ob,k b ob q⟩,λ_ _ q=>q,λ_ _ _ q=>q,λ_ ps q=>⟨#[],by rw [q];simp⟩⟩
theorem Un.refl:Un fs ex H H h h:=Un.kept λ_ _ q=>q
theorem Un.laid (k:∀ b u,h.get? b = some u -> h'.get? b = some u) (hp:h.objs.size <= a) (hn:H a = none):Un fs ex H (c7 H a o) h h' where
 keep:=λb u q _ _ _=>k b u q
 slot:=λb u q _ _ _=>⟨u.slots,k b u q⟩
 free:=λb u q n _=>by rw [aG (a0r (a0z (a0m q) hp))];exact n
 there:=λb u q _=>⟨u,k b u q⟩
 tups:=λb xs q=>by rw [aG (eY q hn)];exact q
 frzs:=λb u xs q=>by rw [aG (eY q hn)];exact q
 tbls:=λb ps q=>⟨#[],by rw [aG (eY q hn),q];simp⟩
theorem Un.write (mu:a1W (H x)) (he:e = x \/ H e = some (.own x)) (k:∀ b u,b ≠ e -> h.get? b = some u -> h'.get? b = some u) (heo:∃ u,h'.get? e = some u):Un fs ex H (c7 H x o) h h':=by
 have hx:∀ b,H b = none -> b ≠ x:=λb n z=>by subst z;rw [n] at mu;exact mu
 have hb:∀ b,H b = none -> b ≠ e:=λb n z=>by
  subst z
  rcases he with r | r
  ·exact hx b n r
  ·rw [n] at r;cases r
 have hm:∀ b u,H b = some u -> ¬ a1W (some u) -> b ≠ x:=λb u q nm z=>by subst z;rw [q] at mu;exact nm mu
 refine ⟨λb u q n _ _=>k b u (hb b n) q,λb u q n _ _=>⟨u.slots,k b u (hb b n) q⟩,λb u q n _=>by rw [aG (hx b n)];exact n,λb u q _=>?_,
  λb xs q=>by rw [aG (hm b _ q λz=>z)];exact q,λb u xs q=>by rw [aG (hm b _ q λz=>z)];exact q,λb ps q=>⟨#[],by rw [aG (hm b _ q λz=>z),q];simp⟩⟩
 by_cases hbe:b = e
 ·subst hbe;exact heo
 ·exact ⟨u,k b u hbe q⟩
end
def a4B (h:Heap) (H:Hp):List Addr:=(List.range h.objs.size).filter λa=>(H a).isSome
def DL (h:Heap) (H:Hp):Heap:=PySem.W.hideAll h (a4B h H)
theorem N6 (h:Heap) (H:Hp):(DL h H).objs.size = h.objs.size:=PySem.W.hideAll_size _ _
theorem Q3 {h:Heap} {H:Hp} {b:Addr} {o:Obj} (e:h.get? b = some o) (n:H b = none):(DL h H).get? b = some o :=
 PySem.W.hideAll_get _ e λhm=>by
  have q:(H b).isSome = true:=(a2e.mp hm).2
  rw [n] at q;simp at q
theorem V3 {h:Heap} {H:Hp} {b:Addr} {o:Obj} (e:(DL h H).get? b = some o):h.get? b = some o /\ H b = none:=by
 have e':h.get? b = some o:=PySem.W.of_hideAll (a4B h H) e
 refine ⟨e',?_⟩
 cases q:H b with
 | none=>rfl
 | some x =>
  have hm:b ∈ a4B h H:=a2e.mpr ⟨a1l.mpr (a0m e'),by simp [q]⟩
  have z:(DL h H).get? b = none:=PySem.W.hideAll_none (a4B h H) hm
  rw [z] at e;cases e
structure Mod (K:PySem.W.Frag) (mg:Str -> Option Value) (base:Heap):Prop where
 kin:K.In base
 glob:base.Ns mainGlobals mg
 blt:∃ mb,base.Ns builtinsNs mb /\ ∀ x:Str,x ≠ "__name__" -> mb x = bootBuiltins x
 nolimit:base.NoLimit
structure Cx where
 prog:Program
 w:World
 K:PySem.W.Frag
 mg:Str -> Option Value
 base:Heap
 A:Around
 N:List Str
 s₀:Shared
 H₀:Hp
 env:Env
 outer:List Env
 stack:List Env
 ex:List Addr
 fn:Str -> Bool
 calm:Bool
 pn:List (Addr × Obj)
 xe:Value -> Shared -> Prop
def PY (l:List Env):List Addr:=l.filterMap (·.frame)
abbrev Cx.fs (X:Cx):List Addr:=PY X.outer
def a4K (sc:Scope) (x:Str):Prop:=sc.names.lookup x = some .local \/ sc.names.lookup x = some .cell \/ sc.names.lookup x = some .free
def O6 (sc:Scope) (x:Str):Prop:=sc.names.lookup x = some .local \/ sc.names.lookup x = some .cell
def a4H (env:Env) (h:Heap) (m:Str -> Option Value) (x:Str) (u:Value):Prop :=
 (env.kindOf x = some .local /\ m x = some u) \/ ((env.kindOf x = some .cell \/ env.kindOf x = some .free) /\ ∃ c,env.cells.lookup x = some c /\ h.IsCell c (some u))
structure Cx.Ok (X:Cx):Prop where
 mod:Mod X.K X.mg X.base
 kind:X.env.scope.kind = .function
 glob:X.env.globals = mainGlobals
 blt:X.env.builtins = builtinsNs
 above:X.s₀.heap.objs.size <= X.env.locals
 inj:∀ x y c,X.env.cells.lookup x = some c -> X.env.cells.lookup y = some c -> x = y
 has:∀ x,(X.env.kindOf x = some .cell \/ X.env.kindOf x = some .free) -> ∃ c,X.env.cells.lookup x = some c
 cab:∀ x c,X.fn x = true -> X.env.cells.lookup x = some c -> X.s₀.heap.objs.size <= c
 hd:X.calm = true -> X.A.handled = none
 frames:X.A.frames = some X.stack
 stk:X.stack = X.outer \/ (X.stack = X.env :: X.outer /\ X.env.frame = some X.env.locals)
 exf:∀ b ∈ X.ex,b ≠ X.env.locals /\ ∀ x c,X.env.cells.lookup x = some c -> c ≠ b
 bs:∀ b o,X.base.get? b = some o -> X.s₀.heap.get? b = some o /\ X.H₀ b = none
 bsz:X.base.objs.size <= X.s₀.heap.objs.size
 noex:∀ b o,X.base.get? b = some o -> b ∉ X.ex
 exfs:∀ b ∈ X.ex,b ∉ X.fs
 funs:X.s₀.heap.FunFrames X.base X.outer
 frf:∀ b ∈ X.fs,X.H₀ b = none
structure Inv (X:Cx) (pins:List (Addr × Obj)) (σ:List (Option V)) (H:Hp) (s:Shared):Prop where
 ok:X.Ok
 os:s.os = X.s₀.os
 bare:AllBare s.gens
 base:Un X.fs X.ex X.H₀ H X.s₀.heap s.heap
 loc:∃ m,s.heap.Ns X.env.locals m /\ ∀ (i:Nat) (x:Str) (v:V),X.N[i]? = some x -> σ[i]? = some (some v) -> a4K X.env.scope x -> ∃ u,bR v u /\ a4H X.env s.heap m x u
 cell:∀ x c,X.env.cells.lookup x = some c -> ∃ v,s.heap.IsCell c v
 free:H X.env.locals = none
 freeC:∀ x c,X.env.cells.lookup x = some c -> H c = none
 pin:∀ p ∈ X.pn ++ pins,s.heap.get? p.1 = some p.2 /\ H p.1 = none /\ p.1 ≠ X.env.locals /\ p.1 ∉ X.fs /\ ∀ v,p.2.data ≠ .cell v
 hok:rP X.prog X.w H s.heap
 len:σ.length = X.N.length
section
variable {X:Cx} {pins:List (Addr × Obj)} {σ:List (Option V)} {H H':Hp} {s:Shared} {h':Heap}
theorem Cx.Ok.nofr (ok:X.Ok) {b:Addr} {o:Obj} (e:X.base.get? b = some o):b ∉ X.fs:=λhb=>by
 have:=(ok.funs.mem hb).1
 rw [e] at this;cases this
theorem Inv.bs (I:Inv X pins σ H s):∀ b o,X.base.get? b = some o -> s.heap.get? b = some o /\ H b = none:=λb o e =>
 ⟨I.base.keep b o (I.ok.bs b o e).1 (I.ok.bs b o e).2 (I.ok.nofr e) (I.ok.noex b o e),I.base.free b o (I.ok.bs b o e).1 (I.ok.bs b o e).2 (I.ok.noex b o e)⟩
theorem Inv.bk (I:Inv X pins σ H s):∀ b o,X.base.get? b = some o -> s.heap.get? b = some o:=λb o e=>(I.bs b o e).1
theorem Inv.mod (I:Inv X pins σ H s):Mod X.K X.mg X.base:=I.ok.mod
theorem Inv.kIn (I:Inv X pins σ H s):X.K.In s.heap:=I.ok.mod.kin.keeps I.bk
theorem Inv.lt (I:Inv X pins σ H s):X.env.locals < s.heap.objs.size:=let ⟨_,hn,_⟩:=I.loc;hn.lt
theorem Inv.sz (I:Inv X pins σ H s):X.s₀.heap.objs.size <= s.heap.objs.size:=a1b I.ok.above (a2t I.lt)
theorem Inv.nofs (I:Inv X pins σ H s) {a:Addr} (h:s.heap.objs.size <= a):a ∉ X.fs:=λhb=>by
 obtain ⟨_,o,ho,_⟩:=I.ok.funs.mem hb
 exact absurd (a0z (a0m ho) (a1b I.sz h)) (a5t _)
theorem Inv.cne (I:Inv X pins σ H s):∀ x c,X.env.cells.lookup x = some c -> c ≠ X.env.locals:=λx c e z=>by
 obtain ⟨v,o,ho,hd⟩:=I.cell x c e
 obtain ⟨m,⟨o',es,ep,ho',hd',_⟩,_⟩:=I.loc
 rw [z,ho'] at ho;cases ho;rw [hd'] at hd;cases hd
theorem Inv.funs (I:Inv X pins σ H s):s.heap.FunFrames X.base X.outer:=by
 have all:∀ (l:List Env),(∀ b ∈ PY l,b ∈ X.fs) -> X.s₀.heap.FunFrames X.base l -> s.heap.FunFrames X.base l:=by
  intro l
  induction l with
  | nil=>intro _ _;trivial
  | cons env r ih =>
   intro hs hl
   obtain ⟨hk,⟨L,o,hf,hn,ho,hd⟩,hr⟩:=hl
   have hL:L ∈ X.fs:=hs L (by unfold PY;rw [a1h,hf];exact a0n)
   obtain ⟨sl,e⟩:=I.base.slot L o ho (I.ok.frf L hL) hL λz=>I.ok.exfs L z hL
   exact ⟨hk,⟨L,_,hf,hn,e,hd⟩,ih (λb hb=>hs b (by unfold PY;rw [a1h,hf];exact a0i _ hb)) hr⟩
 exact all X.outer (λ_ hb=>hb) I.ok.funs
theorem Inv.stack (I:Inv X pins σ H s):s.heap.FunFrames X.base X.stack:=by
 rcases I.ok.stk with e | ⟨e,hf⟩
 ·rw [e];exact I.funs
 ·rw [e]
  obtain ⟨m,hn,_⟩:=I.loc
  refine .cons (by rw [I.ok.kind];decide) hf hn ?_ I.funs
  exact Heap.get?_none_of_le (a1b I.ok.bsz I.ok.above)
theorem Inv.stkSub (I:Inv X pins σ H s):∀ b ∈ PY X.stack,b ∈ X.env.locals :: X.fs:=λb hb=>by
 rcases I.ok.stk with e | ⟨e,hf⟩
 ·rw [e] at hb;exact a0i _ hb
 ·rw [e] at hb
  unfold PY at hb
  rw [a1h,hf] at hb
  exact hb
theorem Inv.stkFree (I:Inv X pins σ H s):∀ b ∈ PY X.stack,H b = none:=λb hb=>by
 rcases a0q.mp (I.stkSub b hb) with e | hb
 ·rw [e];exact I.free
 ·obtain ⟨_,o,ho,_⟩:=I.ok.funs.mem hb
  exact I.base.free b o ho (I.ok.frf b hb) λz=>I.ok.exfs b z hb
theorem Inv.step {g':Array GenState} {t':Nat} {d':Drawn} {ch:List Addr} (I:Inv X pins σ H s)
  (hch:∀ b ∈ ch,(b ∈ X.ex \/ X.s₀.heap.objs.size <= b) /\ b ≠ X.env.locals /\ (∀ x c,X.env.cells.lookup x = some c -> c ≠ b) /\ ∀ p ∈ X.pn ++ pins,p.1 ≠ b)
  (keep:∀ b o,b ≠ X.env.locals -> b ∉ X.fs -> b ∉ ch -> s.heap.get? b = some o -> H b = none -> h'.get? b = some o)
  (slot:∀ b o,b ≠ X.env.locals -> b ∈ X.fs -> b ∉ ch -> s.heap.get? b = some o -> H b = none -> ∃ sl,h'.get? b = some { o with slots:=sl }) (free:∀ b o,b ∉ ch -> s.heap.get? b = some o -> H b = none -> H' b = none)
  (there:∀ b o,b ∉ ch -> s.heap.get? b = some o -> ∃ o',h'.get? b = some o')
  (tups:∀ b xs,H b = some (.tup xs) -> H' b = some (.tup xs)) (frzs:∀ b o u,H b = some (.frz o u) -> H' b = some (.frz o u)) (tbls:∀ b ps,H b = some (.tbl ps) -> ∃ more,H' b = some (.tbl (ps ++ more)))
  (ns:∀ m,s.heap.Ns X.env.locals m -> h'.Ns X.env.locals m) (hok:rP X.prog X.w H' h') (hg:AllBare g') :
  Inv X pins σ H' { s with heap:=h',gens:=g',drawn:=d',toks:=t' }:=by
 have neL:∀ b o,X.s₀.heap.get? b = some o -> b ≠ X.env.locals:=λb o e=>a0r (a0z (a0m e) I.ok.above)
 have neC:∀ b o,X.s₀.heap.get? b = some o -> b ∉ X.ex -> b ∉ ch:=λb o e hx hb=>by
  rcases (hch b hb).1 with z | z
  ·exact hx z
  ·exact absurd (a0z (a0m e) z) (a5t _)
 have cellK:∀ x c,X.env.cells.lookup x = some c -> ∀ v,s.heap.IsCell c v -> h'.IsCell c v:=λx c e v ⟨o,ho,hd⟩=>by
  have nch:c ∉ ch:=λz=>(hch c z).2.2.1 x c e rfl
  by_cases hc:c ∈ X.fs
  ·obtain ⟨sl,q⟩:=slot c o (I.cne x c e) hc nch ho (I.freeC x c e)
   exact ⟨_,q,hd⟩
  ·exact ⟨o,keep c o (I.cne x c e) hc nch ho (I.freeC x c e),hd⟩
 refine ⟨I.ok,I.os,hg,⟨λb o e n hb hx=>?_,λb o e n hb hx=>?_,λb o e n hx=>?_,λb o e hx=>?_,λb xs e=>tups b xs (I.base.tups b xs e),λb o xs e=>frzs b o xs (I.base.frzs b o xs e),λb ps e=>?_⟩,?_,λx c e=>?_,?_,λx c e=>?_,λp hp=>?_,hok,I.len⟩
 ·exact keep b o (neL b o e) hb (neC b o e hx) (I.base.keep b o e n hb hx) (I.base.free b o e n hx)
 ·obtain ⟨sl,e1⟩:=I.base.slot b o e n hb hx
  obtain ⟨sl',e2⟩:=slot b _ (neL b o e) hb (neC b o e hx) e1 (I.base.free b o e n hx)
  exact ⟨sl',e2⟩
 ·obtain ⟨o',e1⟩:=I.base.there b o e hx
  exact free b o' (neC b o e hx) e1 (I.base.free b o e n hx)
 ·obtain ⟨o',e1⟩:=I.base.there b o e hx
  exact there b o' (neC b o e hx) e1
 ·obtain ⟨m1,e1⟩:=I.base.tbls b ps e
  obtain ⟨m2,e2⟩:=tbls b _ e1
  exact ⟨m1 ++ m2,by rw [e2,Array.append_assoc]⟩
 ·obtain ⟨m,hn,hl⟩:=I.loc
  refine ⟨m,ns m hn,λi x v e1 e2 e3=>?_⟩
  obtain ⟨u,r,l⟩:=hl i x v e1 e2 e3
  refine ⟨u,r,?_⟩
  rcases l with l | ⟨k,c,e,z⟩
  ·exact .inl l
  ·exact .inr ⟨k,c,e,cellK x c e _ z⟩
 ·obtain ⟨v,z⟩:=I.cell x c e
  exact ⟨v,cellK x c e v z⟩
 ·obtain ⟨m,⟨o,_,_,ho,_⟩,_⟩:=I.loc
  exact free _ o (λz=>(hch _ z).2.1 rfl) ho I.free
 ·obtain ⟨v,o,ho,hd⟩:=I.cell x c e
  exact free c o (λz=>(hch c z).2.2.1 x c e rfl) ho (I.freeC x c e)
 ·obtain ⟨e,n,ne,nf,d⟩:=I.pin p hp
  have nch:p.1 ∉ ch:=λz=>(hch p.1 z).2.2.2 p hp rfl
  exact ⟨keep p.1 p.2 ne nf nch e n,free p.1 p.2 nch e n,ne,nf,d⟩
theorem Inv.un {t':Nat} (I:Inv X pins σ H s) (u:Un X.fs [] H H' s.heap h') (hok:rP X.prog X.w H' h'):Inv X pins σ H' { s with heap:=h',toks:=t' }:=by
 obtain ⟨m,⟨o,es,ep,ho,r⟩,_⟩:=id I.loc
 obtain ⟨sl,hL⟩:=u.any ho I.free (by simp)
 exact I.step (g':=s.gens) (d':=s.drawn) (ch:=[]) (λ_ z=>nomatch z) (λb o _ hb _ e n=>u.keep b o e n hb (by simp)) (λb o _ hb _ e n=>u.slot b o e n hb (by simp)) (λb o _ e n=>u.free b o e n (by simp)) (λb o _ e=>u.there b o e (by simp)) u.tups u.frzs u.tbls (λm' hm=>by
  obtain ⟨o',es',ep',ho',r'⟩:=hm
  rw [ho] at ho';cases ho'
  exact ⟨_,es',ep',hL,r'⟩) hok I.bare
theorem Inv.call {g':Array GenState} {t':Nat} {d':Drawn} {ch:List Addr} (I:Inv X pins σ H s) (u:Un (PY X.stack) ch H H' s.heap h') (hok:rP X.prog X.w H' h') (hg:AllBare g')
  (hch:∀ b ∈ ch,(b ∈ X.ex \/ X.s₀.heap.objs.size <= b) /\ b ≠ X.env.locals /\ (∀ x c,X.env.cells.lookup x = some c -> c ≠ b) /\ ∀ p ∈ X.pn ++ pins,p.1 ≠ b) :
  Inv X pins σ H' { s with heap:=h',gens:=g',drawn:=d',toks:=t' }:=by
 obtain ⟨m,⟨o,es,ep,ho,r⟩,_⟩:=id I.loc
 obtain ⟨sl,hL⟩:=u.any ho I.free λz=>(hch _ z).2.1 rfl
 exact I.step (ch:=ch) hch (λb o hL hb hc e n=>u.keep b o e n (λz=>(a0q.mp (I.stkSub b z)).elim hL hb) hc) (λb o _ _ hc e n=>u.any e n hc) (λb o hc e n=>u.free b o e n hc) (λb o hc e=>u.there b o e hc) u.tups u.frzs u.tbls (λm' hm=>by
  obtain ⟨o',es',ep',ho',r'⟩:=hm
  rw [ho] at ho';cases ho'
  exact ⟨_,es',ep',hL,r'⟩) hok hg
theorem Inv.turned {t':Nat} {it:Addr} (I:Inv X pins σ H s) (k:∀ b o,b ≠ it -> s.heap.get? b = some o -> h'.get? b = some o) (hn:H it = none) (hL:it ≠ X.env.locals)
  (h1:it ∈ X.ex \/ X.s₀.heap.objs.size <= it) (h2:∀ x c,X.env.cells.lookup x = some c -> c ≠ it) (h3:∀ p ∈ X.pn ++ pins,p.1 ≠ it):Inv X pins σ H { s with heap:=h',toks:=t' }:=by
 have nit:∀ b u,H b = some u -> b ≠ it:=λb u e z=>by rw [z,hn] at e;cases e
 refine I.step (g':=s.gens) (d':=s.drawn) (ch:=[it]) (λb hb=>?_) (λb o _ _ hc e _=>k b o (λz=>hc (by simp [z])) e) (λb o _ _ hc e _=>⟨o.slots,k b o (λz=>hc (by simp [z])) e⟩) (λ_ _ _ _ n=>n)
  (λb o hc e=>⟨o,k b o (λz=>hc (by simp [z])) e⟩) (λ_ _ e=>e) (λ_ _ _ e=>e) (λb ps e=>⟨#[],by rw [e];simp⟩) (λm hm=>?_) (λb u e=>?_) I.bare
 ·have e:b = it:=by simpa using hb
  subst e
  exact ⟨h1,hL,h2,h3⟩
 ·obtain ⟨o,es,ep,ho,r⟩:=hm
  exact ⟨o,es,ep,k _ o (a2d hL) ho,r⟩
 ·refine (I.hok b u e).stay (λc v hc q=>k c v ?_ q) (λ_ q=>q) λ_ _ q=>q
  rcases hc with z | z
  ·rw [z];exact nit b u e
  ·exact nit c _ z
theorem Inv.tok (I:Inv X pins σ H s) (t:Nat):Inv X pins σ H { s with toks:=t }:=I.un (h':=s.heap) (t':=t) Un.refl I.hok
theorem Inv.kept {t':Nat} (I:Inv X pins σ H s) (k:∀ b u,s.heap.get? b = some u -> h'.get? b = some u):Inv X pins σ H { s with heap:=h',toks:=t' }:=I.un (Un.kept k) (I.hok.kept k)
theorem Inv.laid {a:Addr} {o:HO} {t':Nat} (I:Inv X pins σ H s) (k:∀ b u,s.heap.get? b = some u -> h'.get? b = some u) (hp:s.heap.objs.size <= a) (new:eV X.prog X.w (c7 H a o) h' a o) :
  Inv X pins σ (c7 H a o) { s with heap:=h',toks:=t' }:=I.un (Un.laid k hp (I.hok.fresh hp)) (I.hok.laid k hp new)
theorem Inv.write {x e:Addr} {o:HO} {t':Nat} (I:Inv X pins σ H s) (mu:a1W (H x)) (he:e = x \/ H e = some (.own x)) (k:∀ b u,b ≠ e -> s.heap.get? b = some u -> h'.get? b = some u) (heo:∃ u,h'.get? e = some u)
  (new:eV X.prog X.w (c7 H x o) h' x o):Inv X pins σ (c7 H x o) { s with heap:=h',toks:=t' }:=I.un (Un.write mu he k heo) (I.hok.write mu he k heo new)
theorem Inv.pins_of {pins':List (Addr × Obj)} (I:Inv X pins σ H s) (h:∀ p ∈ pins',s.heap.get? p.1 = some p.2 /\ H p.1 = none /\ p.1 ≠ X.env.locals /\ p.1 ∉ X.fs /\ ∀ v,p.2.data ≠ .cell v):Inv X pins' σ H s :=
 ⟨I.ok,I.os,I.bare,I.base,I.loc,I.cell,I.free,I.freeC,λp hp=>(a1g.mp hp).elim (λz=>I.pin p (a2r _ z)) (h p),I.hok,I.len⟩
theorem GN {N:List Str} (hN:N.Nodup) {i j:Nat} {x:Str} (a:N[i]? = some x) (b:N[j]? = some x):i = j:=by
 obtain ⟨h1,e1⟩:=a0k.mp a
 obtain ⟨h2,e2⟩:=a0k.mp b
 exact (List.getElem_inj hN).mp (e1.trans e2.symm)
theorem NZ {M:Model} {A:Around} {E:Value -> Shared -> Prop} {i:Nat} {x:Str} {v:V} {u:Value} {Q:Unit -> Shared -> Prop} (I:Inv X pins σ H s) (hN:X.N.Nodup) (hi:X.N[i]? = some x) (hx:O6 X.env.scope x) (r:bR v u)
  (h:∀ s',Inv X pins (σ.set i (some v)) H s' -> (∃ a,Heap.SameBut a s.heap s'.heap /\ (a = X.env.locals \/ X.env.cells.lookup x = some a)) -> Q () s') (hf:X.fn x = true \/ X.env.scope.names.lookup x = some .local:=by first | exact .inl rfl | exact .inr rfl | assumption):wpAny M A (storeName X.env x u) Q E s:=by
 obtain ⟨m,hn,hl⟩:=id I.loc
 have hcls:(X.env.scope.kind == .class || (X.env.scope.kind == .module && X.env.locals != X.env.globals)) = false:=by rw [I.ok.kind];rfl
 have hiσ:i < σ.length:=by rw [I.len];exact (a0k.mp hi).1
 have cne:=I.cne
 have tracked:∀ {a:Addr} {h':Heap},(∃ o,s.heap.get? a = some o /\ H a = none) -> Heap.SameBut a s.heap h' -> rP X.prog X.w H h':=fun {a h'} ha hs b ob e=>by
  obtain ⟨_,_,hfree⟩:=ha
  refine (I.hok b ob e).stay (λc w' hc q=>(hs.2 c ?_).trans q) (λ_ q=>q) λ_ _ q=>q
  rintro rfl
  rcases hc with rfl | hc
  ·rw [hfree] at e;cases e
  ·rw [hfree] at hc;cases hc
 rcases hx with hk | hk
 ·refine wpAny_storeName_local hk hn (λh' hn' hs=>?_) hcls
  obtain ⟨oL,_,_,hoL,_⟩:=id hn
  refine h _ ⟨I.ok,I.os,I.bare,⟨λb o e n hb hx=>?_,λb o e n hb hx=>?_,I.base.free,λb o e hx=>?_,I.base.tups,I.base.frzs,I.base.tbls⟩,⟨_,hn',λj y v' e1 e2 e3=>?_⟩,λy c e=>?_,I.free,I.freeC,λp hp=>?_,tracked ⟨oL,hoL,I.free⟩ hs,by simpa using I.len⟩ ⟨_,hs,.inl rfl⟩
  ·exact (hs.2 b (a0r (a0z (a0m e) I.ok.above))).trans (I.base.keep b o e n hb hx)
  ·obtain ⟨sl,e1⟩:=I.base.slot b o e n hb hx
   exact ⟨sl,(hs.2 b (a0r (a0z (a0m e) I.ok.above))).trans e1⟩
  ·obtain ⟨o',e1⟩:=I.base.there b o e hx
   exact ⟨o',(hs.2 b (a0r (a0z (a0m e) I.ok.above))).trans e1⟩
  ·by_cases hj:j = i
   ·subst hj
    rw [hi] at e1;cases e1
    rw [List.getElem?_set_self hiσ] at e2
    cases e2
    exact ⟨u,r,.inl ⟨hk,by simp⟩⟩
   ·rw [List.getElem?_set_ne (a2d hj)] at e2
    obtain ⟨u',r',q⟩:=hl j y v' e1 e2 e3
    refine ⟨u',r',?_⟩
    rcases q with ⟨k,e⟩ | ⟨k,c,e,z⟩
    ·refine .inl ⟨k,?_⟩
     have:y ≠ x:=λe=>hj (GN hN e1 (e ▸ hi))
     simp [this,e]
    ·exact .inr ⟨k,c,e,z.sameBut hs (cne y c e)⟩
  ·obtain ⟨w',z⟩:=I.cell y c e
   exact ⟨w',z.sameBut hs (cne y c e)⟩
  ·obtain ⟨e,n,ne,nf,d⟩:=I.pin p hp
   exact ⟨(hs.2 p.1 ne).trans e,n,ne,nf,d⟩
 ·have hfn:X.fn x = true:=by
   rcases hf with z | z
   ·exact z
   ·rw [z] at hk;cases hk
  obtain ⟨c,hc⟩:=I.ok.has x (.inl hk)
  obtain ⟨w',z⟩:=I.cell x c hc
  refine wpAny_storeName_cell I.ok.kind hk hc z (λh' hc' hs=>?_)
  obtain ⟨oc,hoc,hocd⟩:=id z
  refine h { s with heap:=h' } ⟨I.ok,I.os,I.bare,⟨λb o e n hb hx=>?_,λb o e n hb hx=>?_,I.base.free,λb o e hx=>?_,I.base.tups,I.base.frzs,I.base.tbls⟩,⟨m,hn.sameBut hs (a2d (cne x c hc)),λj y v' e1 e2 e3=>?_⟩,λy c' e=>?_,I.free,I.freeC,λp hp=>?_,tracked ⟨oc,hoc,I.freeC x c hc⟩ hs,by simpa using I.len⟩ ⟨c,hs,.inr hc⟩
  ·exact (hs.2 b (a0r (a0z (a0m e) (I.ok.cab x c hfn hc)))).trans (I.base.keep b o e n hb hx)
  ·obtain ⟨sl,e1⟩:=I.base.slot b o e n hb hx
   exact ⟨sl,(hs.2 b (a0r (a0z (a0m e) (I.ok.cab x c hfn hc)))).trans e1⟩
  ·obtain ⟨o',e1⟩:=I.base.there b o e hx
   exact ⟨o',(hs.2 b (a0r (a0z (a0m e) (I.ok.cab x c hfn hc)))).trans e1⟩
  ·by_cases hj:j = i
   ·subst hj
    rw [hi] at e1;cases e1
    rw [List.getElem?_set_self hiσ] at e2
    cases e2
    exact ⟨u,r,.inr ⟨.inl hk,c,hc,hc'⟩⟩
   ·rw [List.getElem?_set_ne (a2d hj)] at e2
    obtain ⟨u',r',q⟩:=hl j y v' e1 e2 e3
    refine ⟨u',r',?_⟩
    rcases q with q | ⟨k,c',e,z'⟩
    ·exact .inl q
    ·refine .inr ⟨k,c',e,z'.sameBut hs ?_⟩
     rintro rfl
     exact hj (GN hN e1 (I.ok.inj _ _ _ e hc ▸ hi))
  ·by_cases hcc:c' = c
   ·subst hcc;exact ⟨_,hc'⟩
   ·obtain ⟨w2,z2⟩:=I.cell y c' e
    exact ⟨w2,z2.sameBut hs hcc⟩
  ·obtain ⟨e,n,ne,nf,d⟩:=I.pin p hp
   refine ⟨(hs.2 p.1 ?_).trans e,n,ne,nf,d⟩
   intro q
   rw [q,hoc] at e
   have q':oc = p.2:=a1i e
   exact d w' (by rw [<- q'];exact hocd)
theorem vE {M:Model} {A:Around} {E:Value -> Shared -> Prop} {i:Nat} {x:Str} {v:V} {u:Value} {Q:Unit -> Shared -> Prop} (I:Inv X pins σ H s) (hN:X.N.Nodup) (hi:X.N[i]? = some x) (hx:O6 X.env.scope x) (r:bR v u)
  (h:∀ s',Inv X pins (σ.set i (some v)) H s' -> Q () s') (hf:X.fn x = true \/ X.env.scope.names.lookup x = some .local:=by first | exact .inl rfl | exact .inr rfl | assumption):wpAny M A (storeName X.env x u) Q E s :=
 NZ I hN hi hx r (λs' I' _=>h s' I') hf
theorem Inv.call' {s':Shared} {ch:List Addr} (I:Inv X pins σ H s) (ho:s'.os = s.os) (u:Un (PY X.stack) ch H H' s.heap s'.heap) (hok:rP X.prog X.w H' s'.heap) (hg:AllBare s'.gens)
  (hch:∀ b ∈ ch,(b ∈ X.ex \/ X.s₀.heap.objs.size <= b) /\ b ≠ X.env.locals /\ (∀ x c,X.env.cells.lookup x = some c -> c ≠ b) /\ ∀ p ∈ X.pn ++ pins,p.1 ≠ b):Inv X pins σ H' s':=by
 obtain ⟨h',g',d',t',o'⟩:=s'
 have e:o' = s.os:=ho
 subst e
 exact I.call (g':=g') (t':=t') (d':=d') u hok hg hch
end
abbrev XK:=Value -> Option Addr -> Hp -> Prop
abbrev St:=List (Option V)
abbrev VK:=V -> Hp -> Prop
abbrev TE:=St -> Hp -> VK -> Prop
abbrev TT:=St -> Hp -> (Bool -> Hp -> Prop) -> Prop
abbrev TA:=St -> Hp -> (List V -> Hp -> Prop) -> Prop
structure Ends where
 nx:St -> Hp -> Prop
 rt:VK
 bk:St -> Hp -> Prop:=λ_ _=>False
 ct:St -> Hp -> Prop:=λ_ _=>False
abbrev TS:=Ends -> St -> Hp -> Prop
def EP (X:Cx) (pins:List (Addr × Obj)) (σ:St) (Q:VK) (u:Value) (s':Shared):Prop:=∃ v H',Inv X pins σ H' s' /\ bR v u /\ Q v H'
def TP (X:Cx) (pins:List (Addr × Obj)) (σ:St) (Q:Bool -> Hp -> Prop) (b:Bool) (s':Shared):Prop:=∃ H',Inv X pins σ H' s' /\ Q b H'
def AP (X:Cx) (pins:List (Addr × Obj)) (σ:St) (Q:List V -> Hp -> Prop) (us:List Value) (s':Shared):Prop:=∃ vs H',Inv X pins σ H' s' /\ bF vs us /\ Q vs H'
def SP (X:Cx) (pins:List (Addr × Obj)) (D:Ends) (f:Flow) (s':Shared):Prop :=
 match f with
 | .next=>∃ σ' H',Inv X pins σ' H' s' /\ D.nx σ' H'
 | .brk=>∃ σ' H',Inv X pins σ' H' s' /\ D.bk σ' H'
 | .cont=>∃ σ' H',Inv X pins σ' H' s' /\ D.ct σ' H'
 | .ret u=>∃ v σ' H',Inv X pins σ' H' s' /\ bR v u /\ D.rt v H'
def PE (X:Cx) (e:Expr) (t:TE):Prop :=
 ∀ (pins:List (Addr × Obj)) (s:Shared) (σ:St) (H:Hp) (Q:VK),Inv X pins σ H s -> t σ H Q -> wpAny (model X.prog X.w) X.A (eval e X.env) (EP X pins σ Q) X.xe s
def PT (X:Cx) (e:Expr) (t:TT):Prop :=
 ∀ (pins:List (Addr × Obj)) (s:Shared) (σ:St) (H:Hp) (Q:Bool -> Hp -> Prop),Inv X pins σ H s -> t σ H Q -> wpAny (model X.prog X.w) X.A (isTrue e X.env (eval e X.env)) (TP X pins σ Q) X.xe s
def PW (X:Cx) (e:Expr) (t:TT):Prop :=
 ∀ (whole:Sem Value) (pins:List (Addr × Obj)) (s:Shared) (σ:St) (H:Hp) (Q:Bool -> Hp -> Prop),Inv X pins σ H s -> t σ H Q -> wpAny (model X.prog X.w) X.A (isTrue e X.env whole) (TP X pins σ Q) X.xe s
theorem PW.pt {X:Cx} {e:Expr} {t:TT} (h:PW X e t):PT X e t:=h _
def PA (X:Cx) (es:List Expr) (t:TA):Prop :=
 ∀ (pos:Pos) (pins:List (Addr × Obj)) (s:Shared) (σ:St) (H:Hp) (Q:List V -> Hp -> Prop),Inv X pins σ H s -> t σ H Q -> wpAny (model X.prog X.w) X.A (spliced (backTo pos (starEach es X.env))) (AP X pins σ Q) X.xe s
def PS (X:Cx) (st:Stmt) (t:TS):Prop :=
 ∀ (pins:List (Addr × Obj)) (s:Shared) (σ:St) (H:Hp) (D:Ends),Inv X pins σ H s -> t D σ H -> wpAny (model X.prog X.w) X.A (exec st X.env) (SP X pins D) X.xe s
def BZ (X:Cx) (st:List Stmt) (t:TS):Prop :=
 ∀ (pins:List (Addr × Obj)) (s:Shared) (σ:St) (H:Hp) (D:Ends),Inv X pins σ H s -> t D σ H -> wpAny (model X.prog X.w) X.A (execs st X.env) (SP X pins D) X.xe s
theorem dX {α:Type} {t:Sem α} {Q Q':α -> Shared -> Prop} {M:Model} {A:Around} {E:Value -> Shared -> Prop} {s:Shared} (h:wpAny M A t Q E s) (hQ:∀ a s,Q a s -> Q' a s):wpAny M A t Q' E s:=a1a h hQ λ_ _ x=>x
section
variable {X:Cx}
def gH (i:Nat):TE:=λσ H Q=>∃ v,σ[i]? = some (some v) /\ Q v H
def tC (v:V):TE:=λ_ H Q=>Q v H
theorem a0D {i:Nat} {x:Str} {pos:Pos} (hN:X.N[i]? = some x) (hv:a4K X.env.scope x) (hd:(x == ("__debug__" : Str)) = false:=by decide) (hcd:(x == ("__classdict__" : Str)) = false:=by decide):PE X (.Name x pos) (gH i):=by
 intro pins s σ H Q I h
 obtain ⟨v,e,h⟩:=h
 obtain ⟨m,hn,hl⟩:=I.loc
 obtain ⟨u,r,l⟩:=hl i x v hN e hv
 have fin:EP X pins σ Q u s:=⟨v,H,I,r,h⟩
 rcases l with ⟨hk,hm⟩ | ⟨hk,c,hc,hcell⟩
 ·exact wpAny_Name (wpAny_loadName_local I.ok.kind hk hn hm fin) hd
 ·rcases hk with hk | hk
  ·exact wpAny_Name (wpAny_loadName_cell I.ok.kind hk hc hcell fin) hd
  ·exact wpAny_Name (wpAny_loadName_free I.ok.kind hk hc hcell fin hcd) hd
theorem a06 {i j pos}:PE X (.Constant (.int i) j pos) (tC (.int i)):=λ_ _ _ H _ I h=>wpAny_Constant_int ⟨.int i,H,I.tok _,⟨_,rfl⟩,h⟩
theorem a32 {b j pos}:PE X (.Constant (.bool b) j pos) (tC (.bl b)):=λ_ _ _ H _ I h=>Constant_bool ⟨.bl b,H,I,rfl,h⟩
theorem a07 {j pos}:PE X (.Constant .none j pos) (tC .non):=λ_ _ _ H _ I h=>Constant_none ⟨.non,H,I,rfl,h⟩
theorem a0B {x j pos}:PE X (.Constant (.str x) j pos) (tC (.str x)):=λ_ _ _ H _ I h=>Calls.Constant_str ⟨.str x,H,I.tok _,⟨_,rfl⟩,h⟩
def Gl (X:Cx) (x:Str):Prop:=X.env.kindOf x = some .globalImplicit
theorem US {E:Value -> Shared -> Prop} {pins:List (Addr × Obj)} {s:Shared} {σ:St} {H:Hp} {x:Str} {u:Value} {pos:Pos} {Q:Value -> Shared -> Prop} (I:Inv X pins σ H s) (hg:Gl X x) (hm:X.mg x = some u) (h:Q u s)
  (hd:(x == ("__debug__" : Str)) = false:=by decide):wpAny (model X.prog X.w) X.A (eval (.Name x pos) X.env) Q E s :=
 Calls.Name_function_global I.ok.kind hg (Calls.loadGlobal_global (by rw [I.ok.glob];exact I.mod.glob.keeps I.bk) hm h) hd
theorem zY {E:Value -> Shared -> Prop} {pins:List (Addr × Obj)} {s:Shared} {σ:St} {H:Hp} {x:Str} {u:Value} {pos:Pos} {Q:Value -> Shared -> Prop} (I:Inv X pins σ H s) (hg:Gl X x) (hm:X.mg x = none) (hv:bootBuiltins x = some u) (h:Q u s)
  (hn:x ≠ "__name__" := by decide) (hd:(x == ("__debug__" : Str)) = false:=by decide):wpAny (model X.prog X.w) X.A (eval (.Name x pos) X.env) Q E s:=by
 obtain ⟨mb,h1,h2⟩:=I.mod.blt
 exact Calls.Name_function_global I.ok.kind hg (Calls.loadGlobal_builtin (by rw [I.ok.glob];exact I.mod.glob.keeps I.bk) hm (by rw [I.ok.blt];exact h1.keeps I.bk) ((h2 x hn).trans hv) h) hd
variable {a b:Expr} {ta tb:TE} {pos:Pos}
def tB (t:TE):TT:=λσ H Q=>t σ H λx H1=>∃ c,x = .bl c /\ Q c H1
theorem a0J {e:Expr} {t:TE} (h:PE X e t) (he:∀ whole,isTrue e X.env whole = (do let v <- whole;standAt e.pos;holding [v] (truthy v)):=by intro _;rfl):PT X e (tB t):=by
 intro pins s σ H Q I hw
 refine isTrue_plain (dX (h pins s σ H _ I hw) λv s1 ⟨x,H1,I1,r1,q1⟩=>?_) (he _)
 obtain ⟨d,rfl,q⟩:=q1
 cases r1
 exact a5m ⟨H1,I1,q⟩
variable {tA tB':TT} {rest:List Expr}
def a56 (t u:TT):TT:=λσ H Q=>t σ H λc H1=>if c = true then u σ H1 Q else Q false H1
def a61 (t u:TT):TT:=λσ H Q=>t σ H λc H1=>if c = true then Q true H1 else u σ H1 Q
theorem VN (ha:PT X a tA):PW X (.BoolOp .And [a] pos) tA:=by
 intro wh pins s σ H Q I h
 refine isTrue_and (dX (ha pins s σ H Q I h) λc s1 e=>?_)
 cases c with
 | true=>exact isTrue_and_nil e
 | false=>exact e
theorem a0L (ha:PT X a tA):PW X (.BoolOp .Or [a] pos) tA:=by
 intro wh pins s σ H Q I h
 refine isTrue_or (dX (ha pins s σ H Q I h) λc s1 e=>?_)
 cases c with
 | false=>exact isTrue_or_nil e
 | true=>exact e
theorem a0K (ha:PT X a tA) (hb:PW X (.BoolOp .And (b :: rest) pos) tB'):PW X (.BoolOp .And (a :: b :: rest) pos) (a56 tA tB'):=by
 intro wh pins s σ H Q I h
 refine isTrue_and (dX (ha pins s σ H _ I h) λc s1 ⟨H1,I1,q1⟩=>?_)
 cases c with
 | true=>exact hb wh pins s1 σ H1 Q I1 q1
 | false=>exact ⟨H1,I1,q1⟩
theorem a38 (ha:PT X a tA) (hb:PW X (.BoolOp .Or (b :: rest) pos) tB'):PW X (.BoolOp .Or (a :: b :: rest) pos) (a61 tA tB'):=by
 intro wh pins s σ H Q I h
 refine isTrue_or (dX (ha pins s σ H _ I h) λc s1 ⟨H1,I1,q1⟩=>?_)
 cases c with
 | true=>exact ⟨H1,I1,q1⟩
 | false=>exact hb wh pins s1 σ H1 Q I1 q1
theorem a08 {op} {t:TE} (h:PE X a t):PE X (.BoolOp op [a] pos) t:=λpins s σ H Q I hw=>BoolOp_one (h pins s σ H Q I hw)
end
def fN (K:PySem.W.Frag) (H:Hp) (a:Addr) (xs:List V):Prop :=
 Rd H a (.lst xs) \/
  ∃ (o:Obj) (its:Array Value) (n:Nat),K.lookup a = some o /\ o.cls = .type "list" /\ o.dict = none /\ o.data = .seq its n /\ its.size <= sizeLine /\ bF xs its.toList
def mF (K:PySem.W.Frag) (H:Hp) (a:Addr) (xs:List V):Prop :=
 Rd H a (.tup xs) \/
  ∃ (o:Obj) (its:Array Value) (n:Nat),K.lookup a = some o /\ o.cls = .type "tuple" /\ o.data = .seq its n /\ its.size <= sizeLine /\ bF xs its.toList
def a4L:Value -> Option V
 | .none=>some .non
 | .bool b=>some (.bl b)
 | .int i _=>some (.int i)
 | .str x _=>some (.str x)
 | .bytes b _=>some (.byt b)
 | .float b _=>some (.flt b)
 | .ref a=>some (.ref a)
 | .type n=>some (.ty n)
 | _=>none
theorem bR.abs {x:V} {u:Value} (r:bR x u):a4L u = some x:=by
 cases x with
 | non=>cases r;rfl
 | bl _=>cases r;rfl
 | int _=>obtain ⟨t,rfl⟩:=r;rfl
 | str _=>obtain ⟨t,rfl⟩:=r;rfl
 | byt _=>obtain ⟨t,rfl⟩:=r;rfl
 | flt _=>obtain ⟨t,rfl⟩:=r;rfl
 | ref _=>cases r;rfl
 | ty _=>cases r;rfl
theorem bR.inj {x y:V} {u:Value} (r:bR x u) (q:bR y u):x = y:=a1i (r.abs.symm.trans q.abs)
theorem bF.inj:∀ {xs ys:List V} {us:List Value},bF xs us -> bF ys us -> xs = ys
 | _,_,_,.nil,.nil=>rfl
 | _,_,_,.cons r t,.cons r' t'=>by rw [r.inj r',bF.inj t t']
section
variable {X:Cx} {pins:List (Addr × Obj)} {σ:St} {H:Hp} {s:Shared} {a:Addr} {xs ys:List V}
theorem fN.of {K:PySem.W.Frag} (h:H a = some (.lst xs)):fN K H a xs:=.inl (.inl h)
theorem mF.of {K:PySem.W.Frag} (h:H a = some (.tup xs)):mF K H a xs:=.inl (.inl h)
theorem Inv.list (I:Inv X pins σ H s) (h:fN X.K H a xs):∃ its:List Value,bF xs its /\ PlainL s.heap a its.toArray /\ xs.length <= sizeLine:=by
 rcases h with h | ⟨o,its,n,hk,hc,hd,hs,hz,r⟩
 ·obtain ⟨z,its,n,r,e⟩:=h.ok I.hok
  exact ⟨its,r,⟨_,n,e,rfl,rfl,rfl⟩,z⟩
 ·refine ⟨its.toList,r,⟨o,n,I.kIn a o hk,hc,hd,by simpa using hs⟩,?_⟩
  have e:=r.length
  simp only [a0s] at e
  omega
theorem Inv.tuple (I:Inv X pins σ H s) (h:mF X.K H a xs):∃ its:List Value,bF xs its /\ IsTup s.heap a its.toArray /\ xs.length <= sizeLine:=by
 rcases h with h | ⟨o,its,n,hk,hc,hs,hz,r⟩
 ·obtain ⟨z,its,r,p⟩:=h.ok I.hok
  exact ⟨its,r,p,z⟩
 ·refine ⟨its.toList,r,⟨o,I.kIn a o hk,hc,n,by simpa using hs⟩,?_⟩
  have e:=r.length
  simp only [a0s] at e
  omega
theorem Inv.list_inj (I:Inv X pins σ H s) (h:fN X.K H a xs) (h':fN X.K H a ys):xs = ys:=by
 obtain ⟨its,r,⟨o,n,e,_,_,d⟩,_⟩:=I.list h
 obtain ⟨its',r',⟨o',n',e',_,_,d'⟩,_⟩:=I.list h'
 rw [e] at e';cases e'
 rw [d] at d'
 injection d' with d1 _
 have:its = its':=by simpa using congrArg Array.toList d1
 subst this
 exact r.inj r'
theorem Inv.tuple_inj (I:Inv X pins σ H s) (h:mF X.K H a xs) (h':mF X.K H a ys):xs = ys:=by
 obtain ⟨its,r,⟨o,e,_,n,d⟩,_⟩:=I.tuple h
 obtain ⟨its',r',⟨o',e',_,n',d'⟩,_⟩:=I.tuple h'
 rw [e] at e';cases e'
 rw [d] at d'
 injection d' with d1 _
 have:its = its':=by simpa using congrArg Array.toList d1
 subst this
 exact r.inj r'
end
abbrev Cx.wish (X:Cx) (E:Value -> Shared -> Prop):Cx:={ X with xe:=E }
abbrev Cx.nox (X:Cx):Cx:=X.wish λ_ _=>False
theorem Cx.Ok.wish {X:Cx} (ok:X.Ok) (E:Value -> Shared -> Prop):(X.wish E).Ok :=
 ⟨ok.mod,ok.kind,ok.glob,ok.blt,ok.above,ok.inj,ok.has,ok.cab,ok.hd,ok.frames,ok.stk,ok.exf,ok.bs,ok.bsz,ok.noex,ok.exfs,ok.funs,ok.frf⟩
theorem Cx.Ok.unwish {X:Cx} {E:Value -> Shared -> Prop} (ok:(X.wish E).Ok):X.Ok :=
 ⟨ok.mod,ok.kind,ok.glob,ok.blt,ok.above,ok.inj,ok.has,ok.cab,ok.hd,ok.frames,ok.stk,ok.exf,ok.bs,ok.bsz,ok.noex,ok.exfs,ok.funs,ok.frf⟩
section
variable {X:Cx} {pins:List (Addr × Obj)} {σ:St} {H:Hp} {s:Shared} {E:Value -> Shared -> Prop}
theorem Inv.wish (I:Inv X pins σ H s) (E:Value -> Shared -> Prop):Inv (X.wish E) pins σ H s:=⟨I.ok.wish E,I.os,I.bare,I.base,I.loc,I.cell,I.free,I.freeC,I.pin,I.hok,I.len⟩
theorem Inv.unwish (I:Inv (X.wish E) pins σ H s):Inv X pins σ H s:=⟨I.ok.unwish,I.os,I.bare,I.base,I.loc,I.cell,I.free,I.freeC,I.pin,I.hok,I.len⟩
theorem SP.unwish {D:Ends} {f:Flow} {s':Shared} (h:SP (X.wish E) pins D f s'):SP X pins D f s':=by
 cases f with
 | next=>obtain ⟨σ',H',I,q⟩:=h;exact ⟨σ',H',I.unwish,q⟩
 | brk=>obtain ⟨σ',H',I,q⟩:=h;exact ⟨σ',H',I.unwish,q⟩
 | cont=>obtain ⟨σ',H',I,q⟩:=h;exact ⟨σ',H',I.unwish,q⟩
 | ret u=>obtain ⟨v,σ',H',I,r,q⟩:=h;exact ⟨v,σ',H',I.unwish,r,q⟩
theorem BZ.nox {st:List Stmt} {t:TS} (h:BZ X.nox st t):BZ X st t:=λpins s σ H D I hw =>
 a1a (h pins s σ H D (I.wish _) hw) (λ_ _ q=>q.unwish) λ_ _ z=>False.elim z
end
section
variable {X:Cx} {st:Stmt} {rest:List Stmt} {t u:TS} {e:Expr} {te:TE} {pos:Pos}
def M4:TS:=λD σ H=>D.nx σ H
def WQ (t u:TS):TS:=λD σ H=>t { D with nx:=u D } σ H
theorem LK:BZ X [] M4:=λ_ _ σ H _ I h=>a68 ⟨σ,H,I,h⟩
theorem GX (h1:PS X st t) (h2:BZ X rest u):BZ X (st :: rest) (WQ t u):=by
 intro pins s σ H D I h
 refine wpAny_execs_cons (dX (h1 pins s σ H { D with nx:=u D } I h) λf s1 q=>?_)
 cases f with
 | next =>
  obtain ⟨σ',H',I',q⟩:=q
  exact h2 pins s1 σ' H' D I' q
 | ret v=>exact q
 | brk=>exact q
 | cont=>exact q
theorem LL (h1:PS X st t):BZ X [st] t:=by
 intro pins s σ H D I h
 refine wpAny_execs_cons (dX (h1 pins s σ H D I h) λf s1 q=>?_)
 cases f with
 | next=>exact a68 q
 | ret v=>exact q
 | brk=>exact q
 | cont=>exact q
theorem Inv.quiet {pins:List (Addr × Obj)} {σ:St} {H:Hp} {s:Shared} (I:Inv X pins σ H s):interactive X.env = false:=by simp [interactive,I.ok.kind]
def a3R (te:TE):TS:=λD σ H=>te σ H λ_ H1=>D.nx σ H1
theorem VJ (he:PE X e te) (hs:swapsWith e none pos.line X.env = pure false:=by rfl):PS X (.Expr e pos) (a3R te):=by
 intro pins s σ H D I h
 exact wpAny_Expr_any (dX (he pins s σ H _ I h) λv s1 ⟨x,H1,I1,r1,q1⟩=>⟨σ,H1,I1,q1⟩) I.quiet hs
def WP (te:TE):TS:=λD σ H=>te σ H D.rt
theorem JR (he:PE X e te):PS X (.Return (some e) pos) (WP te):=by
 intro pins s σ H D I h
 exact wpAny_Return_some (dX (he pins s σ H _ I h) λv s1 ⟨x,H1,I1,r1,q1⟩=>⟨x,σ,H1,I1,r1,q1⟩)
def WK (c:TT) (t u:TS):TS:=λD σ H=>c σ H λb H1=>if b = true then t D σ H1 else u D σ H1
theorem XF {c:Expr} {a b:List Stmt} {tc:TT} (hc:PT X c tc) (ha:BZ X a t) (hb:BZ X b u):PS X (.If c a b pos) (WK tc t u):=by
 intro pins s σ H D I h
 refine wpAny_If (dX (hc pins s σ H _ I h) λd s1 ⟨H1,I1,q1⟩=>?_)
 cases d with
 | true=>exact ha pins s1 σ H1 D I1 q1
 | false=>exact hb pins s1 σ H1 D I1 q1
end
abbrev TG:=V -> St -> Hp -> (St -> Hp -> Prop) -> Prop
abbrev T9:=List V -> St -> Hp -> (St -> Hp -> Prop) -> Prop
def PG (X:Cx) (target:Expr) (t:TG):Prop :=
 ∀ (pins:List (Addr × Obj)) (s:Shared) (σ:St) (H:Hp) (v:V) (u:Value) (Q:St -> Hp -> Prop),Inv X pins σ H s -> bR v u -> t v σ H Q ->
  wpAny (model X.prog X.w) X.A (assign target X.env u) (λ_ s'=>∃ σ' H',Inv X pins σ' H' s' /\ Q σ' H') X.xe s
def X1 (X:Cx) (ts:List Expr) (t:T9):Prop :=
 ∀ (pins:List (Addr × Obj)) (s:Shared) (σ:St) (H:Hp) (vs:List V) (us:List Value) (Q:St -> Hp -> Prop),Inv X pins σ H s -> bF vs us -> t vs σ H Q ->
  wpAny (model X.prog X.w) X.A (assignInOrder ((assignEach ts X.env).map (·.2)) us) (λ_ s'=>∃ σ' H',Inv X pins σ' H' s' /\ Q σ' H') X.xe s
abbrev II:=V -> V -> V -> Hp -> (Hp -> Prop) -> Prop
def XO (X:Cx) (t:II):Prop :=
 ∀ (pins:List (Addr × Obj)) (s:Shared) (σ:St) (H:Hp) (o i v:V) (ov iv u:Value) (Q:Hp -> Prop),Inv X pins σ H s -> bR o ov -> bR i iv -> bR v u -> t o i v H Q ->
  wpAny (model X.prog X.w) X.A (setItem ov iv u) (λ_ s'=>∃ H',Inv X pins σ H' s' /\ Q H') X.xe s
section
variable {X:Cx} {pos:Pos}
def nY (i:Nat):TG:=λv σ H Q=>Q (σ.set i (some v)) H
theorem yT {i:Nat} {x:Str} (hN:X.N.Nodup) (hi:X.N[i]? = some x) (hx:O6 X.env.scope x) (hf:X.fn x = true \/ X.env.scope.names.lookup x = some .local:=by first | exact .inl rfl | exact .inr rfl | assumption):PG X (.Name x pos) (nY i):=by
 intro pins s σ H v u Q I r h
 exact wpAny_assign_Name (vE I hN hi hx r (λs' I'=>⟨_,H,I',h⟩) hf)
def a4O:T9:=λvs σ H Q=>vs = [] /\ Q σ H
def a2H (t:TG) (u:T9):T9:=λvs σ H Q=>∃ v r,vs = v :: r /\ t v σ H λσ' H'=>u r σ' H' Q
theorem LH:X1 X [] a4O:=by
 intro pins s σ H vs us Q I r h
 obtain ⟨e,h⟩:=h
 subst e
 cases r
 exact assignInOrder_nil ⟨σ,H,I,h⟩
theorem AF {e:Expr} {es:List Expr} {t:TG} {u:T9} (h1:PG X e t) (h2:X1 X es u)
  (hs:(assignEach (e :: es) X.env).map (·.2) = assign e X.env :: (assignEach es X.env).map (·.2):=by rfl):X1 X (e :: es) (a2H t u):=by
 intro pins s σ H vs us Q I r h
 obtain ⟨v,vr,e1,h⟩:=h
 subst e1
 cases r with
 | cons r rr =>
  rw [hs]
  refine assignInOrder_cons (dX (h1 pins s σ H _ _ _ I r h) λ_ s1 ⟨σ1,H1,I1,q1⟩=>?_)
  exact h2 pins s1 σ1 H1 _ _ Q I1 rr q1
def a4P (K:PySem.W.Frag) (n:Nat) (t:T9):TG:=λv σ H Q=>∃ a xs,v = .ref a /\ mF K H a xs /\ xs.length = n /\ t xs σ H Q
theorem RA {es:List Expr} {k:Nat} {t:T9} {n:Nat} (hc:X.calm = true) (h:X1 X es t)
  (hn:(assignEach es X.env).length = n:=by rfl) (hst:(assignEach es X.env).findIdx? (·.1) = none:=by rfl):PG X (.Tuple es k pos) (a4P X.K n t):=by
 intro pins s σ H v u Q I r hw
 obtain ⟨a,xs,e1,hq,hl,hw⟩:=hw
 subst e1
 cases r
 obtain ⟨its,rv,ht,hz⟩:=I.tuple hq
 refine assign_Tuple_tuple (I.ok.hd hc) ht (by simp [hn,<- hl,rv.length]) hst λh' hx=>?_
 have I1:Inv X pins σ H { s with heap:=h' }:=I.kept (t':=s.toks) λb o e=>hx b o (a0r (a0m e)) e
 exact h pins _ σ H xs _ Q I1 (by simpa using rv) hw
def Q0 (to ti:TE) (t:II):TG:=λv σ H Q=>to σ H λo H1=>ti σ H1 λi H2=>t o i v H2 λH3=>Q σ H3
theorem E9 {o i:Expr} {to ti:TE} {t:II} (ho:PE X o to) (hi:PE X i ti) (hs:XO X t)
  (ha:∀ v,assign (.Subscript o i pos) X.env v = (do
   let ov <- holding [v] (eval o X.env)
   let iv <- holding [v,ov] (eval i X.env)
   standAt pos
   holding [v,ov,iv] (setItem ov iv v)
   release [v,ov,iv] []):=by intro _;rfl):PG X (.Subscript o i pos) (Q0 to ti t):=by
 intro pins s σ H v u Q I r h
 rw [ha]
 refine a0a (a1s (dX (ho pins s σ H _ I h) λov s1 ⟨x,H1,I1,r1,q1⟩=>?_))
 refine a0a (a1s (dX (hi pins s1 σ H1 _ I1 q1) λiv s2 ⟨y,H2,I2,r2,q2⟩=>?_))
 refine a0a (a3h (a0a (a1s (dX (hs pins s2 σ H2 x y v ov iv u _ I2 r1 r2 r q2) λ_ s3 ⟨H3,I3,q3⟩=>?_))))
 exact wpAny_release ⟨σ,H3,I3,q3⟩
def HZ (te:TE) (g:TG):TS:=λD σ H=>te σ H λx H1=>g x σ H1 D.nx
theorem EB {tg e:Expr} {te:TE} {g:TG} (he:PE X e te) (hg:PG X tg g) (hs:swapsWithSole [tg] e pos.line X.env = pure false:=by rfl) (hw:swappedStores [tg] e X.env = pure none:=by rfl)
  (h1:(assignEach [tg] X.env).map (·.2) = [assign tg X.env]:=by rfl):PS X (.Assign [tg] e pos) (HZ te g):=by
 intro pins s σ H D I h
 refine wpAny_Assign_stores (dX (he pins s σ H _ I h) λv s1 ⟨x,H1,I1,r1,q1⟩=>?_) hs hw
 rw [h1]
 exact dX (hg pins s1 σ H1 x v _ I1 r1 q1) λ_ s2 q=>q
theorem RG {i:Nat} {x:Str} {e:Expr} {te:TE} {pos':Pos} (hN:X.N.Nodup) (hi:X.N[i]? = some x) (hx:O6 X.env.scope x) (he:PE X e te) (hs:swapsWith e (some (.Name x pos')) pos.line X.env = pure false:=by rfl) (hf:X.fn x = true \/ X.env.scope.names.lookup x = some .local:=by first | exact .inl rfl | exact .inr rfl | assumption) :
  PS X (.Assign [.Name x pos'] e pos) (HZ te (nY i)):=by
 intro pins s σ H D I h
 refine wpAny_Assign_Name (dX (he pins s σ H _ I h) λv s1 ⟨y,H1,I1,r1,q1⟩=>?_) hs
 exact vE I1 hN hi hx r1 (λs2 I2=>⟨_,H1,I2,q1⟩) hf
def a5B (i j:Nat) (ta:TA):TS:=λD σ H=>ta σ H λvs H1=>∃ v w,vs = [v,w] /\ D.nx ((σ.set i (some v)).set j (some w)) H1
theorem a0I {i j:Nat} {x y:Str} {a b:Expr} {ta:TA} {px py pt:Pos} {kt k2 pt2} (hc:X.calm = true) (hN:X.N.Nodup) (hi:X.N[i]? = some x) (hj:X.N[j]? = some y) (hij:i ≠ j)
  (hx:X.env.scope.names.lookup x = some .local) (hy:X.env.scope.names.lookup y = some .local) (ha:PA X [a,b] ta)
  (hw:swappedStores [.Tuple [.Name x px,.Name y py] kt pt] (.Tuple [a,b] k2 pt2) X.env = pure (some [x,y]))
  (hs:swapsWithSole [.Tuple [.Name x px,.Name y py] kt pt] (.Tuple [a,b] k2 pt2) pos.line X.env = pure false:=by rfl) :
  PS X (.Assign [.Tuple [.Name x px,.Name y py] kt pt] (.Tuple [a,b] k2 pt2) pos) (a5B i j ta):=by
 intro pins s σ H D I h
 rw [exec_Assign_arm]
 refine a0a (a3h ?_)
 rw [hs]
 refine a0a (a0c ?_)
 rw [if_neg (by decide)]
 refine a0a (Tuple_ (dX (ha _ pins s σ H _ I h) λus s1 ⟨vs,H1,I1,r1,q1⟩=>?_))
 obtain ⟨v,w,e1,q1⟩:=q1
 subst e1
 obtain ⟨u1,u2,rfl,rv,rw'⟩ : ∃ u1 u2,us = [u1,u2] /\ bR v u1 /\ bR w u2:=by
  cases r1 with
  | cons p q =>
   cases q with
   | cons p' q' =>
    cases q'
    exact ⟨_,_,rfl,p,p'⟩
 refine a1m ?_ (by show 2 <= sizeLine;decide)
 have I2:Inv X pins σ H1 { s1 with heap:=s1.heap.push { cls:=.type "tuple",data:=.seq [u1,u2].toArray } }:=I1.kept (t':=s1.toks) λb o e=>a0e _ e
 rw [hw]
 refine a0a (a0c ?_)
 show wpAny (model X.prog X.w) X.A (do rule "assign.swapped-stores";let items <- unpackItems (.ref s1.heap.objs.size) 2 none;assignInOrder [λv=>bindName X.env y v,λv=>bindName X.env x v] items.reverse;pure Flow.next) _ _ _
 refine a0a (a4r (a0a (unpackItems_tuple (items:=#[u1,u2]) (I.ok.hd hc) (IsTup.new s1.heap _) λh' hx'=>?_)))
 have I3:=I2.kept (h':=h') (t':=s1.toks) λb o e=>hx' b o (a0r (a0m e)) e
 show wpAny _ _ (assignInOrder [λv=>bindName X.env y v,λv=>bindName X.env x v] [u2,u1] >>= λ_=>pure Flow.next) _ _ _
 refine a0a (assignInOrder_cons (wpAny_bindName (vE I3 hN hj (.inl hy) rw' (λs2 I4=>?_) (.inr hy))))
 refine assignInOrder_cons (wpAny_bindName (vE I4 hN hi (.inl hx) rv (λs3 I5=>assignInOrder_nil (a0c ?_)) (.inr hx)))
 rw [List.set_comm _ _ (a2d hij)] at I5
 exact ⟨_,H1,I5,q1⟩
end
section
variable {X:Cx} {pos:Pos}
def a1D (c:TT) (tb:TS):TS:=λD σ H=>∃ W:Nat -> St -> Hp -> Prop,(∃ m,W m σ H) /\ ∀ m σ H,W m σ H ->
 c σ H λb H1=>if b = true then ∃ N:St -> Hp -> Prop,(∀ σ' H',N σ' H' -> ∃ m',m' < m /\ W m' σ' H') /\ tb { D with nx:=N,ct:=N,bk:=D.nx } σ H1 else D.nx σ H1
theorem RH {c:Expr} {body:List Stmt} {tc:TT} {tb:TS} (hp:PassesOwn (model X.prog X.w) X.A X.env X.xe) (hc:PT X c tc) (hb:BZ X body tb):PS X (.While c body [] pos) (a1D tc tb):=by
 intro pins s σ H D I h
 obtain ⟨W,⟨m0,w0⟩,turn⟩:=h
 refine wpAny_While (codeAny_whileLoop (λn s'=>∃ σ' H',Inv X pins σ' H' s' /\ W n σ' H') ?_ m0 ⟨σ,H,I,w0⟩)
 rintro n s1 ⟨σ1,H1,I1,w1⟩
 refine a3z hp (dX (hc pins s1 σ1 H1 _ I1 (turn n σ1 H1 w1)) λb s2 ⟨H2,I2,q2⟩=>?_)
 cases b with
 | true =>
  obtain ⟨N,hN,q2⟩:=q2
  rw [if_pos rfl]
  refine a3z hp (dX (hb pins s2 σ1 H2 _ I2 q2) λf s3 q3=>?_)
  cases f with
  | next =>
   obtain ⟨σ3,H3,I3,n3⟩:=q3
   obtain ⟨m',hm,w3⟩:=hN σ3 H3 n3
   exact ⟨m',hm,σ3,H3,I3,w3⟩
  | cont =>
   obtain ⟨σ3,H3,I3,n3⟩:=q3
   obtain ⟨m',hm,w3⟩:=hN σ3 H3 n3
   exact ⟨m',hm,σ3,H3,I3,w3⟩
  | brk=>exact q3
  | ret v=>exact q3
 | false =>
  rw [if_neg a0j]
  exact a68 ⟨σ1,H2,I2,q2⟩
end
structure It where
 go:Nat -> Hp -> Prop
 yld:Nat -> Hp -> V -> Hp -> Prop
 stop:Nat -> Hp -> Prop
def lB (X:Cx) (pins:List (Addr × Obj)) (H:Hp) (b:Addr):Prop :=
 H b = none /\ b ≠ X.env.locals /\ b ∉ X.fs /\ (b ∈ X.ex \/ X.s₀.heap.objs.size <= b) /\ (∀ x c,X.env.cells.lookup x = some c -> c ≠ b) /\ ∀ p ∈ X.pn ++ pins,p.1 ≠ b
theorem Inv.fpOk {X:Cx} {pins:List (Addr × Obj)} {σ:St} {H H':Hp} {s:Shared} {b:Addr} (I:Inv X pins σ H s) (hb:s.heap.objs.size <= b) (hn:H' b = none):lB X pins H' b:=by
 refine ⟨hn,a4z (a0z I.lt hb),I.nofs hb,.inr (a1b I.sz hb),λx c e z=>?_,λp hp z=>?_⟩
 ·obtain ⟨v,q⟩:=I.cell x c e
  exact absurd (a0z q.lt (by rw [z];exact hb)) (a5t _)
 ·exact absurd (a0z (a0m (I.pin p hp).1) (by rw [z];exact hb)) (a5t _)
structure Turn (P:Program) (w:World) (K:PySem.W.Frag) (tg:Expr) (J:It) (fp:List Addr) (it:Addr) (tn:Nat -> Heap -> Prop):Prop where
 mem:it ∈ fp
 obj:∀ i h,tn i h -> ∀ b ∈ fp,∃ o,h.get? b = some o /\ ∀ v,o.data ≠ .cell v
 keep:∀ i h h',tn i h -> (∀ b ∈ fp,∀ o,h.get? b = some o -> h'.get? b = some o) -> tn i h'
 item:∀ (X:Cx),X.prog = P -> X.w = w -> X.K = K -> X.calm = true -> ∀ (i:Nat) (pins:List (Addr × Obj)) (s:Shared) (σ:St) (H:Hp) (E:Value -> Shared -> Prop),Inv X pins σ H s -> (∀ b ∈ fp,lB X pins H b) -> tn i s.heap -> J.go i H ->
  wpAny (model P w) X.A (pyNext (.ref it)) (λr s1=>∃ u,r = some u /\
   wpAny (model P w) X.A (letOwnedTupleGo tg (.ref it) u) (λ_ s2=>∃ x H',Inv X pins σ H' s2 /\ bR x u /\ J.yld i H x H' /\ tn (i + 1) s2.heap /\ ∀ b ∈ fp,H' b = none) E s1) E s
 done:∀ (X:Cx),X.prog = P -> X.w = w -> X.K = K -> X.calm = true -> ∀ (i:Nat) (pins:List (Addr × Obj)) (s:Shared) (σ:St) (H:Hp) (E:Value -> Shared -> Prop),Inv X pins σ H s -> (∀ b ∈ fp,lB X pins H b) -> tn i s.heap -> J.stop i H ->
  wpAny (model P w) X.A (pyNext (.ref it)) (λr s1=>r = none /\ Inv X pins σ H s1) E s
 self:∀ (A:Around) (i:Nat) (s:Shared) (Q:Value -> Shared -> Prop) (E:Value -> Shared -> Prop),tn i s.heap -> Q (.ref it) s -> wpAny (model P w) A (pyIter (.ref it)) Q E s
abbrev TI:=St -> Hp -> (It -> Hp -> Prop) -> Prop
def a5G (X:Cx) (pins:List (Addr × Obj)) (σ:St) (tg:Expr) (R:It -> Hp -> Prop) (itv:Value) (s2:Shared):Prop :=
 ∃ (it:Addr) (fp:List Addr) (tn:Nat -> Heap -> Prop) (J:It) (H':Hp),itv = .ref it /\ Inv X pins σ H' s2 /\ Turn X.prog X.w X.K tg J fp it tn /\ tn 0 s2.heap /\ (∀ b ∈ fp,lB X pins H' b) /\ R J H'
def PI (X:Cx) (tg iter:Expr) (wi:TI):Prop :=
 ∀ (pins:List (Addr × Obj)) (s:Shared) (σ:St) (H:Hp) (R:It -> Hp -> Prop),Inv X pins σ H s -> wi σ H R ->
  wpAny (model X.prog X.w) X.A (eval iter X.env) (λv s1=>wpAny (model X.prog X.w) X.A (pyIter v) (a5G X pins σ tg R) X.xe s1) X.xe s
theorem Q2 {M:Model} {A:Around} {E:Value -> Shared -> Prop} {s:Shared} {tg:Expr} {it:Addr} {u:Value} {o:Obj} {n:String} {vs:Array Value} {Q:Unit -> Shared -> Prop} (ho:s.heap.get? it = some o) (hc:o.cls = .type n) (hd:o.data = .fields vs)
    (hn:["enumerate", "zip", "dict_itemiterator", "dict_reverseitemiterator", "odict_iterator", "itertools.zip_longest", "itertools.pairwise"].contains n = false) (hQ:Q () s):wpAny M A (letOwnedTupleGo tg (.ref it) u) Q E s:=by
  unfold letOwnedTupleGo
  cases tg <;> first
    | exact a0c hQ
    | (cases u <;> first
        | exact a0c hQ
        | (refine a0a (wpAny_load ho ?_)
           rw [hc,hd]
           show wpAny M A (if (["enumerate", "zip", "dict_itemiterator", "dict_reverseitemiterator", "odict_iterator", "itertools.zip_longest", "itertools.pairwise"].contains n && vs[0]? == some (rawInt _)) = true then _ else _) Q E s
           rw [if_neg (by intro h;rw [hn,Bool.false_and] at h;cases h)]
           exact a0c hQ))
def a4E (K:PySem.W.Frag) (a:Addr):It :=
 ⟨λi H=>∃ xs x,fN K H a xs /\ xs[i]? = some x,λi H x H'=>H' = H /\ ∀ xs,fN K H a xs -> xs[i]? = some x,λi H=>∃ xs,fN K H a xs /\ xs.length <= i⟩
def a4F (K:PySem.W.Frag) (a:Addr):It :=
 ⟨λi H=>∃ xs x,mF K H a xs /\ xs[i]? = some x,λi H x H'=>H' = H /\ ∀ xs,mF K H a xs -> xs[i]? = some x,λi H=>∃ xs,mF K H a xs /\ xs.length <= i⟩
def T6 (lo:Int) (n:Nat):It:=⟨λi _=>i < n,λi H x H'=>H' = H /\ x = .int (lo + i),λi _=>n <= i⟩
theorem O2 {P:Program} {w:World} {K:PySem.W.Frag} {tg:Expr} (a it:Addr):Turn P w K tg (a4E K a) [it] it (λi h=>h.IsListIter it a i) where
 mem:=by simp
 obj:=λi h st b hb=>by
  have e:b = it:=by simpa using hb
  subst e
  obtain ⟨o,e,c,d⟩:=st
  exact ⟨o,e,λv z=>by rw [d] at z;cases z⟩
 keep:=λi h h' st k=>st.at λo e=>k it (by simp) o e
 item:=by
  intro X hP hw hK hc i pins s σ H E I hf st hg
  subst hP hw hK
  obtain ⟨xs,x,hq,hx⟩:=hg
  obtain ⟨its,rv,p,hz⟩:=I.list hq
  obtain ⟨u,hu,ru⟩:=rv.get hx
  obtain ⟨f0,f1,f2,f3,f4,f5⟩:=hf it (by simp)
  refine wpAny_pyNext_list_item st p.isList (x:=u) (by simpa using hu) λh' st' sb=>?_
  have I1:Inv X pins σ H { s with heap:=h' }:=I.turned (t':=s.toks) (λb o hb e=>(sb.2 b hb).trans e) f0 f1 f3 f4 f5
  obtain ⟨o,e,c,d⟩:=id st'
  exact ⟨u,rfl,Q2 (s:={ s with heap:=h' }) e c d (by decide) ⟨x,H,I1,ru,⟨rfl,λys hy=>by rw [I.list_inj hy hq];exact hx⟩,st',λb hb=>(hf b hb).1⟩⟩
 done:=by
  intro X hP hw hK hc i pins s σ H E I hf st hg
  subst hP hw hK
  obtain ⟨xs,hq,hx⟩:=hg
  obtain ⟨its,rv,p,hz⟩:=I.list hq
  obtain ⟨f0,f1,f2,f3,f4,f5⟩:=hf it (by simp)
  have hl:=rv.length
  exact wpAny_pyNext_list_end (I.ok.hd hc) st p.isList (by simp;omega) λh' eb=>⟨rfl,I.turned (t':=s.toks) (λb o hb e=>eb b o hb e) f0 f1 f3 f4 f5⟩
 self:=λ_ _ _ _ _ st h=>wpAny_pyIter_listiter st h
theorem KB {P:Program} {w:World} {K:PySem.W.Frag} {tg:Expr} (a it:Addr):Turn P w K tg (a4F K a) [it] it (λi h=>h.IsTupleIter it a i) where
 mem:=by simp
 obj:=λi h st b hb=>by
  have e:b = it:=by simpa using hb
  subst e
  obtain ⟨o,e,c,d⟩:=st
  exact ⟨o,e,λv z=>by rw [d] at z;cases z⟩
 keep:=λi h h' st k=>st.at λo e=>k it (by simp) o e
 item:=by
  intro X hP hw hK hc i pins s σ H E I hf st hg
  subst hP hw hK
  obtain ⟨xs,x,hq,hx⟩:=hg
  obtain ⟨its,rv,p,hz⟩:=I.tuple hq
  obtain ⟨u,hu,ru⟩:=rv.get hx
  obtain ⟨f0,f1,f2,f3,f4,f5⟩:=hf it (by simp)
  refine wpAny_pyNext_tuple_item st (show s.heap.IsTuple a its.toArray from p) (x:=u) (by simpa using hu) λh' st' sb=>?_
  have I1:Inv X pins σ H { s with heap:=h' }:=I.turned (t':=s.toks) (λb o hb e=>(sb.2 b hb).trans e) f0 f1 f3 f4 f5
  obtain ⟨o,e,c,d⟩:=id st'
  exact ⟨u,rfl,Q2 (s:={ s with heap:=h' }) e c d (by decide) ⟨x,H,I1,ru,⟨rfl,λys hy=>by rw [I.tuple_inj hy hq];exact hx⟩,st',λb hb=>(hf b hb).1⟩⟩
 done:=by
  intro X hP hw hK hc i pins s σ H E I hf st hg
  subst hP hw hK
  obtain ⟨xs,hq,hx⟩:=hg
  obtain ⟨its,rv,p,hz⟩:=I.tuple hq
  obtain ⟨f0,f1,f2,f3,f4,f5⟩:=hf it (by simp)
  have hl:=rv.length
  exact wpAny_pyNext_tuple_end (I.ok.hd hc) st (show s.heap.IsTuple a its.toArray from p) (by simp;omega) λh' eb=>⟨rfl,I.turned (t':=s.toks) (λb o hb e=>eb b o hb e) f0 f1 f3 f4 f5⟩
 self:=λ_ _ _ _ _ st h=>wpAny_pyIter_tupleiter st h
theorem KA {P:Program} {w:World} {K:PySem.W.Frag} {tg:Expr} (it:Addr) (lo:Int) (n:Nat):Turn P w K tg (T6 lo n) [it] it (λi h=>IsRangeIter h it (lo + (i:Nat) * 1) ((n:Int) - (i:Nat)) 1) where
 mem:=by simp
 obj:=λi h st b hb=>by
  have e:b = it:=by simpa using hb
  subst e
  exact ⟨_,st,λv z=>by
   have z':Data.fields _ = Data.cell v:=z
   cases z'⟩
 keep:=λi h h' st k=>k it (by simp) _ st
 item:=by
  intro X hP hw hK hc i pins s σ H E I hf st hg
  subst hP hw hK
  obtain ⟨f0,f1,f2,f3,f4,f5⟩:=hf it (by simp)
  have W:=Walks.range (prog:=X.prog) (w:=X.w) (I.ok.hd hc) it lo 1 n
  refine W.item i s _ _ hg st λv h' tk hv st' kk=>?_
  obtain ⟨t,rfl⟩:=hv
  have I1:Inv X pins σ H { s with heap:=h',toks:=tk }:=I.turned (λb o hb e=>kk b o (by simpa using hb) e) f0 f1 f3 f4 f5
  refine ⟨_,rfl,Q2 (s:={ s with heap:=h',toks:=tk }) (n := "range_iterator") st' rfl rfl (by decide) ⟨.int (lo + i),H,I1,⟨t,?_⟩,⟨rfl,rfl⟩,st',λb hb=>(hf b hb).1⟩⟩
  rw [a6f]
 done:=by
  intro X hP hw hK hc i pins s σ H E I hf st hg
  subst hP hw hK
  obtain ⟨f0,f1,f2,f3,f4,f5⟩:=hf it (by simp)
  exact wpAny_pyNext_range_end (I.ok.hd hc) st (by have:n <= i:=hg;omega) λh' eb=>⟨rfl,I.turned (t':=s.toks) (λb o hb e=>eb b o hb e) f0 f1 f3 f4 f5⟩
 self:=λ_ _ _ _ _ st h=>wpAny_pyIter_rangeiter st h
section
variable {X:Cx} {tg:Expr}
def a2J (K:PySem.W.Frag) (tl:TE):TI:=λσ H R=>tl σ H λx H1=>∃ a,x = .ref a /\ (∃ xs,fN K H1 a xs) /\ R (a4E K a) H1
def a4Q (K:PySem.W.Frag) (tl:TE):TI:=λσ H R=>tl σ H λx H1=>∃ a,x = .ref a /\ (∃ xs,mF K H1 a xs) /\ R (a4F K a) H1
theorem LI {l:Expr} {tl:TE} (hl:PE X l tl):PI X tg l (a2J X.K tl):=by
 intro pins s σ H R I h
 refine dX (hl pins s σ H _ I h) λv s1 ⟨x,H1,I1,r1,q1⟩=>?_
 obtain ⟨a,e,⟨xs,hq⟩,q⟩:=q1
 subst e
 cases r1
 obtain ⟨its,rv,p,hz⟩:=I1.list hq
 refine wpAny_pyIter_list p.isList ?_
 refine ⟨s1.heap.objs.size,[s1.heap.objs.size],_,_,H1,rfl,I1.kept (t':=s1.toks) λb o e=>a0e _ e,O2 a _,⟨_,a0y _ rfl,rfl,rfl⟩,λb hb=>?_,q⟩
 have e:b = s1.heap.objs.size:=by simpa using hb
 subst e
 exact I1.fpOk (a0l _) (I1.hok.fresh (a0l _))
theorem a0E {l:Expr} {tl:TE} (hl:PE X l tl):PI X tg l (a4Q X.K tl):=by
 intro pins s σ H R I h
 refine dX (hl pins s σ H _ I h) λv s1 ⟨x,H1,I1,r1,q1⟩=>?_
 obtain ⟨a,e,⟨xs,hq⟩,q⟩:=q1
 subst e
 cases r1
 obtain ⟨its,rv,p,hz⟩:=I1.tuple hq
 refine wpAny_pyIter_tuple (show s1.heap.IsTuple a its.toArray from p) ?_
 refine ⟨s1.heap.objs.size,[s1.heap.objs.size],_,_,H1,rfl,I1.kept (t':=s1.toks) λb o e=>a0e _ e,KB a _,⟨_,a0y _ rfl,rfl,rfl⟩,λb hb=>?_,q⟩
 have e:b = s1.heap.objs.size:=by simpa using hb
 subst e
 exact I1.fpOk (a0l _) (I1.hok.fresh (a0l _))
theorem S3 {pins:List (Addr × Obj)} {σ:St} {H:Hp} {s:Shared} {R:It -> Hp -> Prop} {E:Value -> Shared -> Prop} {lo hi:Int} {t u v:Tok} {tk:Nat} (I:Inv X pins σ H s) (h1:-(2 ^ 62) <= lo) (h2:lo < 2 ^ 62) (h3:-(2 ^ 62) <= hi) (h4:hi < 2 ^ 62)
  (q:R (T6 lo (hi - lo).toNat) H):wpAny (model X.prog X.w) X.A (pyIter (.ref s.heap.objs.size)) (a5G X pins σ tg R) E { s with heap:=s.heap.push { cls:=.type "range",data:=.fields #[.int lo t,.int hi u,.int 1 v] },toks:=tk }:=by
 refine wpAny_pyIter_range (IsRange.new ..) (small_one h1 h2 h3 h4) ?_
 have I1:Inv X pins σ H { s with heap:=s.heap.push { cls:=.type "range",data:=.fields #[.int lo t,.int hi u,.int 1 v] },toks:=tk }:=I.kept λb o e=>a0e _ e
 refine ⟨(s.heap.push { cls:=.type "range",data:=.fields #[.int lo t,.int hi u,.int 1 v] }).objs.size,[(s.heap.push { cls:=.type "range",data:=.fields #[.int lo t,.int hi u,.int 1 v] }).objs.size],_,_,H,rfl,
  I1.kept (t':=tk) λb o e=>a0e _ e,KA _ lo (hi - lo).toNat,?_,λb hb=>?_,q⟩
 ·have e1:lo + ((0:Nat):Int) * 1 = lo:=by simp
  have e2:(((hi - lo).toNat:Nat):Int) - ((0:Nat):Int) = Builtin.Range.rangeSize lo hi 1:=by rw [rangeSize_one];split <;> omega
  show IsRangeIter _ _ (lo + ((0:Nat):Int) * 1) ((((hi - lo).toNat:Nat):Int) - ((0:Nat):Int)) 1
  rw [e1,e2]
  exact a0y _ rfl
 ·have e:b = (s.heap.push { cls:=.type "range",data:=.fields #[.int lo t,.int hi u,.int 1 v] }).objs.size:=by simpa using hb
  subst e
  exact I1.fpOk (a0l _) (I1.hok.fresh (a0l _))
def L0 (ta:TA):TI:=λσ H R=>ta σ H λvs H1=>∃ j:Int,vs = [.int j] /\ -(2 ^ 62) <= j /\ j < 2 ^ 62 /\ R (T6 0 j.toNat) H1
theorem CM {a:Expr} {ta:TA} {p pos:Pos} (hg:Gl X "range") (hm:X.mg "range" = none) (ha:PA X [a] ta) (hs:starEach [a] X.env = [(false,eval a X.env)]:=by rfl):PI X tg (.Call (.Name "range" p) [a] [] pos) (L0 ta):=by
 intro pins s σ H R I h
 refine Call_ (zY I hg hm boot_range (a3v (dX (ha pos pins s σ H _ I h) λus s1 ⟨vs,H1,I1,r1,q1⟩=>?_) hs rfl))
 obtain ⟨j,e,q1,q2,q⟩:=q1
 subst e
 cases r1 with
 | cons r rr =>
  cases rr
  obtain ⟨t,rfl⟩:=r
  exact call_range_1 (S3 I1 (by omega) (by omega) q1 q2 (by simpa using q))
def SJ (wi:TI) (g:TG) (tb:TS):TS:=λD σ H=>wi σ H λJ H1=>∃ W:Nat -> Nat -> St -> Hp -> Prop,(∃ m,W 0 m σ H1) /\ ∀ i m σ H,W i m σ H ->
 (J.stop i H /\ D.nx σ H) \/ (J.go i H /\ ∃ N:St -> Hp -> Prop,(∀ σ' H',N σ' H' -> ∃ m',m' < m /\ W (i + 1) m' σ' H') /\ ∀ x H',J.yld i H x H' -> g x σ H' λσ2 H2=>tb { D with nx:=N,ct:=N,bk:=D.nx } σ2 H2)
def sX (fp:List Addr) (h:Heap):List (Addr × Obj):=fp.filterMap λb=>(h.get? b).map λo=>(b,o)
theorem g9 {fp:List Addr} {h:Heap} {b:Addr} {o:Obj} (hb:b ∈ fp) (e:h.get? b = some o):(b,o) ∈ sX fp h:=a3w.mpr ⟨b,hb,by rw [e];rfl⟩
theorem NJ {fp:List Addr} {h:Heap} {p:Addr × Obj} (hp:p ∈ sX fp h):p.1 ∈ fp /\ h.get? p.1 = some p.2:=by
 obtain ⟨b,hb,e⟩:=a3w.mp hp
 cases q:h.get? b with
 | none=>rw [q] at e;cases e
 | some o =>
  rw [q] at e
  have e':(b,o) = p:=a1i e
  subst e'
  exact ⟨hb,q⟩
theorem Inv.pinned {pins:List (Addr × Obj)} {σ:St} {H:Hp} {s:Shared} {fp:List Addr} (I:Inv X pins σ H s) (hf:∀ b ∈ fp,lB X pins H b) (ho:∀ b ∈ fp,∃ o,s.heap.get? b = some o /\ ∀ v,o.data ≠ .cell v):Inv X (pins ++ sX fp s.heap) σ H s :=
 I.pins_of λp hp=>(a1g.mp hp).elim (λz=>I.pin p (a0w _ z)) λz=>by
  obtain ⟨hb,e⟩:=NJ z
  obtain ⟨f0,f1,f2,_⟩:=hf p.1 hb
  obtain ⟨o,e',d⟩:=ho p.1 hb
  rw [e] at e';cases e'
  exact ⟨e,f0,f1,f2,d⟩
theorem Inv.unpinned {pins pl:List (Addr × Obj)} {σ:St} {H:Hp} {s:Shared} (I:Inv X (pins ++ pl) σ H s):Inv X pins σ H s:=I.pins_of λp hp=>I.pin p (a0w _ (a2r _ hp))
theorem RF {iter:Expr} {body:List Stmt} {wi:TI} {g:TG} {tb:TS} {pos:Pos} (hp:PassesOwn (model X.prog X.w) X.A X.env X.xe) (hc:X.calm = true) (hi:PI X tg iter wi) (hg:PG X tg g) (hb:BZ X body tb)
  (hs:∀ x,foldedSetIterable iter X.env x = pure x:=by intro _;rfl):PS X (.For tg iter body [] pos) (SJ wi g tb):=by
 intro pins s σ H D I h
 refine wpAny_For (dX (hi pins s σ H _ I h) λv s1 h1=>dX h1 λitv s2 h2=>?_) hs
 obtain ⟨it,fp,tn,J,H2,e,I2,T,st2,f2,W,⟨m0,w0⟩,turn⟩:=h2
 subst e
 have stat:∀ {H':Hp},(∀ b ∈ fp,H' b = none) -> ∀ b ∈ fp,lB X pins H' b:=λhn b hb=>⟨hn b hb,(f2 b hb).2⟩
 refine codeAny_forLoop_any (λn s'=>∃ i σ' H',Inv X pins σ' H' s' /\ tn i s'.heap /\ (∀ b ∈ fp,H' b = none) /\ W i n σ' H') ?_ m0 ⟨0,σ,H2,I2,st2,λb hb=>(f2 b hb).1,w0⟩
 rintro n s3 ⟨i,σ3,H3,I3,T4,fr3,w3⟩
 rcases turn i n σ3 H3 w3 with ⟨stop,qn⟩ | ⟨go,N,hN,step⟩
 ·refine a3z hp (dX (T.done X rfl rfl rfl hc i pins s3 σ3 H3 X.xe I3 (stat fr3) T4 stop) λr s4 ⟨hr,I4⟩=>?_)
  subst hr
  exact a68 ⟨σ3,H3,I4,qn⟩
 ·refine a3z hp (dX (T.item X rfl rfl rfl hc i pins s3 σ3 H3 X.xe I3 (stat fr3) T4 go) λr s4 ⟨u,hr,h4⟩=>?_)
  subst hr
  refine a3z hp (dX h4 λ_ s5 ⟨x,H5,I5,r5,y5,st5,fr5⟩=>?_)
  have I5':=I5.pinned (stat fr5) (T.obj _ _ st5)
  refine a3z hp (dX (hg _ s5 σ3 H5 x u _ I5' r5 (step x H5 y5)) λ_ s6 ⟨σ6,H6,I6,q6⟩=>?_)
  refine a3z hp (dX (hb _ s6 σ6 H6 _ I6 q6) λf s7 q7=>?_)
  have again:∀ {σ7:St} {H7:Hp},Inv X (pins ++ sX fp s5.heap) σ7 H7 s7 -> N σ7 H7 -> ∃ m,m < n /\ ∃ i σ' H',Inv X pins σ' H' s7 /\ tn i s7.heap /\ (∀ b ∈ fp,H' b = none) /\ W i m σ' H':=fun {σ7 H7} I7 n7=>by
   obtain ⟨m',hm,w7⟩:=hN σ7 H7 n7
   refine ⟨m',hm,i + 1,σ7,H7,I7.unpinned,T.keep _ _ _ st5 λb hb o e=>(I7.pin (b,o) (a0w _ (a0w _ (g9 hb e)))).1,λb hb=>?_,w7⟩
   obtain ⟨o,e,d⟩:=T.obj _ _ st5 b hb
   exact (I7.pin (b,o) (a0w _ (a0w _ (g9 hb e)))).2.1
  cases f with
  | next=>obtain ⟨σ7,H7,I7,n7⟩:=q7;exact again I7 n7
  | cont=>obtain ⟨σ7,H7,I7,n7⟩:=q7;exact again I7 n7
  | brk=>obtain ⟨σ7,H7,I7,q7⟩:=q7;exact ⟨σ7,H7,I7.unpinned,q7⟩
  | ret v=>obtain ⟨x7,σ7,H7,I7,r7,q7⟩:=q7;exact ⟨x7,σ7,H7,I7.unpinned,r7,q7⟩
end
theorem N5 {lo:Int} {n:Nat} {g:TG} {tb:TS} {D:Ends} {σ:St} {H:Hp} (Pv:Nat -> St -> Hp -> Prop) (h0:Pv 0 σ H)
  (hs:∀ i σ H,i < n -> Pv i σ H -> g (.int (lo + i)) σ H λσ2 H2=>tb { D with nx:=Pv (i + 1),ct:=Pv (i + 1),bk:=D.nx } σ2 H2) (hd:∀ σ H,Pv n σ H -> D.nx σ H) :
  ∃ W:Nat -> Nat -> St -> Hp -> Prop,(∃ m,W 0 m σ H) /\ ∀ i m σ H,W i m σ H ->
   ((T6 lo n).stop i H /\ D.nx σ H) \/ ((T6 lo n).go i H /\ ∃ N:St -> Hp -> Prop,(∀ σ' H',N σ' H' -> ∃ m',m' < m /\ W (i + 1) m' σ' H') /\ ∀ x H',(T6 lo n).yld i H x H' -> g x σ H' λσ2 H2=>tb { D with nx:=N,ct:=N,bk:=D.nx } σ2 H2):=by
 refine ⟨λi m σ H=>m = n - i /\ i <= n /\ Pv i σ H,⟨n,by simp,a2u _,h0⟩,?_⟩
 rintro i m σ H ⟨rfl,hi,p⟩
 by_cases hlt:i < n
 ·refine .inr ⟨hlt,Pv (i + 1),λσ' H' p'=>⟨n - (i + 1),by omega,rfl,hlt,p'⟩,λx H' y=>?_⟩
  obtain ⟨e,y⟩:=y
  subst e y
  exact hs i σ _ hlt p
 ·have e:i = n:=by omega
  subst e
  exact .inl ⟨a0l _,hd σ H p⟩
abbrev R2:=V -> V -> Hp -> VK -> Prop
def tJ (X:Cx) (f:Value -> Value -> Sem Value) (r:R2):Prop :=
 ∀ (pins:List (Addr × Obj)) (s:Shared) (σ:St) (H:Hp) (x y:V) (v u:Value) (Q:VK),Inv X pins σ H s -> bR x v -> bR y u -> r x y H Q ->
  wpAny (model X.prog X.w) X.A (f v u) (EP X pins σ Q) X.xe s
def a46 (X:Cx) (f:Value -> Sem Value) (r:V -> Hp -> VK -> Prop):Prop :=
 ∀ (pins:List (Addr × Obj)) (s:Shared) (σ:St) (H:Hp) (x:V) (v:Value) (Q:VK),Inv X pins σ H s -> bR x v -> r x H Q ->
  wpAny (model X.prog X.w) X.A (f v) (EP X pins σ Q) X.xe s
def i8 (X:Cx) (f:Value) (r:List V -> Hp -> VK -> Prop):Prop :=
 ∀ (pins:List (Addr × Obj)) (s:Shared) (σ:St) (H:Hp) (xs:List V) (us:List Value) (Q:VK),Inv X pins σ H s -> bF xs us -> r xs H Q ->
  wpAny (model X.prog X.w) X.A (call f us) (EP X pins σ Q) X.xe s
def a4J (X:Cx) (r:V -> Hp -> (Bool -> Hp -> Prop) -> Prop):Prop :=
 ∀ (pins:List (Addr × Obj)) (s:Shared) (σ:St) (H:Hp) (x:V) (v:Value) (Q:Bool -> Hp -> Prop),Inv X pins σ H s -> bR x v -> r x H Q ->
  wpAny (model X.prog X.w) X.A (truthy v) (TP X pins σ Q) X.xe s
def SL (r:R2) (ta tb:TE):TE:=λσ H Q=>ta σ H λx H1=>tb σ H1 λy H2=>r x y H2 Q
def a4A (r:V -> Hp -> VK -> Prop) (ta:TE):TE:=λσ H Q=>ta σ H λx H1=>r x H1 Q
def rI (C:Int -> Int -> Prop) (g:Int -> Int -> V):R2:=λx y H Q=>∃ i j,x = .int i /\ y = .int j /\ C i j /\ Q (g i j) H
def BN (g:Int -> Int -> V):R2:=λx y H Q=>∃ i j,x = .int i /\ y = .int j /\ Q (g i j) H
def rU (g:Int -> V):V -> Hp -> VK -> Prop:=λx H Q=>∃ i,x = .int i /\ Q (g i) H
section
variable {X:Cx} {a b c:Expr} {ta tb tc:TE} {pos:Pos}
theorem XT (ha:PE X a ta) (hb:PE X b tb) {pins:List (Addr × Obj)} {s:Shared} {σ:St} {H:Hp} {R:V -> V -> Hp -> Prop} (I:Inv X pins σ H s)
  (h:ta σ H λx H1=>tb σ H1 λy H2=>R x y H2) {Q:Value -> Shared -> Prop} {f:Value -> Value -> Sem Value}
  (hf:∀ v u s2 x y H2,Inv X pins σ H2 s2 -> bR x v -> bR y u -> R x y H2 -> wpAny (model X.prog X.w) X.A (f v u) Q X.xe s2) :
  wpAny (model X.prog X.w) X.A (eval a X.env) (λv s₁=>wpAny (model X.prog X.w) X.A (eval b X.env) (λu s₂=>wpAny (model X.prog X.w) X.A (f v u) Q X.xe s₂) X.xe s₁) X.xe s:=by
 refine dX (ha pins s σ H _ I h) λv s1 ⟨x,H1,I1,r1,q1⟩=>?_
 refine dX (hb pins s1 σ H1 _ I1 q1) λu s2 ⟨y,H2,I2,r2,q2⟩=>?_
 exact hf v u s2 x y H2 I2 r1 r2 q2
theorem GV {op:Operator} {r:R2} (ho:tJ X (binaryOp op) r) (ha:PE X a ta) (hb:PE X b tb):PE X (.BinOp a op b pos) (SL r ta tb):=by
 intro pins s σ H Q I h
 exact wpAny_BinOp (XT ha hb I h λv u s2 x y H2 I2 rx ry q=>ho pins s2 σ H2 x y v u Q I2 rx ry q)
theorem XE {op:UnaryOp} {r:V -> Hp -> VK -> Prop} (ho:a46 X (unaryOp op) r) (ha:PE X a ta):PE X (.UnaryOp op a pos) (a4A r ta):=by
 intro pins s σ H Q I h
 exact UnaryOp_ (dX (ha pins s σ H _ I h) λv s1 ⟨x,H1,I1,r1,q1⟩=>ho pins s1 σ H1 x v Q I1 r1 q1)
theorem a48 {f:Value -> Value -> Sem Value} {C:Int -> Int -> Prop} {g:Int -> Int -> Int}
  (rule:∀ (i j:Int) (t u:Tok) (s:Shared) (Q:Value -> Shared -> Prop) (E:Value -> Shared -> Prop),C i j -> Q (.int (g i j) s.toks) { s with toks:=s.toks + 1 } -> wpAny (model X.prog X.w) X.A (f (.int i t) (.int j u)) Q E s) :
  tJ X f (rI C λi j=>.int (g i j)):=by
 intro pins s σ H x y v u Q I rx ry h
 obtain ⟨i,j,rfl,rfl,hc,q⟩:=h
 obtain ⟨t,rfl⟩:=rx
 obtain ⟨t',rfl⟩:=ry
 exact rule i j t t' s _ _ hc ⟨.int (g i j),H,I.tok _,⟨_,rfl⟩,q⟩
theorem a2U {f:Value -> Value -> Sem Value} {g:Int -> Int -> Int}
  (rule:∀ (i j:Int) (t u:Tok) (s:Shared) (Q:Value -> Shared -> Prop) (E:Value -> Shared -> Prop),Q (.int (g i j) s.toks) { s with toks:=s.toks + 1 } -> wpAny (model X.prog X.w) X.A (f (.int i t) (.int j u)) Q E s) :
  tJ X f (BN λi j=>.int (g i j)):=by
 intro pins s σ H x y v u Q I rx ry h
 obtain ⟨i,j,rfl,rfl,q⟩:=h
 obtain ⟨t,rfl⟩:=rx
 obtain ⟨t',rfl⟩:=ry
 exact rule i j t t' s _ _ ⟨.int (g i j),H,I.tok _,⟨_,rfl⟩,q⟩
theorem ZT {f:Value -> Value -> Sem Value} {g:Int -> Int -> Bool}
  (rule:∀ (i j:Int) (t u:Tok) (s:Shared) (Q:Value -> Shared -> Prop) (E:Value -> Shared -> Prop),Q (.bool (g i j)) s -> wpAny (model X.prog X.w) X.A (f (.int i t) (.int j u)) Q E s) :
  tJ X f (BN λi j=>.bl (g i j)):=by
 intro pins s σ H x y v u Q I rx ry h
 obtain ⟨i,j,rfl,rfl,q⟩:=h
 obtain ⟨t,rfl⟩:=rx
 obtain ⟨t',rfl⟩:=ry
 exact rule i j t t' s _ _ ⟨.bl (g i j),H,I,rfl,q⟩
def B7 (i j:Int):Prop:=0 <= j /\ j <= 1000000 /\ i.natAbs < 2 ^ 64
def B6 (i j:Int):Prop:=(-(2 ^ 64) < i /\ i < 2 ^ 64) \/ (-(2 ^ 64) < j /\ j < 2 ^ 64)
theorem B6.ok {i j:Int} (h:B6 i j):IntMulOk i j:=by
 rcases h with ⟨h1,h2⟩ | ⟨h1,h2⟩
 ·exact .of_left (intBits_le_64 h1 h2)
 ·exact .of_right (intBits_le_64 h1 h2)
theorem ZU:tJ X (binaryOp .Add) (BN λi j=>.int (i + j)):=a2U λ_ _ _ _ _ _ _ q=>add_int q
theorem a02:tJ X (binaryOp .Sub) (BN λi j=>.int (i - j)):=a2U λ_ _ _ _ _ _ _ q=>sub_int q
theorem ZZ:tJ X (binaryOp .Mult) (rI B6 λi j=>.int (i * j)):=a48 λ_ _ _ _ _ _ _ hc q=>mul_int q hc.ok
theorem ZY:tJ X (binaryOp .Mod) (rI (λ_ j=>0 < j) λi j=>.int (i % j)):=a48 λi j _ _ _ _ _ hc q=>by
 have h1:(0:Int) < j:=hc
 exact mod_int' (by omega) (by rw [Int.fmod_eq_emod_of_nonneg i (by omega)];exact q)
theorem a00:tJ X (binaryOp .Pow) (rI B7 λi j=>.int (i ^ j.toNat)):=a48 λ_ _ _ _ _ _ _ hc q=>pow_int_small hc.1 hc.2.1 hc.2.2 q
theorem a63 {f:Value -> Sem Value} {g:Int -> Int}
  (rule:∀ (i:Int) (t:Tok) (s:Shared) (Q:Value -> Shared -> Prop) (E:Value -> Shared -> Prop),Q (.int (g i) s.toks) { s with toks:=s.toks + 1 } -> wpAny (model X.prog X.w) X.A (f (.int i t)) Q E s) :
  a46 X f (rU λi=>.int (g i)):=by
 intro pins s σ H x v Q I rx h
 obtain ⟨i,rfl,q⟩:=h
 obtain ⟨t,rfl⟩:=rx
 exact rule i t s _ _ ⟨.int (g i),H,I.tok _,⟨_,rfl⟩,q⟩
theorem a1H:a46 X (unaryOp .USub) (rU λi=>.int (-i)):=a63 λ_ _ _ _ _ q=>neg_int q
end
def a3N:V -> V -> Bool
 | .non,.non=>true | .non,.int _=>true | .int _,.non=>true | .non,.bl _=>true | .bl _,.non=>true | .non,.str _=>true | .str _,.non=>true
 | .int _,.int _=>true | .bl _,.bl _=>true | .str _,.str _=>true | .byt _,.byt _=>true
 | .int _,.str _=>true | .str _,.int _=>true | .bl _,.str _=>true | .str _,.bl _=>true
 | _,_=>false
def a50:R2:=λx y H Q=>a3N x y = true /\ Q (.bl (decide (x = y))) H
def a52:R2:=λx y H Q=>a3N x y = true /\ Q (.bl (!decide (x = y))) H
theorem KM {i j:Int}:decide (V.int i = V.int j) = (i == j):=by
 rw [a4s]
 simp
theorem P4 {i j:Bool}:decide (V.bl i = V.bl j) = (i == j):=by
 rw [a4s]
 simp
theorem KN {i j:Str}:decide (V.str i = V.str j) = (i == j):=by
 rw [a4s]
 simp
theorem KL {i j:Array UInt8}:decide (V.byt i = V.byt j) = (i.toList == j.toList):=by
 rw [a4s]
 cases i
 cases j
 simp
section
variable {X:Cx} {a b c:Expr} {ta tb tc:TE} {pos:Pos}
theorem bI {pins:List (Addr × Obj)} {σ:St} {H:Hp} {s:Shared} {Q:VK} {k k':Bool} (I:Inv X pins σ H s) (q:Q (.bl k) H) (e:k = k'):EP X pins σ Q (.bool k') s:=by
 subst e
 exact ⟨.bl k,H,I,rfl,q⟩
theorem a2V:tJ X (compareOp .Eq) a50:=by
 intro pins s σ H x y v u Q I rx ry h
 obtain ⟨hs,q⟩:=h
 cases x with
 | non =>
  cases rx
  cases y with
  | non=>cases ry;exact PySem.EqNone.eq_none_none (bI I q (by simp))
  | bl j=>cases ry;exact PySem.EqNone.eq_none_bool (bI I q (by simp))
  | int j=>obtain ⟨t',rfl⟩:=ry;exact PySem.EqNone.eq_none_int (bI I q (by simp))
  | str j=>obtain ⟨t',rfl⟩:=ry;exact PySem.EqNone.eq_none_str (bI I q (by simp))
  | _=>exact absurd (show false = true from hs) a0j
 | bl i =>
  cases rx
  cases y with
  | non=>cases ry;exact PySem.EqNone.eq_bool_none (bI I q (by simp))
  | bl j=>cases ry;exact eq_bool (bI I q P4)
  | str j=>obtain ⟨t',rfl⟩:=ry;exact PySem.EqMixed.eq_bool_str (bI I q (by simp))
  | _=>exact absurd (show false = true from hs) a0j
 | int i =>
  obtain ⟨t,rfl⟩:=rx
  cases y with
  | non=>cases ry;exact PySem.EqNone.eq_int_none (bI I q (by simp))
  | int j=>obtain ⟨t',rfl⟩:=ry;exact eq_int (bI I q KM)
  | str j=>obtain ⟨t',rfl⟩:=ry;exact PySem.EqMixed.eq_int_str (bI I q (by simp))
  | _=>exact absurd (show false = true from hs) a0j
 | str i =>
  obtain ⟨t,rfl⟩:=rx
  cases y with
  | non=>cases ry;exact PySem.EqNone.eq_str_none (bI I q (by simp))
  | bl j=>cases ry;exact PySem.EqMixed.eq_str_bool (bI I q (by simp))
  | int j=>obtain ⟨t',rfl⟩:=ry;exact PySem.EqMixed.eq_str_int (bI I q (by simp))
  | str j=>obtain ⟨t',rfl⟩:=ry;exact eq_str (bI I q KN)
  | _=>exact absurd (show false = true from hs) a0j
 | byt i =>
  obtain ⟨t,rfl⟩:=rx
  cases y with
  | byt j=>obtain ⟨t',rfl⟩:=ry;exact PySem.W.eq_bytes (bI I q KL)
  | _=>exact absurd (show false = true from hs) a0j
 | _=>cases y <;> exact absurd (show false = true from hs) a0j
theorem a2Z:tJ X (compareOp .NotEq) a52:=by
 intro pins s σ H x y v u Q I rx ry h
 obtain ⟨hs,q⟩:=h
 cases x with
 | non =>
  cases rx
  cases y with
  | non=>cases ry;exact PySem.EqNone.ne_none_none (bI I q (by simp))
  | bl j=>cases ry;exact PySem.EqNone.ne_none_bool (bI I q (by simp))
  | int j=>obtain ⟨t',rfl⟩:=ry;exact PySem.EqNone.ne_none_int (bI I q (by simp))
  | str j=>obtain ⟨t',rfl⟩:=ry;exact PySem.EqNone.ne_none_str (bI I q (by simp))
  | _=>exact absurd (show false = true from hs) a0j
 | bl i =>
  cases rx
  cases y with
  | non=>cases ry;exact PySem.EqNone.ne_bool_none (bI I q (by simp))
  | bl j=>cases ry;exact ne_bool (bI I q (congrArg not P4))
  | str j=>obtain ⟨t',rfl⟩:=ry;exact PySem.EqMixed.ne_bool_str (bI I q (by simp))
  | _=>exact absurd (show false = true from hs) a0j
 | int i =>
  obtain ⟨t,rfl⟩:=rx
  cases y with
  | non=>cases ry;exact PySem.EqNone.ne_int_none (bI I q (by simp))
  | int j=>obtain ⟨t',rfl⟩:=ry;exact ne_int (bI I q (congrArg not KM))
  | str j=>obtain ⟨t',rfl⟩:=ry;exact PySem.EqMixed.ne_int_str (bI I q (by simp))
  | _=>exact absurd (show false = true from hs) a0j
 | str i =>
  obtain ⟨t,rfl⟩:=rx
  cases y with
  | non=>cases ry;exact PySem.EqNone.ne_str_none (bI I q (by simp))
  | bl j=>cases ry;exact PySem.EqMixed.ne_str_bool (bI I q (by simp))
  | int j=>obtain ⟨t',rfl⟩:=ry;exact PySem.EqMixed.ne_str_int (bI I q (by simp))
  | str j=>obtain ⟨t',rfl⟩:=ry;exact ne_str (bI I q (congrArg not KN))
  | _=>exact absurd (show false = true from hs) a0j
 | byt i =>
  obtain ⟨t,rfl⟩:=rx
  cases y with
  | byt j=>obtain ⟨t',rfl⟩:=ry;exact PySem.W.ne_bytes (bI I q (congrArg not KL))
  | _=>exact absurd (show false = true from hs) a0j
 | _=>cases y <;> exact absurd (show false = true from hs) a0j
theorem a2Y:tJ X (compareOp .Lt) (BN λi j=>.bl (decide (i < j))):=ZT λ_ _ _ _ _ _ _ q=>lt_int q
theorem a2X:tJ X (compareOp .LtE) (BN λi j=>.bl (decide (i <= j))):=ZT λ_ _ _ _ _ _ _ q=>le_int q
theorem a2W:tJ X (compareOp .Gt) (BN λi j=>.bl (decide (j < i))):=ZT λ_ _ _ _ _ _ _ q=>gt_int q
theorem ZX:tJ X (compareOp .Is) (λx y H Q=>y = .non /\ Q (.bl (decide (x = .non))) H):=by
 intro pins s σ H x y v u Q I rx ry h
 obtain ⟨rfl,q⟩:=h
 cases ry
 refine is_none_gen (bI I q ?_)
 cases x <;> first
  | (cases rx;rfl)
  | (obtain ⟨t,rfl⟩:=rx;rfl)
theorem V4:tJ X (compareOp .IsNot) (λx y H Q=>y = .non /\ Q (.bl (!decide (x = .non))) H):=by
 intro pins s σ H x y v u Q I rx ry h
 obtain ⟨rfl,q⟩:=h
 cases ry
 refine isnot_none_gen (bI I q ?_)
 cases x <;> first
  | (cases rx;rfl)
  | (obtain ⟨t,rfl⟩:=rx;rfl)
theorem eC (b:Expr) {op:CmpOp} (h:op ≠ .In:=by decide) (h2:op ≠ .NotIn:=by decide):behindInMarks op b = false:=by
 have e1:(op == CmpOp.In) = false:=by cases op <;> first | rfl | exact absurd rfl h
 have e2:(op == CmpOp.NotIn) = false:=by cases op <;> first | rfl | exact absurd rfl h2
 cases b <;> simp [behindInMarks,e1,e2]
theorem V7 {op:CmpOp} {r:R2} (ho:tJ X (compareOp op) r) (ha:PE X a ta) (hb:PE X b tb) (hm:behindInMarks op b = false):PE X (.Compare a [op] [b] pos) (SL r ta tb):=by
 intro pins s σ H Q I h
 exact wpAny_Compare1 (XT ha hb I h λv u s2 x y H2 I2 rx ry q=>ho pins s2 σ H2 x y v u Q I2 rx ry q) hm
def M5 (t:TE):TT:=λσ H Q=>t σ H λx H'=>∃ k,x = .bl k /\ Q k H'
theorem LM {op:CmpOp} {r:R2} (ho:tJ X (compareOp op) r) (ha:PE X a ta) (hb:PE X b tb) (hm:behindInMarks op b = false):PT X (.Compare a [op] [b] pos) (M5 (SL r ta tb)):=by
 intro pins s σ H Q I h
 refine wpAny_isTrue_Compare1 (dX (ha pins s σ H _ I h) λv s1 ⟨x,H1,I1,r1,q1⟩=>dX (hb pins s1 σ H1 _ I1 q1) λu s2 ⟨y,H2,I2,r2,q2⟩ =>
  dX (ho pins s2 σ H2 x y v u _ I2 r1 r2 q2) λc s3 ⟨z,H3,I3,r3,k,e,q3⟩=>?_) hm
 subst e
 cases r3
 exact a5m ⟨H3,I3,q3⟩
def SH (r r':R2) (ta tb tc:TE):TE:=λσ H Q=>ta σ H λx H1=>tb σ H1 λy H2=>r x y H2 λz H3=>∃ k,z = .bl k /\
 (if k = true then tc σ H3 λw' H4=>r' y w' H4 Q else Q (.bl false) H3)
theorem R0 {op op':CmpOp} {r r':R2} (ho:tJ X (compareOp op) r) (ho':tJ X (compareOp op') r') (ha:PE X a ta) (hb:PE X b tb) (hc:PE X c tc)
  (hm:lastMarks [op,op'] [b,c] = false:=by with_unfolding_all rfl):PE X (.Compare a [op,op'] [b,c] pos) (SH r r' ta tb tc):=by
 intro pins s σ H Q I h
 refine Compare_chain (dX (ha pins s σ H _ I h) λv s1 ⟨x,H1,I1,r1,q1⟩=>chain_link (dX (hb pins s1 σ H1 _ I1 q1) λu s2 ⟨y,H2,I2,r2,q2⟩ =>
  dX (ho pins s2 σ H2 x y v u _ I2 r1 r2 q2) λd s3 ⟨z,H3,I3,r3,k,e,q3⟩=>?_)) hm
 subst e
 cases r3
 refine a5m ?_
 cases k with
 | false=>exact ite_ff ⟨.bl false,H3,I3,rfl,q3⟩
 | true=>exact ite_tt (chain_last (dX (hc pins s3 σ H3 _ I3 q3) λw' s4 ⟨z',H4,I4,r4,q4⟩=>ho' pins s4 σ H4 y z' u w' Q I4 r2 r4 q4))
def a1X (K:PySem.W.Frag) (x:V) (H:Hp) (k:Bool):Prop :=
 match x with
 | .non=>k = false
 | .bl b=>k = b
 | .int i=>k = (i != 0)
 | .str y=>y.length <= sizeLine /\ k = ((y.length:Int) != 0)
 | .byt y=>y.size <= sizeLine /\ k = ((y.size:Int) != 0)
 | .ref p=>(∃ xs,fN K H p xs /\ k = !xs.isEmpty) \/ (∃ xs,mF K H p xs /\ k = !xs.isEmpty) \/ ∃ kvs,H p = some (.dK kvs) /\ k = !kvs.isEmpty
 | _=>False
theorem J9 {κ:Type} {kvs:List (κ × V)} {vs:List (κ × Value)} (r:KV kvs vs):(!vs.isEmpty) = !kvs.isEmpty:=by
 cases r <;> rfl
theorem zV {xs:List V} {its:List Value} (r:bF xs its):(!its.toArray.isEmpty) = !xs.isEmpty:=by
 cases r <;> simp
theorem sM:(sizeLine:Nat) < 2 ^ 63:=by rw [sizeLine_eq];decide
theorem a1E:a4J X (λx H Q=>∃ k,a1X X.K x H k /\ Q k H):=by
 intro pins s σ H x v Q I rx h
 obtain ⟨k,e,q⟩:=h
 have hl:=sM
 have hs:sizeLine = 16777216:=sizeLine_eq
 cases x with
 | non =>
  cases rx
  have e':k = false:=e
  subst e'
  exact truthy_none ⟨H,I,q⟩
 | bl b =>
  cases rx
  have e':k = b:=e
  subst e'
  exact a5m ⟨H,I,q⟩
 | int i =>
  obtain ⟨t,rfl⟩:=rx
  have e':k = (i != 0):=e
  subst e'
  exact PySem.P.truthy_int ⟨H,I,q⟩
 | str y =>
  obtain ⟨t,rfl⟩:=rx
  obtain ⟨hy,e'⟩ : y.length <= sizeLine /\ k = ((y.length:Int) != 0):=e
  subst e'
  exact PySem.P.truthy_str (by omega) ⟨H,I.tok _,q⟩
 | byt y =>
  obtain ⟨t,rfl⟩:=rx
  obtain ⟨hy,e'⟩ : y.size <= sizeLine /\ k = ((y.size:Int) != 0):=e
  subst e'
  exact PySem.W.truthy_bytes (by omega) ⟨H,I.tok _,q⟩
 | ref p =>
  cases rx
  have e':(∃ xs,fN X.K H p xs /\ k = !xs.isEmpty) \/ (∃ xs,mF X.K H p xs /\ k = !xs.isEmpty) \/ ∃ kvs,H p = some (.dK kvs) /\ k = !kvs.isEmpty:=e
  rcases e' with ⟨xs,hx,e'⟩ | ⟨xs,hx,e'⟩ | ⟨kvs,hx,e'⟩
  ·subst e'
   obtain ⟨its,r,pl,hz⟩:=I.list hx
   have hlen:=r.length
   exact wpAny_truthy_list pl.isList (by simp only [a0t];omega) ⟨H,I.tok _,by rw [zV r];exact q⟩
  ·subst e'
   obtain ⟨its,r,pl,hz⟩:=I.tuple hx
   have hlen:=r.length
   exact truthy_tuple pl (by simp only [a0t];omega) ⟨H,I.tok _,by rw [zV r];exact q⟩
  ·subst e'
   obtain ⟨hz,hS,vs,r,m⟩ : kvs.length <= sizeLine /\ (p == sysModules) = false /\ ∃ vs,KV kvs vs /\ s.heap.DictOf (cG X.prog X.w) p vs:=I.hok p _ hx
   have hlen:kvs.length = vs.length:=Paired.length r
   exact wpAny_truthy_dict hS m (by omega) ⟨H,I.tok _,by rw [J9 r];exact q⟩
 | _=>exact (show False from e).elim
theorem JP:tJ X (binaryOp .Add) (λx y H Q=>∃ i j,x = .str i /\ y = .str j /\ i.length + j.length <= sizeLine /\ Q (.str (i ++ j)) H):=by
 intro pins s σ H x y v u Q I rx ry h
 obtain ⟨i,j,rfl,rfl,hz,q⟩:=h
 obtain ⟨t,rfl⟩:=rx
 obtain ⟨t',rfl⟩:=ry
 exact add_str (λt' tk=>⟨.str (i ++ j),H,I.tok _,⟨_,rfl⟩,q⟩) hz
theorem rH {x:V} {us:List Value} (r:bF [x] us):∃ u,us = [u] /\ bR x u:=by
 cases r with
 | cons r1 r2=>cases r2;exact ⟨_,rfl,r1⟩
theorem SR {x y:V} {us:List Value} (r:bF [x,y] us):∃ u w',us = [u,w'] /\ bR x u /\ bR y w':=by
 cases r with
 | cons r1 r2 =>
  cases r2 with
  | cons r3 r4=>cases r4;exact ⟨_,_,rfl,r1,r3⟩
theorem ML (hc:X.calm = true):i8 X (.builtin "max") (λxs H Q=>∃ i j,xs = [.int i,.int j] /\ Q (.int (if j > i then j else i)) H):=by
 intro pins s σ H xs us Q I r h
 obtain ⟨i,j,rfl,q⟩:=h
 obtain ⟨u,w',rfl,⟨t,rfl⟩,⟨t',rfl⟩⟩:=SR r
 refine max_two_ints (I.ok.hd hc) λh' tk k=>⟨_,H,I.kept k,?_,q⟩
 by_cases hj:j > i
 ·rw [if_pos hj,if_pos hj];exact ⟨_,rfl⟩
 ·rw [if_neg hj,if_neg hj];exact ⟨_,rfl⟩
theorem MM (hc:X.calm = true):i8 X (.builtin "min") (λxs H Q=>∃ i j,xs = [.int i,.int j] /\ Q (.int (if j < i then j else i)) H):=by
 intro pins s σ H xs us Q I r h
 obtain ⟨i,j,rfl,q⟩:=h
 obtain ⟨u,w',rfl,⟨t,rfl⟩,⟨t',rfl⟩⟩:=SR r
 refine min_two_ints (I.ok.hd hc) λh' tk k=>⟨_,H,I.kept k,?_,q⟩
 by_cases hj:j < i
 ·rw [if_pos hj,if_pos hj];exact ⟨_,rfl⟩
 ·rw [if_neg hj,if_neg hj];exact ⟨_,rfl⟩
theorem MK:i8 X (.type "int") (λxs H Q=>(∃ i,xs = [.int i] /\ Q (.int i) H) \/ ∃ k,xs = [.bl k] /\ Q (.int (if k then 1 else 0)) H):=by
 intro pins s σ H xs us Q I r h
 rcases h with ⟨i,rfl,q⟩ | ⟨k,rfl,q⟩
 ·obtain ⟨u,rfl,t,rfl⟩:=rH r
  exact call_int_int ⟨.int i,H,I,⟨_,rfl⟩,q⟩
 ·obtain ⟨u,rfl,r1⟩:=rH r
  cases r1
  exact call_int_bool ⟨.int (if k then 1 else 0),H,I.tok _,⟨_,rfl⟩,q⟩
def a1V (K:PySem.W.Frag) (x:V) (H:Hp) (n:Nat):Prop :=
 match x with
 | .str y=>y.length <= sizeLine /\ n = y.length
 | .byt y=>y.size <= sizeLine /\ n = y.size
 | .ref p=>(∃ xs,fN K H p xs /\ n = xs.length) \/ ∃ xs,mF K H p xs /\ n = xs.length
 | _=>False
theorem OY:i8 X (.builtin "len") (λxs H Q=>∃ x n,xs = [x] /\ a1V X.K x H n /\ Q (.int n) H):=by
 intro pins s σ H xs us Q I r h
 obtain ⟨x,n,rfl,e,q⟩:=h
 obtain ⟨u,rfl,rx⟩:=rH r
 have hl:=sM
 have hs:sizeLine = 16777216:=sizeLine_eq
 cases x with
 | str y =>
  obtain ⟨t,rfl⟩:=rx
  obtain ⟨hy,e'⟩ : y.length <= sizeLine /\ n = y.length:=e
  subst e'
  exact len_str (by omega) ⟨.int _,H,I.tok _,⟨_,rfl⟩,q⟩
 | byt y =>
  obtain ⟨t,rfl⟩:=rx
  obtain ⟨hy,e'⟩ : y.size <= sizeLine /\ n = y.size:=e
  subst e'
  exact PySem.W.len_bytes (by omega) ⟨.int _,H,I.tok _,⟨_,rfl⟩,q⟩
 | ref p =>
  cases rx
  have e':(∃ xs,fN X.K H p xs /\ n = xs.length) \/ ∃ xs,mF X.K H p xs /\ n = xs.length:=e
  rcases e' with ⟨xs,hx,e'⟩ | ⟨xs,hx,e'⟩
  ·subst e'
   obtain ⟨its,r',pl,hz⟩:=I.list hx
   have hlen:=r'.length
   exact Calls.call_len_list pl.isList (by simp only [a0t];omega) ⟨.int xs.length,H,I.tok _,⟨_,by simp only [a0t];rw [hlen]⟩,q⟩
  ·subst e'
   obtain ⟨its,r',pl,hz⟩:=I.tuple hx
   have hlen:=r'.length
   exact len_tuple pl (by simp only [a0t];omega) ⟨.int xs.length,H,I.tok _,⟨_,by simp only [a0t];rw [hlen]⟩,q⟩
 | _=>exact (show False from e).elim
end
theorem yA.some_of {v:V} {o:Option Value} (r:yA (some v) o):∃ u,o = some u /\ bR v u:=by
 cases o with
 | none=>exact (show False from r).elim
 | some u=>exact ⟨u,rfl,r⟩
structure Room (k:Nat) (A:Around):Prop where
 hd:A.handled = none
 dp:A.depth + 3 * k + 5 < recursionLimit
 un:A.units + 16 * k + 200 < cLine
theorem Room.mono {j k:Nat} {A:Around} (r:Room k A) (h:j <= k):Room j A:=⟨r.hd,by have:=r.dp;omega,by have:=r.un;omega⟩
theorem Room.deeper {k:Nat} {A:Around} (r:Room (k + 1) A) (env:Env):Room k (A.deeper env) :=
 ⟨r.hd,by have:=r.dp;show A.depth + 1 + 3 * k + 5 < _;omega,by have:=r.un;show A.units + 3 + 16 * k + 200 < _;omega⟩
theorem Room.depth {k:Nat} {A:Around} (r:Room k A):A.depth < recursionLimit:=by have:=r.dp;omega
theorem Room.units {k:Nat} {A:Around} (r:Room k A):A.units + 64 < cLine:=by have:=r.un;omega
def SK:TA:=λ_ H Q=>Q [] H
def I0 (ta:TE) (tr:TA):TA:=λσ H Q=>ta σ H λx H1=>tr σ H1 λxs H2=>Q (x :: xs) H2
section
variable {X:Cx} {e:Expr} {es:List Expr} {te:TE} {t:TA} {pos:Pos}
theorem nM:PA X [] SK:=λ_ _ _ _ H Q I h=>Calls.spliced_nil ⟨[],H,I,.nil,h⟩
theorem iV (ha:PE X e te) (hr:PA X es t) (hs:starEach (e :: es) X.env = (false,eval e X.env) :: starEach es X.env:=by rfl):PA X (e :: es) (I0 te t):=by
 intro pos pins s σ H Q I h
 rw [hs]
 show wpAny _ _ (spliced ((false,eval e X.env) :: backTo pos (starEach es X.env))) _ _ s
 refine Calls.spliced_cons (dX (ha pins s σ H _ I h) λu s1 ⟨x,H1,I1,r1,q1⟩=>?_)
 exact dX (hr pos pins s1 σ H1 _ I1 q1) λus s2 ⟨xs,H2,I2,r2,q2⟩=>⟨x :: xs,H2,I2,.cons r1 r2,q2⟩
def a5D (t:TA):TE:=λσ H Q=>t σ H λxs H1=>xs.length <= sizeLine /\ ∀ p,H1 p = none -> Q (.ref p) (c7 H1 p (.tup xs))
def WL (t:TA):TE:=λσ H Q=>t σ H λxs H1=>xs.length <= sizeLine /\ ∀ p,H1 p = none -> Q (.ref p) (c7 H1 p (.lst xs))
theorem a0C {x1} (h:PA X es t):PE X (.Tuple es x1 pos) (a5D t):=by
 intro pins s σ H Q I hq
 refine wpAny_Tuple_spliced (dX (h pos pins s σ H _ I hq) λus s1 ⟨xs,H1,I1,r,z,q⟩=>⟨by rw [<- r.length];exact z,?_⟩)
 have hf:H1 s1.heap.objs.size = none:=I1.hok.fresh (a0l _)
 refine ⟨.ref s1.heap.objs.size,c7 H1 s1.heap.objs.size (.tup xs),I1.laid (t':=s1.toks) (λb u e=>a0e _ e) (a0l _) ?_,rfl,q _ hf⟩
 exact ⟨z,us,r,⟨_,a0y _ rfl,rfl,_,rfl⟩⟩
theorem R8 (h:PA X es t):PE X (.List es pos) (WL t):=by
 intro pins s σ H Q I hq
 refine wpAny_List_spliced (dX (h pos pins s σ H _ I hq) λus s1 ⟨xs,H1,I1,r,z,q⟩=>⟨by rw [<- r.length];exact z,?_⟩)
 have hf:H1 s1.heap.objs.size = none:=I1.hok.fresh (a0l _)
 refine ⟨.ref s1.heap.objs.size,c7 H1 s1.heap.objs.size (.lst xs),I1.laid (t':=s1.toks) (λb u e=>a0e _ e) (a0l _) ?_,rfl,q _ hf⟩
 exact ⟨z,us,0,r,a0y _ rfl⟩
end
abbrev Sp:=List V -> Hp -> VK -> XK -> Prop
abbrev OG:=List Env -> Hp -> Shared -> XK -> Value -> Shared -> Prop
structure Env0 (P:Program) (w:World) (K:PySem.W.Frag) (mg:Str -> Option Value) (base:Heap) (A:Around) (outer:List Env) (s:Shared) (H:Hp):Prop where
 frames:A.frames = some outer
 mod:Mod K mg base
 bs:∀ b o,base.get? b = some o -> s.heap.get? b = some o /\ H b = none
 bsz:base.objs.size <= s.heap.objs.size
 funs:s.heap.FunFrames base outer
 frf:∀ b ∈ PY outer,H b = none
 hok:rP P w H s.heap
 bare:AllBare s.gens
def CE (outer:List Env) (P:Program) (w:World) (H:Hp) (s:Shared) (Q:VK) (u:Value) (s':Shared):Prop :=
 ∃ v H',s'.os = s.os /\ AllBare s'.gens /\ Un (PY outer) [] H H' s.heap s'.heap /\ rP P w H' s'.heap /\ bR v u /\ Q v H'
def CR (CX:OG) (outer:List Env) (P:Program) (w:World) (H:Hp) (s:Shared) (Q:VK) (E:XK) (r:Result) (s':Shared):Prop :=
 match r with
 | .ok (.ret u)=>CE outer P w H s Q u s'
 | .ok _=>False
 | .error e=>CX outer H s E e s'
structure FnOk (P:Program) (w:World) (K:PySem.W.Frag) (mg:Str -> Option Value) (base:Heap) (CX:OG) (k:Nat) (f:Addr) (fd:FuncData) (ps:List Str) (sp:Sp):Prop where
 len:∀ vs H Q E,sp vs H Q E -> vs.length = ps.length
 run:∀ (A:Around) (outer:List Env) (s:Shared) (H:Hp) (args:Args) (us:List Value) (vs:List V) (Q:VK) (E:XK),Room k A -> Env0 P w K mg base A outer s H -> BindsTo s fd args (ps.zip us) -> bF vs us -> sp vs H Q E ->
  codeAny (model P w) A (.call (.ref f) args) (CR CX outer P w H s Q E) s
theorem FnOk.imp {P:Program} {w:World} {K:PySem.W.Frag} {mg:Str -> Option Value} {base:Heap} {CX:OG} {k:Nat} {f:Addr} {fd:FuncData} {ps:List Str} {sp sp':Sp} (F:FnOk P w K mg base CX k f fd ps sp)
  (h:∀ vs H Q E,sp' vs H Q E -> sp vs H Q E):FnOk P w K mg base CX k f fd ps sp' :=
 ⟨λvs H Q E q=>F.len vs H Q E (h _ _ _ _ q),λA outer s H args us vs Q E hr he hb hv hs=>F.run A outer s H args us vs Q E hr he hb hv (h _ _ _ _ hs)⟩
section
variable {X:Cx} {pins:List (Addr × Obj)} {σ:St} {H:Hp} {s s':Shared}
theorem Inv.env0 (I:Inv X pins σ H s):Env0 X.prog X.w X.K X.mg X.base X.A X.stack s H :=
 ⟨I.ok.frames,I.ok.mod,I.bs,a1b I.ok.bsz I.sz,I.stack,I.stkFree,I.hok,I.bare⟩
theorem Inv.after {Q:VK} {u:Value} (I:Inv X pins σ H s) (h:CE X.stack X.prog X.w H s Q u s'):EP X pins σ Q u s':=by
 obtain ⟨v,H',os,bare,un,hok,r,q⟩:=h
 obtain ⟨hh,g,d,t,os'⟩:=s'
 obtain rfl:os' = s.os:=os
 exact ⟨v,H',I.call (h':=hh) (g':=g) (d':=d) (t':=t) (ch:=[]) un hok bare (λb z=>absurd z (by simp)),r,q⟩
end
def XM (sp:Sp) (dvs:List V) (E:XK) (t:TA):TE:=λσ H Q=>t σ H λvs H1=>sp (vs ++ dvs) H1 Q E
def BY (K:PySem.W.Frag) (fd:FuncData) (ps:List Str) (ds:List Value):Prop :=
 ∀ (s:Shared) (us:List Value),K.In s.heap -> (us ++ ds).length = ps.length -> BindsTo s fd ⟨us,[]⟩ (ps.zip (us ++ ds))
theorem BY.all {K:PySem.W.Frag} {fd:FuncData} {ps:List Str} (h:∀ us:List Value,us.length = ps.length -> bindArgs fd ⟨us,[]⟩ = pure (ps.zip us)):BY K fd ps []:=λs us _ hl=>by
 rw [a69] at hl ⊢
 exact .of_eq (h us hl)
def IH (CX:OG) (X:Cx) (E:XK):Prop:=∀ (pins:List (Addr × Obj)) (σ:St) (H:Hp) (s:Shared) (e:Value) (s':Shared),Inv X pins σ H s -> CX X.stack H s E e s' -> X.xe e s'
section
variable {X:Cx} {CX:OG} {k:Nat} {f C:Addr} {fd:FuncData} {ps:List Str} {sp:Sp} {dvs:List V} {ds:List Value} {E:XK} {x m:Str} {p pos apos:Pos} {e o:Expr} {es:List Expr} {ta:TE} {t:TA}
theorem a0Z {pins:List (Addr × Obj)} {σ:St} {H:Hp} {s:Shared} {Q:VK} {us:List Value} {vs:List V} (F:FnOk X.prog X.w X.K X.mg X.base CX k f fd ps sp) (hr:Room k X.A) (hb:BY X.K fd ps ds) (hd:bF dvs ds) (hx:IH CX X E)
  (I:Inv X pins σ H s) (r:bF vs us) (h:sp (vs ++ dvs) H Q E):wpAny (model X.prog X.w) X.A (call (.ref f) us) (EP X pins σ Q) X.xe s:=by
 have r2:bF (vs ++ dvs) (us ++ ds):=r.append hd
 have hl:(us ++ ds).length = ps.length:=by rw [<- r2.length];exact F.len _ _ _ _ h
 refine wpAny_call (a5h (F.run X.A X.stack s H ⟨us,[]⟩ (us ++ ds) (vs ++ dvs) Q E hr I.env0 (hb s us I.kIn hl) r2 h) λr s' hq=>?_)
 cases r with
 | error e=>exact hx pins σ H s e s' I hq
 | ok fl =>
  cases fl with
  | ret u=>exact I.after hq
  | next=>exact False.elim hq
  | brk=>exact False.elim hq
  | cont=>exact False.elim hq
theorem V6 (F:FnOk X.prog X.w X.K X.mg X.base CX k f fd ps sp) (hr:Room k X.A) (hg:Gl X x) (hm:X.mg x = some (.ref f)) (hk:PySem.W.keepIn X.K (.ref f) = true) (hb:BY X.K fd ps ds) (hd:bF dvs ds) (hx:IH CX X E)
  (ha:PA X (e :: es) t) (hdb:(x == ("__debug__" : Str)) = false:=by decide) (he:starEach (e :: es) X.env = (false,eval e X.env) :: starEach es X.env:=by rfl) (hpl:(backTo pos (starEach es X.env)).any (·.1) = false:=by rfl) :
  PE X (.Call (.Name x p) (e :: es) [] pos) (XM sp dvs E t):=by
 intro pins s σ H Q I h
 refine wpAny_Call_Name_kw (US I hg hm ?_ hdb)
 refine PySem.W.callWith_K (h₀:=X.base) I.ok.mod.kin hk (dX (ha pos pins s σ H _ I h) λus s1 ⟨vs,H1,I1,r,q⟩=>⟨I1.kIn,?_⟩) he hpl
 exact a0Z F hr hb hd hx I1 r q
end
structure FnScope (N P:List Str) (sc:Scope):Prop where
 kind:sc.kind = .function
 co:sc.isCoroutine = false
 gen:sc.isGenerator = false
 nd:N.Nodup
 pre:N.take P.length = P
 par:∀ x ∈ P,sc.names.lookup x = some .local \/ sc.names.lookup x = some .cell
 nofree:∀ y ∈ sc.names,y.2 ≠ .free
theorem C5 {kindOf:Str -> Option NameKind} {x:Str}:∀ {binds:List (Str × Value)} {m:Str -> Option Value},(∀ v,(x,v) ∉ binds) -> bindL kindOf binds m x = m x
 | [],_,_=>rfl
 | (n,v) :: r,m,h=>by
  unfold bindL
  rw [C5 λw hw=>h w (a0i _ hw)]
  split
  ·have:x ≠ n:=by rintro rfl;exact h v a0n
   simp [this]
  ·rfl
theorem C3 {kindOf:Str -> Option NameKind} {x:Str}:∀ {binds:List (Str × Value)} {m:Str -> Option Value},(∀ v,(x,v) ∉ binds) -> bindC kindOf binds m x = m x
 | [],_,_=>rfl
 | (n,v) :: r,m,h=>by
  unfold bindC
  rw [C3 λw hw=>h w (a0i _ hw)]
  split
  ·rfl
  ·have:x ≠ n:=by rintro rfl;exact h v a0n
   simp [this]
theorem C4 {kindOf:Str -> Option NameKind} {x:Str} {v:Value}:∀ {P:List Str} {vs:List Value} {i:Nat} {m:Str -> Option Value},P.Nodup -> P[i]? = some x -> vs[i]? = some v -> kindOf x = some .local ->
  bindL kindOf (P.zip vs) m x = some v
 | [],_,_,_,_,h,_,_=>by simp at h
 | _ :: _,[],_,_,_,_,h,_=>by simp at h
 | p :: P,w :: vs,0,m,nd,h1,h2,hk=>by
  simp at h1 h2;subst h1;subst h2
  show bindL kindOf ((p,w) :: P.zip vs) m p = _
  unfold bindL
  rw [C5 λv hv=>(a1w.mp nd).1 (List.of_mem_zip hv).1,if_pos hk]
  simp
 | p :: P,w :: vs,i + 1,m,nd,h1,h2,hk=>by
  show bindL kindOf ((p,w) :: P.zip vs) m x = _
  unfold bindL
  exact C4 (i:=i) (a1w.mp nd).2 (by simpa using h1) (by simpa using h2) hk
theorem C2 {kindOf:Str -> Option NameKind} {x:Str} {v:Value}:∀ {P:List Str} {vs:List Value} {i:Nat} {m:Str -> Option Value},P.Nodup -> P[i]? = some x -> vs[i]? = some v -> kindOf x ≠ some .local ->
  bindC kindOf (P.zip vs) m x = some v
 | [],_,_,_,_,h,_,_=>by simp at h
 | _ :: _,[],_,_,_,_,h,_=>by simp at h
 | p :: P,w :: vs,0,m,nd,h1,h2,hk=>by
  simp at h1 h2;subst h1;subst h2
  show bindC kindOf ((p,w) :: P.zip vs) m p = _
  unfold bindC
  rw [C3 λv hv=>(a1w.mp nd).1 (List.of_mem_zip hv).1,if_neg hk]
  simp
 | p :: P,w :: vs,i + 1,m,nd,h1,h2,hk=>by
  show bindC kindOf ((p,w) :: P.zip vs) m x = _
  unfold bindC
  exact C2 (i:=i) (a1w.mp nd).2 (by simpa using h1) (by simpa using h2) hk
def start (N:List Str) (vs:List V):St:=vs.map some ++ List.replicate (N.length - vs.length) none
def D9 (CX:OG) (P:Program) (w:World) (K:PySem.W.Frag) (mg:Str -> Option Value) (base:Heap) (N:List Str) (qual:Str) (scope:Scope) (f:Addr) (cd:Value) (A:Around) (outer:List Env) (s:Shared) (H:Hp) (E:XK):Cx where
 prog:=P
 w:=w
 K:=K
 mg:=mg
 base:=base
 A:=A.deeper (envOfC qual scope s.heap.objs.size f cd)
 N:=N
 s₀:=s
 H₀:=H
 env:=envOfC qual scope s.heap.objs.size f cd
 outer:=outer
 stack:=envOfC qual scope s.heap.objs.size f cd :: outer
 ex:=[]
 calm:=true
 fn:=λ_=>true
 pn:=[]
 xe:=λe s'=>wpAny (model P w) (A.deeper (envOfC qual scope s.heap.objs.size f cd)) (leaving (envOfC qual scope s.heap.objs.size f cd) e) (λ_ s''=>CX outer H s E e s'') (λe' s''=>CX outer H s E e' s'') s'
theorem FA {sc:Scope} {n:Nat} {x:Str} (h:sc.names.lookup x = some .cell):∃ c,(cellsFrom n sc.names []).lookup x = some c:=by
 have q:=PySem.W.cellsFrom_some sc.names n [] (.inl h)
 exact Option.isSome_iff_exists.mp q
theorem N8 {CX:OG} {P:Program} {w:World} {K:PySem.W.Frag} {mg:Str -> Option Value} {base:Heap} {N ps:List Str} {qual:Str} {scope:Scope} {f:Addr} {cd:Value} {A:Around} {outer:List Env} {s s1:Shared} {H:Hp} {E:XK} {us:List Value} {vs:List V}
  (S:FnScope N ps scope) (hd:A.handled = none) (e0:Env0 P w K mg base A outer s H) (hl:vs.length = ps.length) (r:bF vs us)
  (x:InCallC s s.heap.objs.size (bindL (envOfC qual scope s.heap.objs.size f cd).kindOf (ps.zip us) λ_=>none) (cellsFrom (s.heap.objs.size + 1) scope.names []) (bindC (envOfC qual scope s.heap.objs.size f cd).kindOf (ps.zip us) λ_=>none) s1) :
  Inv (D9 CX P w K mg base N qual scope f cd A outer s H E) [] (start N vs) H s1:=by
 have hpl:ps.length <= N.length:=by have:=congrArg List.length S.pre;rw [a2f] at this;omega
 obtain ⟨h1,tk,rfl,hk⟩:=x.done
 have noA:∀ b:Addr,b ∉ (D9 CX P w K mg base N qual scope f cd A outer s H E).ex:=λb z=>absurd (show b ∈ ([]:List Addr) from z) (by simp)
 refine ⟨⟨e0.mod,S.kind,rfl,rfl,a0l _,λy z c h1 h2=>?_,λy hy=>?_,λy c _ h=>?_,λ_=>hd,Around.frames_deeper e0.frames,.inr ⟨rfl,rfl⟩,λb z=>absurd z (noA b),e0.bs,e0.bsz,λb _ _=>noA b,λb z=>absurd z (noA b),e0.funs,e0.frf⟩,
  rfl,e0.bare,Un.kept hk,⟨_,x.toInCall.ns,λi y v h1 h2 h3=>?_⟩,λy c h=>⟨_,x.cell y c h⟩,e0.hok.fresh (a0l _),λy c h=>?_,λp hp=>absurd (show p ∈ ([]:List (Addr × Obj)) from hp) (by simp),e0.hok.kept hk,?_⟩
 ·exact name_of_addr x.apart (a4m h1) (a4m h2)
 ·have hy:scope.names.lookup y = some .cell \/ scope.names.lookup y = some .free:=hy
  rcases hy with hy | hy
  ·exact FA hy
  ·exact absurd rfl (S.nofree _ (a4m hy))
 ·exact a2t (x.above y c (a4m h))
 ·have hi:i < vs.length:=by
   unfold start at h2
   by_cases hi:i < vs.length
   ·exact hi
   ·rw [a1n (by simpa using hi)] at h2
    rw [a2q] at h2
    split at h2 <;> cases h2
  have ha:vs[i]? = some v:=by
   unfold start at h2
   rw [a1p (by simpa using hi),a0h] at h2
   cases e:vs[i]? with
   | none=>rw [e] at h2;cases h2
   | some a=>rw [e] at h2;cases h2;rfl
  obtain ⟨u,hu,rv⟩:=r.get ha
  have hp:ps[i]? = some y:=by
   rw [<- S.pre,List.getElem?_take_of_lt (by omega)];exact h1
  have ndP:ps.Nodup:=by rw [<- S.pre];exact S.nd.sublist (List.take_sublist _ _)
  refine ⟨u,rv,?_⟩
  rcases S.par y (a0x hp) with k | k
  ·exact .inl ⟨k,C4 ndP hp hu k⟩
  ·obtain ⟨c,e⟩:=FA (n:=s.heap.objs.size + 1) k
   refine .inr ⟨.inl k,c,e,?_⟩
   have q:=x.cell y c e
   rw [C2 ndP hp hu (by show scope.names.lookup y ≠ _;rw [k];decide)] at q
   exact q
 ·exact e0.hok.fresh (a2t (x.above y c (a4m h)))
 ·unfold start
  show _ = N.length
  rw [a1d,a0d,a1t]
  omega
theorem a2F {CX:OG} {P:Program} {w:World} {K:PySem.W.Frag} {mg:Str -> Option Value} {base:Heap} {k:Nat} {f:Addr} {name qual:Str} {params:Arguments} {body:List Stmt} {scope:Scope} {dV kV doc pm cdv ct oc:Value} {an od:Option Addr}
  {osl:Array (Option Value)} {N ps:List Str} {sp:Sp} (lk:K.lookup f = some ⟨oc,od,.func (PySem.W.fnOf name qual params body scope dV kV doc pm an cdv ct),osl⟩) (hcd:PySem.W.codeIn K cdv qual = true) (S:FnScope N ps scope)
  (len:∀ vs H Q E,sp vs H Q E -> vs.length = ps.length)
  (hbody:∀ (A:Around) (outer:List Env) (s:Shared) (H:Hp) (vs:List V) (Q:VK) (E:XK),Room k (A.deeper (envOfC qual scope s.heap.objs.size f cdv)) -> sp vs H Q E ->
   ∃ t,BZ (D9 CX P w K mg base N qual scope f cdv A outer s H E) body t /\ t { nx:=λ_ H'=>Q .non H',rt:=Q } (start N vs) H) :
  FnOk P w K mg base CX (k + 1) f (PySem.W.fnOf name qual params body scope dV kV doc pm an cdv ct) ps sp:=by
 refine ⟨len,λA outer s H args us vs Q E hr e0 hb r hsp=>?_⟩
 have hl:=len _ _ _ _ hsp
 have KX:K.In s.heap:=e0.mod.kin.keeps λb o e=>(e0.bs b o e).1
 have lim:s.heap.NoLimit:=e0.mod.nolimit.keeps λb o e=>(e0.bs b o e).1
 have hkind:∀ y ∈ ps.zip us,scope.names.lookup y.1 = some .local \/ (scope.names.lookup y.1 = some .cell /\ ((cellsFrom (s.heap.objs.size + 1) scope.names []).lookup y.1).isSome = true):=λ⟨n,v⟩ hy=>by
  rcases S.par n (List.of_mem_zip hy).1 with q | q
  ·exact .inl q
  ·exact .inr ⟨q,PySem.W.cellsFrom_some _ _ _ (.inl q)⟩
 refine codeAny_call_function hr.depth (KX _ _ lk) rfl S.co S.gen rfl (PySem.W.codeRec_of KX hcd) (hb _ _ _ _ ?_)
 refine wpAny_newFunctionEnv_cells S.kind hkind λenv he s1 x=>?_
 subst he
 refine ⟨lim.keeps x.toInCall.keep,codeAny_func ?_⟩
 obtain ⟨t,ht,hq⟩:=hbody A outer s H vs Q E (hr.deeper _) hsp
 have I:Inv (D9 CX P w K mg base N qual scope f cdv A outer s H E) [] (start N vs) H s1:=N8 S hr.hd e0 hl r x
 refine a1a (ht [] s1 (start N vs) H _ I hq) (λfl s' hs=>?_) λe s' hs=>hs
 have fin:∀ {σ':St} {H':Hp} {v:V} {u:Value},Inv (D9 CX P w K mg base N qual scope f cdv A outer s H E) [] σ' H' s' -> bR v u -> Q v H' -> CE outer P w H s Q u s' :=
  fun {σ' H' v u} J rv q=>⟨v,H',J.os,J.bare,J.base,J.hok,rv,q⟩
 cases fl with
 | ret u =>
  obtain ⟨v,σ',H',J,rv,q⟩:=hs
  exact fin J rv q
 | next =>
  obtain ⟨σ',H',J,q⟩:=hs
  exact fin (v:=V.non) (u:=Value.none) J rfl q
 | brk =>
  obtain ⟨_,_,_,q⟩:=hs
  exact False.elim q
 | cont =>
  obtain ⟨_,_,_,q⟩:=hs
  exact False.elim q
section
variable {X:Cx} {x:Str} {p pos:Pos} {e:Expr} {es:List Expr} {t:TA} {id T:String} {r:List V -> Hp -> VK -> Prop}
def XJ (r:List V -> Hp -> VK -> Prop) (t:TA):TE:=λσ H Q=>t σ H λvs H1=>r vs H1 Q
theorem pL (hc:i8 X (.builtin id) r) (hg:Gl X x) (hm:X.mg x = none) (hv:bootBuiltins x = some (.builtin id)) (ha:PA X (e :: es) t) (hn:x ≠ "__name__" := by decide) (hdb:(x == ("__debug__" : Str)) = false:=by decide)
  (he:starEach (e :: es) X.env = (false,eval e X.env) :: starEach es X.env:=by rfl) (hpl:(backTo pos (starEach es X.env)).any (·.1) = false:=by rfl):PE X (.Call (.Name x p) (e :: es) [] pos) (XJ r t):=by
 intro pins s σ H Q I h
 refine wpAny_Call_Name_kw (zY I hg hm hv ?_ hn hdb)
 exact PyProof.Rows.callWith_builtin1 (dX (ha pos pins s σ H _ I h) λus s1 ⟨vs,H1,I1,r1,q1⟩=>hc pins s1 σ H1 vs us Q I1 r1 q1) he hpl
theorem m7 (hc:i8 X (.type T) r) (hg:Gl X x) (hm:X.mg x = none) (hv:bootBuiltins x = some (.type T)) (ha:PA X (e :: es) t) (hn:x ≠ "__name__" := by decide) (hdb:(x == ("__debug__" : Str)) = false:=by decide)
  (he:starEach (e :: es) X.env = (false,eval e X.env) :: starEach es X.env:=by rfl) (hpl:(backTo pos (starEach es X.env)).any (·.1) = false:=by rfl):PE X (.Call (.Name x p) (e :: es) [] pos) (XJ r t):=by
 intro pins s σ H Q I h
 refine wpAny_Call_Name_kw (zY I hg hm hv ?_ hn hdb)
 exact a3v (dX (ha pos pins s σ H _ I h) λus s1 ⟨vs,H1,I1,r1,q1⟩=>hc pins s1 σ H1 vs us Q I1 r1 q1) he hpl
end
end L2
namespace HT
open PySem PyProof.Rows
section
open PySem.SeqAt
open PySem.AutoSeq1 (wpAny_loadPart')
open PySem.MeetsSeq PySem.MeetsSeq2 PySem.MeetsSeq3
end
section
variable {prog:Program} {w:World} {A:Around} {E:Value -> Shared -> Prop} {s:Shared}
def sIx (n d:Nat):Option Int -> Nat
 | none=>d
 | some v=>if v < 0 then (v + (n:Int)).toNat else min v.toNat n
theorem sIx_none (n d:Nat):sIx n d none = d:=rfl
theorem sIx_le (n d:Nat) (hd:d <= n) (o:Option Int):sIx n d o <= n:=by
 cases o with
 | none=>exact hd
 | some v =>
  show (if v < 0 then (v + (n:Int)).toNat else min v.toNat n) <= n
  by_cases hv:v < 0
  ·rw [if_pos hv];omega
  ·rw [if_neg hv];exact Nat.min_le_right _ _
theorem clip_eq (v:Int) (n d:Nat):(if v < 0 then max (v + (n:Int)) 0 else min v (n:Int)) = ((sIx n d (some v):Nat):Int):=by
 show (if v < 0 then max (v + (n:Int)) 0 else min v (n:Int)) = (((if v < 0 then (v + (n:Int)).toNat else min v.toNat n):Nat):Int)
 by_cases hv:v < 0
 ·simp only [if_pos hv];omega
 ·simp only [if_neg hv];omega
theorem adjust_gen (lo hi:Option Int) (n:Nat):Builtin.Slice.sliceAdjust lo hi 1 (n:Int) = (((sIx n 0 lo:Nat):Int),((sIx n n hi:Nat):Int)):=by
 have h1:¬ ((1:Int) < 0):=by omega
 unfold Builtin.Slice.sliceAdjust
 simp only [h1,if_false]
 refine Prod.ext ?_ ?_
 ·cases lo with
  | none=>rfl
  | some v=>exact clip_eq v n 0
 ·cases hi with
  | none=>rfl
  | some v=>exact clip_eq v n n
theorem places_gen (i j:Nat):Builtin.Slice.slicePlaces (i:Int) (j:Int) 1 = j - i:=by
 unfold Builtin.Slice.slicePlaces
 have h1:(1:Int) > 0:=by omega
 simp only [h1,a64,Int.ediv_one]
 split <;> omega
theorem slicePart_ {v:Value} {o:Option Int} {Q:Option Int -> Shared -> Prop} (p:IsPart v o) (h:Q o s):wpAny (model prog w) A (Builtin.Slice.slicePartIndex v) Q E s:=by
 cases p with
 | none=>exact slicePart_none h
 | int i t=>exact slicePart_int h
theorem sliceApplied_gen {sl:Addr} {vl vu:Value} {lo hi:Option Int} {n:Nat} {Q:Int × Int × Nat -> Shared -> Prop} (hs:s.heap.IsSliceOf sl vl vu .none) (pl:IsPart vl lo) (pu:IsPart vu hi)
  (h:Q (((sIx n 0 lo:Nat):Int),1,sIx n n hi - sIx n 0 lo) s):wpAny (model prog w) A (Builtin.Slice.sliceApplied (.ref sl) (pure (n:Int))) Q E s:=by
 obtain ⟨os,hos,hcs,hds⟩:=id hs
 unfold Builtin.Slice.sliceApplied Builtin.Slice.sliceFields
 refine a0a (a0a (wpAny_field hos hds (x:=vl) rfl (a0a (wpAny_field hos hds (x:=vu) rfl (a0a (wpAny_field hos hds (x:=.none) rfl (a0c ?_)))))))
 refine a0a (slicePart_none ?_)
 show wpAny _ _ (if ((1:Int) == 0) = true then _ else _) _ _ s
 rw [if_neg (by decide)]
 refine a0a (slicePart_ pl (a0a (slicePart_ pu (a0a (a0c ?_)))))
 show wpAny _ _ (match Builtin.Slice.sliceAdjust lo hi 1 (n:Int) with | (lo,hi)=>pure (lo,(1:Int),Builtin.Slice.slicePlaces lo hi 1)) _ _ s
 rw [adjust_gen lo hi n]
 show wpAny _ _ (pure (((sIx n 0 lo:Nat):Int),(1:Int),Builtin.Slice.slicePlaces ((sIx n 0 lo:Nat):Int) ((sIx n n hi:Nat):Int) 1)) _ _ s
 rw [places_gen]
 exact a0c h
theorem pick_gen (xs:Array Value) (i k:Nat):((List.range k).filterMap λ(m:Nat)=>xs[((i:Int) + (m:Int) * 1).toNat]?).toArray = ((xs.toList.drop i).take k).toArray:=by
 have e:(λ(m:Nat)=>xs[((i:Int) + (m:Int) * 1).toNat]?) = λm=>xs[i + m]?:=by
  funext m
  have:((i:Int) + (m:Int) * 1).toNat = i + m:=by omega
  rw [this]
 rw [e]
 have:=pick_run xs i k
 rw [a3i] at this
 have e2:((λx=>xs[x]?) ∘ λx=>i + x) = λm=>xs[i + m]?:=rfl
 rw [e2] at this
 rw [this]
theorem getItem_tuple_cut {t sl:Addr} {items:Array Value} {vl vu:Value} {lo hi:Option Int} {Q:Value -> Shared -> Prop} (ht:IsTup s.heap t items) (hs:s.heap.IsSliceOf sl vl vu .none) (pl:IsPart vl lo) (pu:IsPart vu hi)
  (hw:¬ (sIx items.size 0 lo = 0 /\ sIx items.size items.size hi = items.size))
  (h:Q (.ref s.heap.objs.size) { s with heap:=s.heap.push { cls:=.type "tuple",data:=.seq ((items.toList.drop (sIx items.size 0 lo)).take (sIx items.size items.size hi - sIx items.size 0 lo)).toArray } })
  (hsz:items.size <= sizeLine):wpAny (model prog w) A (getItem (.ref t) (.ref sl)) Q E s:=by
 have htake:sizeOk (.seq ((items.toList.drop (sIx items.size 0 lo)).take (sIx items.size items.size hi - sIx items.size 0 lo)).toArray):=by
  show ((items.toList.drop (sIx items.size 0 lo)).take (sIx items.size items.size hi - sIx items.size 0 lo)).toArray.size <= sizeLine
  rw [a0t,a2f,List.length_drop,a0s]
  omega
 have hj:sIx items.size items.size hi <= items.size:=sIx_le _ _ (a0l _) hi
 obtain ⟨os,hos,hcs,hds⟩:=id hs
 have hTs:s.TypeIs (.ref sl) "slice" := ⟨os,hos,hcs⟩
 unfold getItem
 try with_reducible refine a1s ?_
 first | refine a0a (a0c ?_) | skip
 refine a0a (wpAny_sequenceKey ht.typeIs (by decide) ?_)
 refine a0a (a3r (name:=Str.ofString "__getitem__") ht.typeIs a4q
  (a2j a4q ht.typeIs entry_tuple_getitem ?_ (args_tuple_getitem _ _)))
 show wpAny _ _ (Builtin.Tuple.tupleItemsOf (.ref t) >>= _) _ _ s
 refine a0a (tupleItemsOf_ ht ?_)
 refine a0a (wpAny_typeOf hTs ?_)
 rw [if_pos (by decide)]
 refine a0a (sliceApplied_gen hs pl pu ?_)
 have hno:¬ ((((sIx items.size 0 lo:Nat):Int) == 0 && (1:Int) == 1 && (sIx items.size items.size hi - sIx items.size 0 lo) == items.size) = true):=by
  intro q
  rw [a1e,a1e] at q
  have q1:((sIx items.size 0 lo:Nat):Int) = 0:=eq_of_beq q.1.1
  have q2:sIx items.size items.size hi - sIx items.size 0 lo = items.size:=eq_of_beq q.2
  exact hw ⟨by omega,by omega⟩
 show wpAny _ _ (if (((sIx items.size 0 lo:Nat):Int) == 0 && (1:Int) == 1 && (sIx items.size items.size hi - sIx items.size 0 lo) == items.size) = true then _ else _) _ _ s
 rw [if_neg hno,pick_gen]
 first
  | exact a0a (m:=Builtin.Tuple.tupleExact _) (a1m (a0c ⟨_,rfl,a0c h⟩) htake)
  | exact a0a (m:=Builtin.Tuple.tupleExact _) (a1m (a0a (a0c (a0c ⟨_,rfl,a0c h⟩))) htake)
  | exact a0a (a0a (m:=Builtin.Tuple.tupleExact _) (a1m (a0c (a0c ⟨_,rfl,a0c h⟩)) htake))
  | exact a0a (a0a (m:=Builtin.Tuple.tupleExact _) (a1m (a0c ⟨_,rfl,a0c h⟩) htake))
end
end HT
namespace L2
open PySem PySem.Spec PyProof.Rows
abbrev TO:=St -> Hp -> (Option Int -> Hp -> Prop) -> Prop
def PO (X:Cx) (e:Option Expr) (t:TO):Prop :=
 ∀ (pins:List (Addr × Obj)) (s:Shared) (σ:St) (H:Hp) (Q:Option Int -> Hp -> Prop),Inv X pins σ H s -> t σ H Q ->
  wpAny (model X.prog X.w) X.A (evalPart e X.env) (λu s'=>∃ o H',Inv X pins σ H' s' /\ IsPart u o /\ Q o H') X.xe s
def WO:TO:=λ_ H Q=>Q none H
def a3T (t:TE):TO:=λσ H Q=>t σ H λx H1=>∃ i,x = .int i /\ Q (some i) H1
theorem zU {ns:List Int}:∀ {us:List Value},bF (ns.map V.int) us -> IntsAre us ns:=by
 induction ns with
 | nil=>intro us r;rw [a5i] at r;cases r;exact .nil
 | cons n ns ih =>
  intro us r
  rw [a0f] at r
  cases r with
  | cons r1 r2 =>
   obtain ⟨t,e⟩:=r1
   subst e
   exact .cons n t (ih r2)
section
variable {X:Cx} {e:Expr} {te:TE} {lo hi:Option Expr} {tl th:TO} {pos p2:Pos}
theorem VC:PO X none WO:=by
 intro pins s σ H Q I h
 rw [evalPart_none]
 exact a0c ⟨none,H,I,.none,h⟩
theorem VD (h:PE X e te):PO X (some e) (a3T te):=by
 intro pins s σ H Q I hw
 rw [evalPart_some]
 refine dX (h pins s σ H _ I hw) λu s1 ⟨x,H1,I1,r1,q1⟩=>?_
 obtain ⟨i,rfl,q⟩:=q1
 obtain ⟨t,rfl⟩:=r1
 exact ⟨some i,H1,I1,.int i t,q⟩
def a45 (X:Cx) (r:V -> Option Int -> Option Int -> Hp -> VK -> Prop):Prop :=
 ∀ (pins:List (Addr × Obj)) (s:Shared) (σ:St) (H:Hp) (x:V) (v vl vu:Value) (lo hi:Option Int) (sl:Addr) (Q:VK),Inv X pins σ H s -> bR x v -> s.heap.IsSliceOf sl vl vu .none -> IsPart vl lo -> IsPart vu hi -> r x lo hi H Q ->
  ∃ T id,typeLookup (.type T) "__getitem__" = pure (some (.builtin id)) /\ s.TypeIs v T /\ wpAny (model X.prog X.w) X.A (getItem v (.ref sl)) (EP X pins σ Q) X.xe s
def a62 (r:V -> Option Int -> Option Int -> Hp -> VK -> Prop) (te:TE) (tl th:TO):TE:=λσ H Q=>te σ H λx H1=>tl σ H1 λl H2=>th σ H2 λu H3=>r x l u H3 Q
theorem R9 {r:V -> Option Int -> Option Int -> Hp -> VK -> Prop} (hr:a45 X r) (he:PE X e te) (hl:PO X lo tl) (hu:PO X hi th):PE X (.Subscript e (.Slice lo hi none p2) pos) (a62 r te tl th):=by
 intro pins s σ H Q I h
 refine Subscript_ (dX (he pins s σ H _ I h) λv s1 ⟨x,H1,I1,r1,q1⟩=>?_)
 refine wpAny_Slice (dX (hl pins s1 σ H1 _ I1 q1) λvl s2 ⟨l,H2,I2,pl,q2⟩=>dX (hu pins s2 σ H2 _ I2 q2) λvu s3 ⟨u,H3,I3,pu,q3⟩=>?_)
 rw [evalPart_none]
 refine a0c ?_
 have I4:Inv X pins σ H3 { s3 with heap:=s3.heap.push { cls:=.type "slice",data:=.fields #[vl,vu,.none] } }:=I3.kept (t':=s3.toks) λb ob q=>a0e _ q
 obtain ⟨T,id,hT,ht,hg⟩:=hr pins { s3 with heap:=s3.heap.push { cls:=.type "slice",data:=.fields #[vl,vu,.none] } } σ H3 x v vl vu l u s3.heap.objs.size Q I4 r1 (Heap.IsSliceOf.new ..) pl pu q3
 show wpAny (model X.prog X.w) X.A (subscriptTail e (.Slice lo hi none p2) v (.ref s3.heap.objs.size)) (EP X pins σ Q) X.xe { s3 with heap:=s3.heap.push { cls:=.type "slice",data:=.fields #[vl,vu,.none] } }
 exact tail_any (ops:=[.ref s3.heap.objs.size,v]) ht hT hg (by with_unfolding_all rfl)
def FE (xs:List V) (lo hi:Option Int):List V:=(xs.drop (HT.sIx xs.length 0 lo)).take (HT.sIx xs.length xs.length hi - HT.sIx xs.length 0 lo)
theorem xD (xs:List V) (lo hi:Option Int):(FE xs lo hi).length <= xs.length:=by
 unfold FE
 rw [a2f,List.length_drop]
 omega
def a3G (K:PySem.W.Frag):V -> Option Int -> Option Int -> Hp -> VK -> Prop:=λx lo hi H Q=>∃ a xs,x = .ref a /\ mF K H a xs /\
 ¬ (HT.sIx xs.length 0 lo = 0 /\ HT.sIx xs.length xs.length hi = xs.length) /\ ∀ p,H p = none -> Q (.ref p) (c7 H p (.tup (FE xs lo hi)))
theorem a15:a45 X (a3G X.K):=by
 intro pins s σ H x v vl vu lo hi sl Q I rx hs pl pu h
 obtain ⟨a,xs,rfl,hx,hw,q⟩:=h
 cases rx
 obtain ⟨its,r,ht,hz⟩:=I.tuple hx
 have hlen:its.toArray.size = xs.length:=by rw [a0t];exact r.length.symm
 refine ⟨"tuple",_,a4q.lookup,ht.typeIs,?_⟩
 refine HT.getItem_tuple_cut ht hs pl pu (by rw [hlen];exact hw) ?_ (by rw [hlen];exact hz)
 rw [hlen]
 refine ⟨.ref s.heap.objs.size,_,I.laid (t':=s.toks) (o:=.tup (FE xs lo hi)) (λb ob q=>a0e _ q) (a0l _) ?_,rfl,q _ (I.hok.fresh (a0l _))⟩
 exact ⟨a1b (xD xs lo hi) hz,_,(r.drop (HT.sIx xs.length 0 lo)).take (HT.sIx xs.length xs.length hi - HT.sIx xs.length 0 lo),IsTup.new _ _⟩
end
def yR (n:Nat) (i:Int):Option Nat:=if 0 <= i then (if i < n then some i.toNat else none) else if -(n:Int) <= i then some (i + n).toNat else none
def lD {α:Type} (xs:List α) (i:Int):Option α:=(yR xs.length i).bind λj=>xs[j]?
theorem L3 {n:Nat} {i:Int} {j:Nat} (h:yR n i = some j):seqIndex? i n = some j /\ j < n /\ -(n:Int) <= i /\ i < n:=by
 unfold yR at h
 by_cases h0:0 <= i
 ·rw [if_pos h0] at h
  by_cases h1:i < n
  ·rw [if_pos h1] at h
   have e:i.toNat = j:=a1i h
   exact ⟨by rw [seqIndex_of h0 h1,e],by omega,by omega,h1⟩
  ·rw [if_neg h1] at h;cases h
 ·rw [if_neg h0] at h
  by_cases h1:-(n:Int) <= i
  ·rw [if_pos h1] at h
   have e:(i + n).toNat = j:=a1i h
   exact ⟨by rw [seqIndex_neg (by omega) h1,e],by omega,h1,by omega⟩
  ·rw [if_neg h1] at h;cases h
theorem D0 {α:Type} {xs:List α} {i:Int} {v:α} (h:lD xs i = some v):∃ j,seqIndex? i xs.length = some j /\ xs[j]? = some v /\ j < xs.length /\ -(xs.length:Int) <= i /\ i < xs.length:=by
 unfold lD at h
 cases e:yR xs.length i with
 | none=>rw [e] at h;cases h
 | some j =>
  rw [e] at h
  obtain ⟨h1,h2,h3,h4⟩:=L3 e
  exact ⟨j,h1,h,h2,h3,h4⟩
theorem TH {α:Type} {xs:List α} {j:Nat} {v:α} (h:xs[j]? = some v):lD xs (j:Int) = some v:=by
 have hj:j < xs.length:=(a0k.mp h).1
 have e:yR xs.length (j:Int) = some j:=by
  unfold yR
  rw [if_pos (by omega),if_pos (by omega)];simp
 unfold lD;rw [e];exact h
theorem OK {α:Type} (xs:List α) (v:α):lD (xs ++ [v]) (-1) = some v:=by
 have hl:(xs ++ [v]).length = xs.length + 1:=by simp
 have e:yR (xs ++ [v]).length (-1) = some xs.length:=by
  unfold yR
  rw [hl,if_neg (by decide),if_pos (by omega)]
  congr 1
  omega
 unfold lD
 rw [e]
 show (xs ++ [v])[xs.length]? = some v
 simp
def T8 (b:Expr):Prop:=∀ o i,subscripted b false o i = operate [o,i] (getItem o i)
def OI (X:Cx) (r:R2):Prop :=
 ∀ (value slice:Expr) (pins:List (Addr × Obj)) (s:Shared) (σ:St) (H:Hp) (x y:V) (v u:Value) (Q:VK),Inv X pins σ H s -> bR x v -> bR y u -> r x y H Q ->
  subscripted slice false v u = operate [v,u] (getItem v u) -> wpAny (model X.prog X.w) X.A (subscriptTail value slice v u) (EP X pins σ Q) X.xe s
def a5F (X:Cx) (id:String) (r:V -> List V -> Hp -> VK -> Prop):Prop :=
 ∀ (pins:List (Addr × Obj)) (s:Shared) (σ:St) (H:Hp) (x:V) (xs:List V) (v:Value) (us:List Value) (Q:VK),Inv X pins σ H s -> bR x v -> bF xs us -> r x xs H Q ->
  wpAny (model X.prog X.w) X.A (call (.builtin id) (v :: us)) (EP X pins σ Q) X.xe s
section
variable {X:Cx} {a b:Expr} {ta tb:TE} {pos:Pos}
theorem OI.or {r r':R2} (h:OI X r) (h':OI X r'):OI X (λx y H Q=>r x y H Q \/ r' x y H Q):=by
 intro value slice pins s σ H x y v u Q I rx ry q hs
 rcases q with q | q
 ·exact h value slice pins s σ H x y v u Q I rx ry q hs
 ·exact h' value slice pins s σ H x y v u Q I rx ry q hs
theorem XD {r:R2} (hr:OI X r) (ha:PE X a ta) (hb:PE X b tb) (hs:T8 b):PE X (.Subscript a b pos) (SL r ta tb):=by
 intro pins s σ H Q I h
 exact Subscript_ (XT ha hb I h λv u s2 x y H2 I2 rx ry q=>hr a b pins s2 σ H2 x y v u Q I2 rx ry q (hs _ _))
def W7 (K:PySem.W.Frag):R2:=λx y H Q=>∃ p xs i v,x = .ref p /\ y = .int i /\ fN K H p xs /\ lD xs i = some v /\ Q v H
def a3D (K:PySem.W.Frag):R2:=λx y H Q=>∃ p xs i v,x = .ref p /\ y = .int i /\ mF K H p xs /\ lD xs i = some v /\ Q v H
def a3C:R2:=λx y H Q=>∃ z i c,x = .str z /\ y = .int i /\ z.length <= sizeLine /\ lD z.cps.toList i = some c /\ Q (.str ⟨#[c]⟩) H
theorem DN:OI X (W7 X.K):=by
 intro value slice pins s σ H x y v u Q I rx ry h hs
 obtain ⟨p,xs,i,z,rfl,rfl,hq,he,q⟩:=h
 cases rx
 obtain ⟨t,rfl⟩:=ry
 obtain ⟨its,r,pl,hz⟩:=I.list hq
 obtain ⟨j,h1,h2,h3,h4,h5⟩:=D0 he
 obtain ⟨w,ew,rw'⟩:=r.get h2
 have hl:=r.length
 have hn:=sM
 have fin:EP X pins σ Q w s:=⟨z,H,I,rw',q⟩
 by_cases h0:0 <= i
 ·have hj:i.toNat = j:=by
   rw [seqIndex_of h0 h5] at h1
   exact a1i h1
  exact item_listR pl.isList h0 (by omega) (by rw [hj];simpa using ew) fin hs
 ·have hj:(i + (its.toArray.size:Int)).toNat = j:=by
   rw [seqIndex_neg (by omega) h4] at h1
   rw [a0t,<- hl]
   exact a1i h1
  exact subscriptTail_builtinR (x:=w) pl.isList.typeIs slot_list_getitem.lookup
   (wpAny_getItem_list_neg (Q:=λr s'=>r = w /\ EP X pins σ Q r s') pl.isList (by omega) (by rw [a0t] <;> omega) (by omega) (by rw [hj];simpa using ew) ⟨rfl,fin⟩) hs
theorem ZA:OI X (a3D X.K):=by
 intro value slice pins s σ H x y v u Q I rx ry h hs
 obtain ⟨p,xs,i,z,rfl,rfl,hq,he,q⟩:=h
 cases rx
 obtain ⟨t,rfl⟩:=ry
 obtain ⟨its,r,pl,hz⟩:=I.tuple hq
 obtain ⟨j,h1,h2,h3,h4,h5⟩:=D0 he
 obtain ⟨w,ew,rw'⟩:=r.get h2
 have hl:=r.length
 have hn:=sM
 have fin:EP X pins σ Q w s:=⟨z,H,I,rw',q⟩
 exact subscriptTail_builtinR (x:=w) pl.typeIs slot_tuple_getitem.lookup
  (getItem_tuple (j:=j) (Q:=λr s'=>r = w /\ EP X pins σ Q r s') pl (by omega) (by omega) (by rw [a0t,<- hl];exact h1) (by simpa using ew) ⟨rfl,fin⟩) hs
theorem Z9:OI X a3C:=by
 intro value slice pins s σ H x y v u Q I rx ry h hs
 obtain ⟨z,i,c,rfl,rfl,hz,he,q⟩:=h
 obtain ⟨t,rfl⟩:=rx
 obtain ⟨t',rfl⟩:=ry
 obtain ⟨j,h1,h2,h3,h4,h5⟩:=D0 he
 have hl:z.cps.toList.length = z.length:=by simp [Str.length]
 rw [hl] at h1 h4 h5
 have hn:=sM
 exact tail_any (typeIs_str s z t) slot_str_getitem.lookup (getItem_str (c:=c) (by
  have e1:decide (i < -(2 ^ 63:Int)) = false:=a1f (by omega)
  have e2:decide (i ≥ 2 ^ 63) = false:=a1f (by omega)
  rw [e1,e2,Bool.or_false]) (by rw [h1];simpa using h2) ⟨.str ⟨#[c]⟩,H,I.tok _,⟨_,rfl⟩,q⟩) hs
def a5Y (K:PySem.W.Frag):R2:=λx y H Q=>W7 K x y H Q \/ a3D K x y H Q \/ a3C x y H Q
theorem Z8:OI X (a5Y X.K):=DN.or (ZA.or Z9)
theorem JC (its:List Value) (n j:Nat) (u:Value):Obj.mapSeq (·.setIfInBounds j u) { cls:=.type "list",data:=.seq its.toArray n } = { cls:=.type "list",data:=.seq (its.set j u).toArray n }:=by
 simp [Obj.mapSeq]
theorem Inv.lst {pins:List (Addr × Obj)} {σ:St} {H:Hp} {s:Shared} {p:Addr} {xs:List V} (I:Inv X pins σ H s) (h:H p = some (.lst xs)) :
  ∃ (its:List Value) (n:Nat),bF xs its /\ s.heap.get? p = some { cls:=.type "list",data:=.seq its.toArray n } /\ xs.length <= sizeLine:=by
 obtain ⟨z,its,n,r,e⟩:=I.hok p _ h
 exact ⟨its,n,r,e,z⟩
theorem Inv.lstUpd {pins:List (Addr × Obj)} {σ:St} {H:Hp} {s:Shared} {p:Addr} {xs ys:List V} {its its':List Value} {n n':Nat} {f:Obj -> Obj} (I:Inv X pins σ H s) (h:H p = some (.lst xs))
  (ho:s.heap.get? p = some { cls:=.type "list",data:=.seq its.toArray n }) (hf:f { cls:=.type "list",data:=.seq its.toArray n } = { cls:=.type "list",data:=.seq its'.toArray n' }) (r:bF ys its') (hz:ys.length <= sizeLine) (t:Nat) :
  Inv X pins σ (c7 H p (.lst ys)) { s with heap:=s.heap.update p f,toks:=t }:=by
 have e:(s.heap.update p f).get? p = some { cls:=.type "list",data:=.seq its'.toArray n' }:=by
  rw [a1u f ho (by rw [hf] <;> rfl),hf]
 refine I.write (x:=p) (e:=p) (by rw [h];trivial) (.inl rfl) (λb u hb q=>(a1q _ _ (a2d hb)).trans q) ⟨_,e⟩ ?_
 exact ⟨hz,its',n',r,e⟩
def CP:V -> V -> V -> Hp -> (Hp -> Prop) -> Prop:=λo i v H Q=>∃ p xs k j,o = .ref p /\ i = .int k /\ H p = some (.lst xs) /\ yR xs.length k = some j /\ Q (c7 H p (.lst (xs.set j v)))
theorem vC:XO X CP:=by
 intro pins s σ H o i v ov iv u Q I ro ri rv h
 obtain ⟨p,xs,k,j,rfl,rfl,hp,hj,q⟩:=h
 cases ro
 obtain ⟨t,rfl⟩:=ri
 obtain ⟨its,n,r,ho,hz⟩:=I.lst hp
 obtain ⟨h1,h2,h3,h4⟩:=L3 hj
 have hl:=r.length
 have hn:=sM
 have I':Inv X pins σ (c7 H p (.lst (xs.set j v))) { s with heap:=s.heap.update p (Obj.mapSeq (·.setIfInBounds j u)) } :=
  I.lstUpd hp ho (JC its n j u) (r.set rv j) (by rw [List.length_set];exact hz) s.toks
 by_cases h0:0 <= k
 ·have hk:k.toNat = j:=by
   rw [seqIndex_of h0 h4] at h1
   exact a1i h1
  exact PySem.W.ki_setAt ho h0 (by omega) (by rw [a0t,<- hl];exact h4) (by rw [hk];exact ⟨_,I',q⟩)
 ·have hk:(k + (its.toArray.size:Int)).toNat = j:=by
   rw [seqIndex_neg (by omega) h3] at h1
   rw [a0t,<- hl]
   exact a1i h1
  exact PySem.W.ki_setBack ho (by omega) (by rw [a0t,<- hl];exact h3) (by omega) (by rw [hk];exact ⟨_,I',q⟩)
theorem EQ (lo hi:Option Int) (n:Nat):(sliceBounds lo hi none n).1 = ((HT.sIx n 0 lo:Nat):Int) /\ (sliceBounds lo hi none n).2.1 = ((HT.sIx n n hi:Nat):Int) /\ (sliceBounds lo hi none n).2.2 = 1:=by
 refine ⟨?_,?_,rfl⟩
 ·cases lo with
  | none=>simp [sliceBounds,HT.sIx]
  | some i =>
   simp only [sliceBounds,HT.sIx,Option.getD_none,show (1:Int) > 0 by decide,a64]
   by_cases h:i < 0
   ·simp only [h,a64] <;> omega
   ·simp only [h,if_false] <;> omega
 ·cases hi with
  | none=>simp [sliceBounds,HT.sIx]
  | some i =>
   simp only [sliceBounds,HT.sIx,Option.getD_none,show (1:Int) > 0 by decide,a64]
   by_cases h:i < 0
   ·simp only [h,a64] <;> omega
   ·simp only [h,if_false] <;> omega
theorem BW (its:List Value) (lo hi:Option Int):slicePick its.toArray lo hi none = ((its.drop (HT.sIx its.length 0 lo)).take (HT.sIx its.length its.length hi - HT.sIx its.length 0 lo)).toArray:=by
 obtain ⟨h1,h2,h3⟩:=EQ lo hi its.toArray.size
 unfold slicePick
 rw [h1,h2,h3]
 simp only [sliceRange_one,pick_run,a0t] <;> rfl
def a3F (K:PySem.W.Frag):V -> Option Int -> Option Int -> Hp -> VK -> Prop:=λx lo hi H Q=>∃ a xs,x = .ref a /\ fN K H a xs /\ ∀ p,H p = none -> Q (.ref p) (c7 H p (.lst (FE xs lo hi)))
theorem WD:a45 X (a3F X.K):=by
 intro pins s σ H x v vl vu lo hi sl Q I rx hs pl pu h
 obtain ⟨a,xs,rfl,hx,q⟩:=h
 cases rx
 obtain ⟨its,r,ht,hz⟩:=I.list hx
 have hlen:=r.length
 refine ⟨"list",_,slot_list_getitem.lookup,ht.isList.typeIs,?_⟩
 refine wpAny_getItem_list_slice ht.isList hs pl pu .none (by simp) ?_ (by rw [a0t] <;> omega)
 rw [BW,<- hlen]
 refine ⟨.ref s.heap.objs.size,_,I.laid (t':=s.toks) (o:=.lst (FE xs lo hi)) (λb ob q=>a0e _ q) (a0l _) ?_,rfl,q _ (I.hok.fresh (a0l _))⟩
 exact ⟨a1b (xD xs lo hi) hz,_,0,(r.drop (HT.sIx xs.length 0 lo)).take (HT.sIx xs.length xs.length hi - HT.sIx xs.length 0 lo),a0y _ rfl⟩
theorem D7:i8 X (.builtin "len") (λxs H Q=>∃ p ys,xs = [.ref p] /\ (fN X.K H p ys \/ mF X.K H p ys) /\ Q (.int ys.length) H):=by
 intro pins s σ H xs us Q I r h
 obtain ⟨p,ys,rfl,hq,q⟩:=h
 obtain ⟨u,rfl,rx⟩:=rH r
 cases rx
 have hn:=sM
 rcases hq with hq | hq
 ·obtain ⟨its,r',pl,hz⟩:=I.list hq
  have hlen:=r'.length
  exact Calls.call_len_list pl.isList (by simp only [a0t] <;> omega) ⟨.int ys.length,H,I.tok _,⟨s.toks + 1,by rw [a0t,hlen]⟩,q⟩
 ·obtain ⟨its,r',pl,hz⟩:=I.tuple hq
  have hlen:=r'.length
  exact len_tuple pl (by simp only [a0t] <;> omega) ⟨.int ys.length,H,I.tok _,⟨s.toks + 1,by rw [a0t,hlen]⟩,q⟩
def a4C (K:PySem.W.Frag) (T:String) (x:V) (H:Hp):Prop:=match x with
 | .str _=>T = "str"
 | .int _=>T = "int"
 | .ref p=>(T = "list" /\ ∃ xs,fN K H p xs) \/ (T = "tuple" /\ ∃ o,K.lookup p = some o /\ o.cls = .type "tuple" /\ o.dict = none) \/
   (T = "dict" /\ ((∃ kvs,H p = some (.dK kvs)) \/ ∃ kvs,H p = some (.dT kvs))) \/ (T = "set" /\ ∃ S n,H p = some (.set S n))
 | _=>False
theorem a1G {pins:List (Addr × Obj)} {σ:St} {H:Hp} {s:Shared} {T:String} {x:V} {v:Value} (I:Inv X pins σ H s) (r:bR x v) (ty:a4C X.K T x H) :
  s.TypeIs v T /\ ∀ a,v = .ref a -> ∃ ob,s.heap.get? a = some ob /\ ob.dict = none:=by
 cases x with
 | str z =>
  obtain ⟨t,rfl⟩:=r
  cases (show T = "str" from ty)
  exact ⟨typeIs_str s z t,λ_ e=>nomatch e⟩
 | int i =>
  obtain ⟨t,rfl⟩:=r
  cases (show T = "int" from ty)
  exact ⟨typeIs_int s i t,λ_ e=>nomatch e⟩
 | ref p =>
  cases r
  rcases ty with ⟨rfl,xs,hq⟩ | ⟨rfl,o,hk,hc,hd⟩ | ⟨rfl,hk⟩ | ⟨rfl,S,n,hk⟩
  ·obtain ⟨its,_,pl,_⟩:=I.list hq
   refine ⟨pl.isList.typeIs,λa e=>?_⟩
   cases e
   obtain ⟨o,n,e,c,hd,_⟩:=pl
   exact ⟨o,e,hd⟩
  ·refine ⟨⟨o,I.kIn p o hk,hc⟩,λa e=>?_⟩
   cases e
   exact ⟨o,I.kIn _ o hk,hd⟩
  ·have z:∃ o,s.heap.get? p = some o /\ o.ExactDict:=by
    rcases hk with ⟨kvs,hk⟩ | ⟨kvs,hk⟩
    ·obtain ⟨_,_,_,_,o,_,_,e,ex,_⟩:=I.hok p _ hk
     exact ⟨o,e,ex⟩
    ·obtain ⟨_,_,_,_,o,_,_,e,ex,_⟩:=I.hok p _ hk
     exact ⟨o,e,ex⟩
   obtain ⟨o,e,ex⟩:=z
   refine ⟨⟨o,e,ex.1⟩,λa e2=>?_⟩
   cases e2
   exact ⟨o,e,ex.2.1⟩
  ·obtain ⟨o,_,_,_,e,ex,_⟩:=I.hok p _ hk
   refine ⟨⟨o,e,ex.1⟩,λa e2=>?_⟩
   cases e2
   exact ⟨o,e,ex.2.1⟩
 | _=>exact False.elim ty
def a5Z (K:PySem.W.Frag) (T:String) (r:V -> List V -> Hp -> VK -> Prop) (to:TE) (t:TA):TE:=λσ H Q=>to σ H λx H1=>a4C K T x H1 /\ t σ H1 λxs H2=>r x xs H2 Q
variable {o e:Expr} {es:List Expr} {to:TE} {t:TA} {name:Str} {apos cpos:Pos} {T id:String} {r:V -> List V -> Hp -> VK -> Prop}
theorem XC (pa:PlainAttrs T) (slot:Slot T name id) (hty:typeOf (.builtin id) = pure (.type "method_descriptor")) (hm:a5F X id r) (ho:PE X o to) (ha:PA X (e :: es) t)
  (hbase:attributeBase o name X.env (eval o X.env) = eval o X.env:=by rfl)
  (hfew:((backTo cpos (starEach (e :: es) X.env)).all (λx=>!x.1) && (backToKw cpos (keywordEach [] X.env)).all (λx=>x.1.isSome)
   && decide ((e :: es).length + ([]:List Keyword).length + (if ([]:List Keyword).isEmpty then 0 else 1) < 30)) = true:=by rfl)
  (hline:(apos.endLine == cpos.line) = true:=by rfl) (hs:starEach (e :: es) X.env = (false,eval e X.env) :: starEach es X.env:=by rfl) (hplain:(backTo cpos (starEach es X.env)).any (·.1) = false:=by rfl) :
  PE X (.Call (.Attribute o name apos) (e :: es) [] cpos) (a5Z X.K T r to t):=by
 intro pins s σ H Q I h
 refine wpAny_Call_method_late hbase hfew hline rfl (dX (ho pins s σ H _ I h) λv s1 ⟨x,H1,I1,r1,ty,q1⟩=>?_)
 obtain ⟨h1,h2⟩:=a1G I1 r1 ty
 refine ⟨T,id,pa,slot,hty,h1,h2,?_⟩
 have hA:=ha cpos pins s1 σ H1 _ I1 q1
 rw [hs] at hA ⊢
 refine Calls.callWith_builtin (by show (false || (backTo cpos (starEach es X.env)).any (·.1)) = false;rw [hplain] <;> rfl) (Calls.evalArgs_plain ?_)
 exact dX hA λus s2 ⟨vs,H2,I2,r2,q2⟩=>hm pins s2 σ H2 x vs v us Q I2 r1 r2 q2
end
def a5S (X:Cx) (id:String) (r:V -> List V -> Hp -> VK -> Prop):Prop :=
 ∀ (pins:List (Addr × Obj)) (s:Shared) (σ:St) (H:Hp) (x:V) (xs:List V) (v:Value) (us:List Value) (Q:VK),Inv X pins σ H s -> bR x v -> bF xs us -> r x xs H Q ->
  wpAny (model X.prog X.w) X.A (call (.builtin id) (v :: us)) (EP X pins σ Q) X.xe s
theorem bF.one:∀ {x:V} {us:List Value},bF [x] us -> ∃ u,us = [u] /\ bR x u
 | _,_,.cons r .nil=>⟨_,rfl,r⟩
theorem bF.rep {xs:List V} {us:List Value} (h:bF xs us):∀ k:Nat,bF (List.replicate k xs).flatten (List.replicate k us).flatten
 | 0=>.nil
 | k + 1=>by
  rw [a3g,a3g,a4e,a4e]
  exact bF.append h (bF.rep h k)
theorem CD (its:List Value):∀ (k:Nat) (acc:List Value),
  List.foldl (λx1 x2=>x1 ++ x2) acc.toArray (List.replicate k its.toArray) = (acc ++ (List.replicate k its).flatten).toArray
 | 0,acc=>by simp
 | k + 1,acc=>by
  have e:acc.toArray ++ its.toArray = (acc ++ its).toArray:=by simp
  have e2:(acc ++ its) ++ (List.replicate k its).flatten = acc ++ (List.replicate (k + 1) its).flatten:=by
   rw [a3g,a4e,a6j]
  rw [<- e2,<- CD its k (acc ++ its),<- e,a3g,List.foldl_cons]
section
variable {X:Cx} {pins:List (Addr × Obj)} {σ:St} {H:Hp} {s:Shared} {l b:Addr} {xs ys zs:List V}
theorem Inv.lset {its its':List Value} {n:Nat} {f:Array Value -> Array Value} {t':Nat} (I:Inv X pins σ H s) (hH:H l = some (.lst xs))
  (e:s.heap.get? l = some { cls:=.type "list",data:=.seq its.toArray n }) (hf:f its.toArray = its'.toArray) (hv:bF ys its') (hz:ys.length <= sizeLine) :
  Inv X pins σ (c7 H l (.lst ys)) { s with heap:=s.heap.update l (Obj.mapSeq f),toks:=t' }:=by
 have q:=PySem.IsL.update e f
 rw [hf] at q
 refine I.write (x:=l) (e:=l) (by rw [hH];exact trivial) (.inl rfl) (λb' u hb hu=>(a1q s.heap (Obj.mapSeq f) (a2d hb)).trans hu) ⟨_,q⟩ ?_
 exact ⟨hz,its',_,hv,q⟩
theorem Inv.lnew {its:List Value} {t':Nat} (I:Inv X pins σ H s) (hv:bF ys its) (hz:ys.length <= sizeLine) :
  Inv X pins σ (c7 H s.heap.objs.size (.lst ys)) { s with heap:=s.heap.push { cls:=.type "list",data:=.seq its.toArray },toks:=t' } :=
 I.laid (λ_ _ q=>a0e _ q) (a0l _) ⟨hz,its,0,hv,a0y _ rfl⟩
theorem Inv.fresh (I:Inv X pins σ H s):H s.heap.objs.size = none:=I.hok.fresh (a0l _)
theorem Inv.lstM (I:Inv X pins σ H s) (hH:H l = some (.lst xs)):xs.length <= sizeLine /\ ∃ (its:List Value) (n:Nat),bF xs its /\ xs.length = its.length /\ s.heap.get? l = some { cls:=.type "list",data:=.seq its.toArray n }:=by
 obtain ⟨z,its,n,r,e⟩:=I.hok l _ hH
 exact ⟨z,its,n,r,r.length,e⟩
theorem QR {n:Nat} (h:n <= sizeLine):Builtin.List.listTooLong n = false:=by
 unfold Builtin.List.listTooLong
 exact a1f (by omega)
end
section
variable {X:Cx}
def EH:V -> List V -> Hp -> VK -> Prop:=λx vs H Q=>∃ l xs y,x = .ref l /\ vs = [y] /\ H l = some (.lst xs) /\ xs.length < sizeLine /\ Q .non (c7 H l (.lst (xs ++ [y])))
theorem wC:a5S X "list.append" EH:=by
 intro pins s σ H x vs v us Q I rx rv h
 obtain ⟨l,xs,y,rfl,rfl,hH,hz,q⟩:=h
 cases rx
 obtain ⟨u,rfl,ru⟩:=rv.one
 obtain ⟨z,its,n,r,hl,e⟩:=I.lstM hH
 refine call_meets F.slot_list_append ⟨_,e,rfl⟩ F.entry_list_append (F.args_list_append_2 _ _) (PySem.list_append l its.toArray n u (by rw [a0t];omega)) ⟨e,?_⟩
 refine ⟨.non,_,I.lset (its':=its ++ [u]) hH e (by simp) (r.append (.cons ru .nil)) ?_,rfl,q⟩
 rw [a1d,a5a]
 omega
def a4Z:R2:=λx y H Q=>∃ l b xs zs,x = .ref l /\ y = .ref b /\ H l = some (.lst xs) /\ H b = some (.lst zs) /\ xs.length + zs.length <= sizeLine /\ ∀ p,H p = none -> Q (.ref p) (c7 H p (.lst (xs ++ zs)))
theorem ZV:tJ X (binaryOp .Add) a4Z:=by
 intro pins s σ H x y v u Q I rx ry h
 obtain ⟨l,b,xs,zs,rfl,rfl,hH,hB,hz,q⟩:=h
 cases rx
 cases ry
 obtain ⟨z,its,n,r,hl,e⟩:=I.lstM hH
 obtain ⟨z2,its2,n2,r2,hl2,e2⟩:=I.lstM hB
 refine PySem.P.add_list e e2 ?_ (by rw [a0t,a0t];omega)
 have ea:its.toArray ++ its2.toArray = (its ++ its2).toArray:=by simp
 rw [ea]
 exact ⟨.ref _,_,I.lnew (t':=s.toks) (r.append r2) (by rw [a1d];omega),rfl,q _ I.fresh⟩
def a53:R2:=λx y H Q=>∃ l k xs,x = .ref l /\ y = .int k /\ H l = some (.lst xs) /\ -(2 ^ 63) <= k /\ k < 2 ^ 63 /\ xs.length * k.toNat <= sizeLine /\
 ∀ p,H p = none -> Q (.ref p) (c7 H p (.lst (List.replicate k.toNat xs).flatten))
theorem UW {α:Type} (xs:List α) (k:Nat):(List.replicate k xs).flatten.length = k * xs.length:=by
 induction k with
 | zero=>simp
 | succ k ih=>rw [a3g,a4e,a1d,ih,Nat.succ_mul,Nat.add_comm]
theorem a01:tJ X (binaryOp .Mult) a53:=by
 intro pins s σ H x y v u Q I rx ry h
 obtain ⟨l,k,xs,rfl,rfl,hH,h1,h2,hz,q⟩:=h
 cases rx
 obtain ⟨t,rfl⟩:=ry
 obtain ⟨z,its,n,r,hl,e⟩:=I.lstM hH
 have hlen:its.toArray.size * k.toNat <= sizeLine:=by rw [a0t,<- hl];exact hz
 have hcap:¬ its.toArray.size * k.toNat > (2 ^ 63 - 1) / 8:=by
  have:(sizeLine:Nat) <= (2 ^ 63 - 1) / 8:=by decide
  omega
 have hfit:¬ (!Builtin.List.listFitsIndex k) = true:=by
  rw [fitsIndex_both h1 h2]
  exact a0j
 have hlong:¬ Builtin.List.listTooLong (its.toArray.size * k.toNat) = true:=by
  rw [QR hlen]
  exact a0j
 have hnew:List.foldl (λx1 x2=>x1 ++ x2) #[] (List.replicate (if its.toArray.isEmpty = true then 0 else k.toNat) its.toArray) = (List.replicate k.toNat its).flatten.toArray:=by
  have f0:∀ m:Nat,List.foldl (λx1 x2=>x1 ++ x2) #[] (List.replicate m its.toArray) = (List.replicate m its).flatten.toArray:=λm=>by
   have:=CD its m []
   rw [a3m] at this
   exact this
  rw [f0]
  cases its with
  | nil=>simp
  | cons a r'=>rw [if_neg (by simp)]
 refine wpAny_binaryOp_repeat_ref (T := "list") (U := "int") (by decide) ⟨_,e,rfl⟩ (λs'=>typeIs_int s' k t) noFill_list_mul F.fills_int_mul F.slot_int_rmul repeat_list F.slot_int_index.lookup
  (call_meets F.slot_int_rmul (typeIs_int s k t) F.entry_int_rmul (F.args_int_rmul_2 _ _) (int___rmul___int_list k t l its.toArray n)
   ⟨e,rfl,⟨_,e,rfl⟩,call_meets F.slot_list_mul ⟨_,e,rfl⟩ F.entry_list_mul (F.args_list_mul_2 _ _) (AutoListH.list___mul___list_int_3 l its.toArray n k t hfit hcap hlong) ⟨e,?_⟩⟩)
 rw [hnew]
 exact ⟨.ref _,_,I.lnew (t':=s.toks) (r.rep k.toNat) (by rw [UW,Nat.mul_comm];exact hz),rfl,q _ I.fresh⟩
end
end L2
namespace Att
open PySem PySem.W PySem.Calls PyProof.Rows
theorem ints_of_wellAll {P:Params} {h:Heap}:∀ (ns:List Int) (vs:List Value),WellAll P h vs (ns.map WData.int) -> IntsAre vs ns:=by
 intro ns
 induction ns with
 | nil =>
  intro vs w
  rw [a5i] at w
  cases w
  exact .nil
 | cons n ns ih =>
  intro vs w
  rw [a0f] at w
  cases w with
  | cons a b =>
   cases a
   exact .cons _ _ (ih _ b)
theorem script_of {l:OpenLaw} {n:Nat} (hn:l.most = some n) {P:Params} {h:Heap} {args:List WData} {vals:List Value}
  (hpre:l.row.toRowW.claim.pre args = true) (hwl:WellAll P h vals args) :
  ∃ a vs ns,vals = [Value.ref a] /\ args = [WData.list (ns.map WData.int)] /\ h.get? a = some { cls:=.type "list",data:=.seq vs.toArray } /\ IntsAre vs ns /\ ns.length <= n:=by
 have hsh:WShape.hasAll [] args [.list .int] = true:=(pre_splitW hpre).1
 have hc:l.pre.holds [] { args:=args } = true:=(pre_splitW hpre).2
 obtain ⟨d,r,rfl,h1,h2⟩:=hasAllW_cons hsh
 obtain rfl:=hasAllW_nil h2
 obtain ⟨xs,rfl,h3⟩:=hasW_list h1
 obtain ⟨ns,rfl⟩:=items_int h3
 have hlen:ns.length <= n:=by
  unfold OpenLaw.pre at hc
  have h4:(WTm.not (.lt (.lit (.int (n:Int))) (.len (.arg 0)))).holds [] { args:=[.list (ns.map .int)] } = true:=by
   have h4:=(holds_andW hc).1
   rw [hn] at h4
   exact h4
  have h5:=condW_of h4 (w_not (w_lt w_lit (w_len_list (w_arg rfl))))
  rw [a0d] at h5
  refine a4j λq=>?_
  have q':(n:Int) < ((ns.length:Nat):Int):=by omega
  first
   | (rw [a2m q'] at h5;exact absurd h5 (by decide))
   | (simp at h5;omega)
 cases hwl with
 | cons w1 w2 =>
  cases w2
  cases w1 with
  | list ho hall=>exact ⟨_,_,ns,rfl,rfl,ho,ints_of_wellAll ns _ hall,hlen⟩
theorem post_true (l:OpenLaw) (args:List WData):l.row.toRowW.claim.post args (.bool true) args = true :=
 postW_of (r:=l.row.toRowW) (X:=(true == true))
  (show WShape.has [] (.bool true) .bool = true by first | rfl | decide | simp [WShape.has,WShape.arms,WShape.armsAll])
  (show (WTm.eq .res (.lit (.bool true))).value [] { args:=args,res:=some (.bool true),after:=args } = some (.bool (true == true)) from w_eq_bool (w_res rfl) w_lit) rfl
theorem attach_call {l:OpenLaw} {n:Nat} {q:Program} {loose:List Str} {XP:(Str -> Option Value) -> Heap -> Prop} {YP:World -> Heap -> Prop} {d:DefRec}
  (hn:l.most = some n) (hdf:d.params.defaults = [])
  (call:∀ (w:World) (s₀ s₁:Shared) (mg mb:Str -> Option Value) (fa:Addr) (o:Obj) (pm cd doc:Value) (a:Addr) (vs:List Value) (ns:List Int),
   Ground q loose [] XP w s₀ mg mb s₁.heap -> YP w s₁.heap ->
   s₁.heap.get? fa = some o -> o.data = .func (docDef d.name d.params d.body d.scope pm cd doc) -> s₁.heap.CodeRec cd d.name -> mg d.name = some (.ref fa) ->
   s₁.heap.get? a = some { cls:=.type "list",data:=.seq vs.toArray } -> IntsAre vs ns -> ns.length <= n -> s₁.gens = #[] ->
   codeAny (model l.prog w) callerA (.call (.ref fa) ⟨[.ref a],[]⟩) (λr s'=>r = .ok (.ret (.bool true)) /\ OldK s₁.heap s'.heap /\ s'.os = s₁.os /\ AllBare s'.gens) s₁) :
  WalkO q loose XP YP l.row.toRowW d [] (λf vs=>PySem.call f vs):=by
 intro w s₀ s₁ mg mb G Y fa o pm cd doc dV kV ho hd hcd hD hmg hg args vals as hpre hlay hrd hwl hlo
 obtain rfl:dV = .none:=Dflts.none hD hdf
 obtain rfl:kV = .none:=Dflts.noKw hD
 obtain ⟨a,vs,ns,rfl,rfl,hobj,hints,hlen⟩:=script_of hn hpre hwl
 refine enter_call (a5h (call w s₀ s₁ mg mb fa o pm cd doc a vs ns G Y ho (fd_plain hd) hcd hmg hobj hints hlen hg) λr s' hq=>?_)
 obtain ⟨rfl,h2,h3,h4⟩:=hq
 exact ⟨.inl ⟨.bool true,.bool true,[],rfl,λ_=>rfl,.bool true,post_true l _,λ_=>⟨List.Pairwise.nil,λ_ hm=>(nomatch hm)⟩⟩,h2,h3,h4⟩
end Att
namespace L2
open PySem PySem.Spec PyProof.Rows
theorem qH:∀ {vs:List Value} {ns:List Int},IntsAre vs ns -> bF (ns.map V.int) vs
 | _,_,.nil=>.nil
 | _,_,.cons n t h=>.cons ⟨t,rfl⟩ (qH h)
def T7 (H:Hp):Prop:=∀ b,H b = none \/ ∃ o xs,H b = some (.frz o (.lst xs))
theorem Q7 {P:Program} {w:World} {K:PySem.W.Frag} {mg mb:Str -> Option Value} {CX:OG} {k:Nat} {fa a:Addr} {fd:FuncData} {x:Str} {sp:Sp} {s₁:Shared} {vs:List Value} {ns:List Int}
  (KX:K.In s₁.heap) (hns:s₁.heap.Ns mainGlobals mg) (hb:s₁.heap.Ns builtinsNs mb) (hbb:∀ x:Str,x ≠ "__name__" -> mb x = bootBuiltins x) (hlim:s₁.heap.NoLimit) (hg:s₁.gens = #[])
  (ha:s₁.heap.get? a = some { cls:=.type "list",data:=.seq vs.toArray }) (hi:IntsAre vs ns) (hl:ns.length <= sizeLine) (hr:Room k callerA)
  (F:∀ base:Heap,K.In base -> base.Ns mainGlobals mg -> FnOk P w K mg base CX k fa fd [x] sp) (hbind:∀ (s:Shared) (u:Value),BindsTo s fd ⟨[u],[]⟩ [(x,u)])
  (hsp:∀ H:Hp,T7 H -> fN K H a (ns.map V.int) -> sp [.ref a] H (λv _=>v = .bl true) λ_ _ _=>False)
  (hCX:∀ H e s',CX [] H s₁ (λ_ _ _=>False) e s' -> False) :
  codeAny (model P w) callerA (.call (.ref fa) ⟨[.ref a],[]⟩) (λr s'=>r = .ok (.ret (.bool true)) /\ OldK s₁.heap s'.heap /\ s'.os = s₁.os /\ AllBare s'.gens) s₁:=by
 have rv:=qH hi
 have lenV:=hi.length
 have core:∀ H:Hp,T7 H -> fN K H a (ns.map V.int) -> rP P w H s₁.heap -> (∀ b,H b ≠ none -> b = a) -> (H a ≠ none -> K.lookup a = none) ->
   codeAny (model P w) callerA (.call (.ref fa) ⟨[.ref a],[]⟩) (λr s'=>r = .ok (.ret (.bool true)) /\ OldK s₁.heap s'.heap /\ s'.os = s₁.os /\ AllBare s'.gens) s₁:=by
  intro H hO hS hok hA hK
  have base_of:∀ {b:Addr} {o:Obj},s₁.heap.get? b = some o -> H b = none -> (DL s₁.heap H).get? b = some o:=λe n=>Q3 e n
  have noA:∀ {b:Addr} {o:Obj} {es:Array DictEntry} {ep:Nat},s₁.heap.get? b = some o -> o.data = .dict es ep -> H b = none:=fun {b o es ep} e d=>by
   cases q:H b with
   | none=>rfl
   | some u =>
    have e':b = a:=hA b (by rw [q];simp)
    subst e'
    rw [ha] at e;cases e
    have d':Data.seq vs.toArray _ = Data.dict es ep:=d
    cases d'
  have nsK:∀ {b:Addr} {m:Str -> Option Value},s₁.heap.Ns b m -> (DL s₁.heap H).Ns b m:=fun {b m} ⟨o,es,ep,e,d,r⟩=>⟨o,es,ep,base_of e (noA e d),d,r⟩
  have hKb:K.In (DL s₁.heap H):=λb o e=>base_of (KX b o e) (by
   cases q:H b with
   | none=>rfl
   | some u =>
    have e':b = a:=hA b (by rw [q];simp)
    subst e'
    rw [hK (by rw [q];simp)] at e;cases e)
  have hM:Mod K mg (DL s₁.heap H):=⟨hKb,nsK hns,⟨mb,nsK hb,hbb⟩,let ⟨mc,h1,h2⟩:=hlim;⟨mc,nsK h1,h2⟩⟩
  have e0:Env0 P w K mg (DL s₁.heap H) callerA [] s₁ H:=⟨rfl,hM,λb o e=>V3 e,Nat.le_of_eq (N6 _ _),trivial,λb hb=>absurd (show b ∈ ([]:List Addr) from hb) (by simp),hok,.of_eq hg⟩
  refine a5h ((F _ hKb (nsK hns)).run callerA [] s₁ H ⟨[.ref a],[]⟩ [.ref a] [.ref a] _ _ hr e0 (hbind s₁ (.ref a)) (.cons rfl .nil) (hsp H hO hS)) λr s' h=>?_
  cases r with
  | error e=>exact (hCX H e s' h).elim
  | ok fl =>
   cases fl with
   | next=>exact False.elim h
   | brk=>exact False.elim h
   | cont=>exact False.elim h
   | ret u =>
    obtain ⟨v,H',os,bare,un,hok',r',q⟩:=h
    have q':v = .bl true:=q
    subst q'
    obtain rfl:u = Value.bool true:=r'
    refine ⟨rfl,OldK.of_keep λb o e=>?_,os,bare⟩
    cases q:H b with
    | none=>exact un.keep b o e q (by intro z;exact absurd (show b ∈ ([]:List Addr) from z) (by simp)) (by simp)
    | some u =>
     rcases hO b with z | ⟨ob,xs,z⟩
     ·rw [q] at z;cases z
     ·have z2:=un.frzs b ob _ z
      obtain ⟨e1,_⟩:=hok b _ z
      obtain ⟨e2,_⟩:=hok' b _ z2
      rw [e] at e1;cases e1
      exact e2
 cases hk:K.lookup a with
 | some o =>
  have e:=KX a o hk
  rw [ha] at e
  cases e
  refine core (λ_=>none) (λ_=>.inl rfl) (.inr ⟨_,vs.toArray,_,hk,rfl,rfl,rfl,by rw [a0t,lenV];exact hl,by simpa using rv⟩) (λb u z=>by have z':(none:Option HO) = some u:=z;cases z') (λb z=>absurd rfl z) λz=>absurd rfl z
 | none =>
  refine core (λb=>if b = a then some (.frz { cls:=.type "list",data:=.seq vs.toArray } (.lst (ns.map V.int))) else none) (λb=>?_) (.inl (.inr ⟨{ cls:=.type "list",data:=.seq vs.toArray },if_pos rfl⟩)) (λb u z=>?_) (λb z=>?_) λ_=>hk
  ·by_cases hb:b = a
   ·exact .inr ⟨_,_,if_pos hb⟩
   ·exact .inl (if_neg hb)
  ·by_cases hb:b = a
   ·have z':=(if_pos hb).symm.trans z
    cases z'
    subst hb
    exact ⟨ha,by rw [a0d];exact hl,vs,_,rv,ha⟩
   ·have z':=(if_neg hb).symm.trans z
    cases z'
  ·by_cases hb:b = a
   ·exact hb
   ·exact absurd (if_neg hb) z
theorem WY {l:PySem.W.OpenLaw} {n k:Nat} {q:Program} {loose:List Str} {XP:(Str -> Option Value) -> Heap -> Prop} {YP:World -> Heap -> Prop} {d:DefRec} {K:Params -> PySem.W.Frag} {CX:World -> OG} {sp:World -> Sp} {x:Str}
  (hn:l.most = some n) (hn2:n <= sizeLine) (hdf:d.params.defaults = []) (hr:Room k callerA)
  (hY:∀ (w:World) (h:Heap),YP w h -> (K w.params).In h)
  (F:∀ (w:World) (mg:Str -> Option Value) (fa:Addr) (h:Heap),(K w.params).In h -> h.Ns mainGlobals mg -> mg d.name = some (.ref fa) ->
   ∃ fd:FuncData,(∀ (s:Shared) (u:Value),BindsTo s fd ⟨[u],[]⟩ [(x,u)]) /\
    ∀ base:Heap,(K w.params).In base -> base.Ns mainGlobals mg -> FnOk l.prog w (K w.params) mg base (CX w) k fa fd [x] (sp w))
  (hsp:∀ (w:World) (H:Hp) (a:Addr) (ns:List Int),ns.length <= n -> T7 H -> fN (K w.params) H a (ns.map V.int) -> sp w [.ref a] H (λv _=>v = .bl true) λ_ _ _=>False)
  (hCX:∀ (w:World) (H:Hp) (s:Shared) (e:Value) (s':Shared),CX w [] H s (λ_ _ _=>False) e s' -> False) :
  PySem.W.WalkO q loose XP YP l.row.toRowW d [] (λf vs=>PySem.call f vs):=by
 refine Att.attach_call hn hdf λw s₀ s₁ mg mb fa o pm cd doc a vs ns G Y ho hd hcd hmg hobj hints hlen hg=>?_
 have KX:=hY w _ Y
 obtain ⟨fd,hb,hF⟩:=F w mg fa _ KX G.T.g hmg
 exact Q7 KX G.T.g G.T.b G.T.builtins G.T.nolimit hg hobj hints (a1b hlen hn2) hr hF hb (λH hO hS=>hsp w H a ns hlen hO hS) λH e s'=>hCX w H s₁ e s'
def iS (s:Stmt):Arguments:=match s with
 | .FunctionDef _ a _ _ _ _ _ _ _ _=>a
 | _=>{ posonlyargs:=[],args:=[],vararg:=none,kwonlyargs:=[],kw_defaults:=[],kwarg:=none,defaults:=[] }
def fI (s:Stmt):List Stmt:=match s with
 | .FunctionDef _ _ b _ _ _ _ _ _ _=>b
 | _=>[]
def a8 (s:Stmt):Scope:=match s with
 | .FunctionDef _ _ _ _ _ _ sc _ _ _=>sc
 | _=>{ kind:=.function,names:=[],isGenerator:=false,isCoroutine:=false }
abbrev OE:OG:=λ_ _ _ _ _ _=>False
abbrev E0:XK:=λ_ _ _=>False
theorem a30 {X:Cx}:IH OE X E0:=λ_ _ _ _ _ _ _ h=>h.elim
structure Fun (K:PySem.W.Frag) (x qual:Str) (st:Stmt) (f:Addr) (fd:FuncData):Prop where
 ex:∃ (oc:Value) (od:Option Addr) (kV doc pm:Value) (an:Option Addr) (cdv ct:Value) (osl:Array (Option Value)),
  fd = PySem.W.fnOf x qual (iS st) (fI st) (a8 st) .none kV doc pm an cdv ct /\ K.lookup f = some ⟨oc,od,.func fd,osl⟩ /\ PySem.W.codeIn K cdv qual = true
 kp:PySem.W.keepIn K (.ref f) = true
section
variable {P:Program} {w:World} {K:PySem.W.Frag} {mg:Str -> Option Value} {base:Heap}
theorem Fun.ok {x qual:Str} {st:Stmt} {f:Addr} {fd:FuncData} {N ps:List Str} {k:Nat} {sp:Sp} (F:Fun K x qual st f fd) (S:FnScope N ps (a8 st)) (len:∀ vs H Q E,sp vs H Q E -> vs.length = ps.length)
  (hbody:∀ (cdv:Value) (A:Around) (outer:List Env) (s:Shared) (H:Hp) (vs:List V) (Q:VK) (E:XK),Room k (A.deeper (envOfC qual (a8 st) s.heap.objs.size f cdv)) -> sp vs H Q E ->
   ∃ t,BZ (D9 OE P w K mg base N qual (a8 st) f cdv A outer s H E).nox (fI st) t /\ t { nx:=λ_ H'=>Q .non H',rt:=Q } (start N vs) H):FnOk P w K mg base OE (k + 1) f fd ps sp:=by
 obtain ⟨oc,od,kV,doc,pm,an,cdv,ct,osl,rfl,lk,hcd⟩:=F.ex
 refine a2F lk hcd S len λA outer s H vs Q E hr hsp=>?_
 obtain ⟨t,h,q⟩:=hbody cdv A outer s H vs Q E hr hsp
 exact ⟨t,h.nox,q⟩
theorem Fun.binds {x qual:Str} {st:Stmt} {f:Addr} {fd:FuncData} {ps:List Str} (F:Fun K x qual st f fd)
  (h:∀ (kV doc pm:Value) (an:Option Addr) (cdv ct:Value) (us:List Value),us.length = ps.length -> bindArgs (PySem.W.fnOf x qual (iS st) (fI st) (a8 st) .none kV doc pm an cdv ct) ⟨us,[]⟩ = pure (ps.zip us)):BY K fd ps []:=by
 obtain ⟨oc,od,kV,doc,pm,an,cdv,ct,osl,rfl,lk,hcd⟩:=F.ex
 exact .all (h kV doc pm an cdv ct)
theorem Z3 {x qual:Str} {st:Stmt} {f:Addr} {oc:Value} {od an:Option Addr} {osl:Array (Option Value)} {kV doc pm cdv ct:Value} (l:K.lookup f = some ⟨oc,od,.func (PySem.W.fnOf x qual (iS st) (fI st) (a8 st) .none kV doc pm an cdv ct),osl⟩)
  (c:PySem.W.codeIn K cdv qual = true) (k:PySem.W.keepIn K (.ref f) = true):Fun K x qual st f (PySem.W.fnOf x qual (iS st) (fI st) (a8 st) .none kV doc pm an cdv ct):=⟨⟨oc,od,kV,doc,pm,an,cdv,ct,osl,rfl,l,c⟩,k⟩
end
theorem UN {c A B:Prop} [Decidable c] (h1:c -> A) (h2:¬ c -> B):if c then A else B:=by
 by_cases h:c
 ·rw [if_pos h]
  exact h1 h
 ·rw [if_neg h]
  exact h2 h
section
variable {X:Cx}
def OC (i j:Int):Prop:=0 < j /\ j < 2 ^ 256
theorem QV:tJ X (binaryOp .FloorDiv) (rI OC λi j=>.int (i / j)):=a48 λi j _ _ _ _ _ hc q=>by
 have h1:(0:Int) < j:=hc.1
 have h2:j < 2 ^ 256:=hc.2
 have h3:j.natAbs.log2 < 9000:=by
  have h4:j.natAbs ≠ 0:=by omega
  have h5:j.natAbs < 2 ^ 256:=by omega
  exact a2h ((Nat.log2_lt h4).mpr h5) (by decide)
 exact floordiv_int (by omega) (by rw [Int.fdiv_eq_ediv_of_nonneg i (by omega)];exact q) (.inl (PyProof.noPylong_of_log2 h3))
end
structure Df (K:PySem.W.Frag) (mg:Str -> Option Value) (x:Str) (st:Stmt):Prop where
 ex:∃ f fd,Fun K x x st f fd /\ mg x = some (.ref f)
theorem a25 {K:PySem.W.Frag} {h:Heap} {mg:Str -> Option Value} {x:Str} {st:Stmt} {f:Addr} {oc:Value} {od an:Option Addr} {osl:Array (Option Value)} {kV doc pm cdv ct:Value} (X:K.In h) (G:h.Ns mainGlobals mg)
  (a:PySem.W.nsIn K mainGlobals x = some (some (.ref f)))
  (l:K.lookup f = some ⟨oc,od,.func (PySem.W.fnOf x x (iS st) (fI st) (a8 st) .none kV doc pm an cdv ct),osl⟩)
  (c:PySem.W.codeIn K cdv x = true) (k:PySem.W.keepIn K (.ref f) = true):Df K mg x st:=⟨⟨f,_,Z3 l c k,PySem.W.mg_of X G a⟩⟩
structure Cal (P:Program) (w:World) (K:PySem.W.Frag) (mg:Str -> Option Value) (base:Heap) (k:Nat) (x:Str) (ps:List Str) (sp:Sp):Prop where
 ex:∃ f fd,mg x = some (.ref f) /\ PySem.W.keepIn K (.ref f) = true /\ BY K fd ps [] /\ (∃ oc od sl,K.lookup f = some ⟨oc,od,.func fd,sl⟩) /\ FnOk P w K mg base OE k f fd ps sp
theorem Df.ok {P:Program} {w:World} {K:PySem.W.Frag} {mg:Str -> Option Value} {base:Heap} {x:Str} {st:Stmt} {N ps:List Str} {k:Nat} {sp:Sp} (D:Df K mg x st) (S:FnScope N ps (a8 st))
  (hb:∀ (kV doc pm:Value) (an:Option Addr) (cdv ct:Value) (us:List Value),us.length = ps.length -> bindArgs (PySem.W.fnOf x x (iS st) (fI st) (a8 st) .none kV doc pm an cdv ct) ⟨us,[]⟩ = pure (ps.zip us))
  (len:∀ vs H Q E,sp vs H Q E -> vs.length = ps.length)
  (hbody:∀ (f:Addr) (cdv:Value) (A:Around) (outer:List Env) (s:Shared) (H:Hp) (vs:List V) (Q:VK) (E:XK),Room k (A.deeper (envOfC x (a8 st) s.heap.objs.size f cdv)) -> sp vs H Q E ->
   ∃ t,BZ (D9 OE P w K mg base N x (a8 st) f cdv A outer s H E).nox (fI st) t /\ t { nx:=λ_ H'=>Q .non H',rt:=Q } (start N vs) H):Cal P w K mg base (k + 1) x ps sp:=by
 obtain ⟨f,fd,F,m⟩:=D.ex
 exact ⟨f,fd,m,F.kp,F.binds hb,(by obtain ⟨oc,od,kV,doc,pm,an,cdv,ct,osl,rfl,lk,hcd⟩:=F.ex;exact ⟨oc,od,osl,lk⟩),F.ok S len λcdv A outer s H vs Q E hr h=>hbody f cdv A outer s H vs Q E hr h⟩
section
variable {X:Cx} {k:Nat} {ps:List Str} {sp:Sp} {x:Str} {p pos:Pos} {e:Expr} {es:List Expr} {t:TA}
theorem a05 (C:Cal X.prog X.w X.K X.mg X.base k x ps sp) (hr:Room k X.A) (ha:PA X (e :: es) t) (hg:Gl X x:=by rfl)
  (hdb:(x == ("__debug__" : Str)) = false:=by decide) (he:starEach (e :: es) X.env = (false,eval e X.env) :: starEach es X.env:=by rfl) (hpl:(backTo pos (starEach es X.env)).any (·.1) = false:=by rfl) :
  PE X (.Call (.Name x p) (e :: es) [] pos) (XM sp [] E0 t):=by
 obtain ⟨f,fd,a,b,c,l,d⟩:=C.ex
 exact V6 d hr hg a b c .nil a30 ha hdb he hpl
end
theorem k3:bootBuiltins "len" = some (.builtin "len"):=by decide +kernel
theorem IN:bootBuiltins "max" = some (.builtin "max"):=by decide +kernel
theorem OT:bootBuiltins "min" = some (.builtin "min"):=by decide +kernel
theorem D3:bootBuiltins "sum" = some (.builtin "sum"):=by decide +kernel
theorem XX:bootBuiltins "int" = some (.type "int"):=by decide +kernel
theorem TJ:bootBuiltins "list" = some (.type "list"):=by decide +kernel
theorem OU:bootBuiltins "range" = some (.type "range"):=by decide +kernel
theorem pZ:bootBuiltins "sorted" = some (.builtin "sorted"):=by decide +kernel
structure StOk (a b c:Int):Prop where
 a0:0 <= a
 b0:0 <= b
 b1:b < 2147483647
abbrev T4 (a b c:Int):HO:=.lst [.int a,.int b,.int c]
def a4I (H:Hp) (p:Addr):Prop:=∃ a b c,H p = some (T4 a b c) /\ StOk a b c
def SC:Sp:=λvs H Q _=>∃ (p:Addr) (m a b c:Int),vs = [.ref p,.int m] /\ H p = some (T4 a b c) /\ StOk a b c /\ 0 < m /\ m < 2 ^ 250 /\
 ∀ r a' b' c':Int,0 <= r -> r < m -> StOk a' b' c' -> Q (.int r) (c7 H p (T4 a' b' c'))
theorem dO {α:Type} {xs:List α} {i:Int} {v:α} (h0:0 <= i) (h:xs[i.toNat]? = some v):lD xs i = some v:=by
 have e:i = (i.toNat:Int):=by omega
 rw [e];exact TH h
def tK (J:It) (g:TG) (tb:TS):TS:=λD σ H=>∃ W:Nat -> Nat -> St -> Hp -> Prop,(∃ m,W 0 m σ H) /\ ∀ i m σ H,W i m σ H ->
 (J.stop i H /\ D.nx σ H) \/ (J.go i H /\ ∃ N:St -> Hp -> Prop,(∀ σ' H',N σ' H' -> ∃ m',m' < m /\ W (i + 1) m' σ' H') /\ ∀ x H',J.yld i H x H' -> g x σ H' λσ2 H2=>tb { D with nx:=N,ct:=N,bk:=D.nx } σ2 H2)
section
variable {X:Cx}
def RU:R2:=λx y H Q=>∃ p xs i v,x = .ref p /\ y = .int i /\ H p = some (.lst xs) /\ lD xs i = some v /\ Q v H
theorem Z7:OI X RU:=by
 intro value slice pins s σ H x y v u Q I rx ry h hs
 obtain ⟨p,xs,i,w,e1,e2,e3,e4,q⟩:=h
 exact DN value slice pins s σ H x y v u Q I rx ry ⟨p,xs,i,w,e1,e2,fN.of e3,e4,q⟩ hs
end
theorem yZ {α:Type} {a:α} {l:List α}:lD (a :: l) 0 = some a:=dO (by decide) rfl
theorem CY {α:Type} {a b:α} {l:List α}:lD (a :: b :: l) 1 = some b:=dO (by decide) rfl
theorem CZ {α:Type} {a b c:α} {l:List α}:lD (a :: b :: c :: l) 2 = some c:=dO (by decide) rfl
theorem IK {α:Type} {a b c d:α} {l:List α}:lD (a :: b :: c :: d :: l) 3 = some d:=dO (by decide) rfl
theorem a24 {i j:Int} (h0:0 <= j) (h1:j <= 1000000) (h2:i.natAbs < 2 ^ 64):B7 i j:=⟨h0,h1,h2⟩
theorem SO {H:Hp} {p:Addr} {o:HO} (h:H p = some o):c7 H p o = H:=by
 funext b;unfold c7;split
 ·rename_i e;rw [e,h]
 ·rfl
def LW (K:PySem.W.Frag):Sp:=λvs H Q _=>∃ (p:Addr) (k:Int) (ns:List Int),vs = [.ref p,.int k] /\ fN K H p (ns.map V.int) /\ 0 <= k /\ k < 1000000 /\
 ∀ (q:Addr) (a b c:Int),H q = none -> StOk a b c -> Q (.ref q) (c7 H q (T4 a b c))
structure NmOk (nm:Str) (k:Nat):Prop where
 ex:∃ pre:List Nat,nm.cps.toList = pre ++ [97 + k] /\ pre.length <= 7 /\ ∀ c ∈ pre,97 <= c /\ c <= 122
def a47:Str:=Str.ofString "abcdefghijklmnopqrstuvwxyz"
theorem TB:a47.cps.toList = (List.range 26).map (97 + ·):=by decide +kernel
theorem KH:a47.length = 26:=by decide +kernel
theorem KI {r:Int} (h0:0 <= r) (h1:r < 26):lD a47.cps.toList r = some (97 + r.toNat):=by
 refine dO h0 ?_
 have h:r.toNat < 26:=by omega
 rw [TB,a0h,a6d h];rfl
structure Sr where
 nm:Str
 b:Int
 e:Int
 w:Int
structure SrOk (s:Sr) (k:Nat):Prop where
 nm:NmOk s.nm k
 lt:s.b < s.e
 b0:-1000000000000 <= s.b
 e1:s.e <= 1000000000000
 w0:0 <= s.w
 w1:s.w <= 1000000000000
theorem XZ {P:Program} {w:World} {K:PySem.W.Frag} {mg:Str -> Option Value} {base:Heap} {k:Nat} {x:Str} {ps:List Str} {sp:Sp} (C:Cal P w K mg base k x ps sp) {f:Addr} (hf:mg x = some (.ref f))
  {oc:Value} {od:Option Addr} {fd:FuncData} {sl:Array (Option Value)} (l:K.lookup f = some ⟨oc,od,.func fd,sl⟩):FnOk P w K mg base OE k f fd ps sp:=by
 obtain ⟨g,fd',a,_,_,⟨oc',od',sl',l'⟩,d⟩:=C.ex
 rw [hf] at a;cases a
 rw [l] at l';cases l'
 exact d
def HB:List V -> Hp -> VK -> Prop:=λxs H Q=>∃ i j,xs = [.int i,.int j] /\ Q (.int (if j > i then j else i)) H
def RW:List V -> Hp -> VK -> Prop:=λxs H Q=>∃ i j,xs = [.int i,.int j] /\ Q (.int (if j < i then j else i)) H
def LR:List V -> Hp -> VK -> Prop:=λxs H Q=>(∃ i,xs = [.int i] /\ Q (.int i) H) \/ ∃ k,xs = [.bl k] /\ Q (.int (if k then 1 else 0)) H
def RV (K:PySem.W.Frag):List V -> Hp -> VK -> Prop:=λxs H Q=>∃ p ys,xs = [.ref p] /\ (fN K H p ys \/ mF K H p ys) /\ Q (.int ys.length) H
def a0U:R2:=λx y H Q=>y = .non /\ Q (.bl (decide (x = .non))) H
def RX:R2:=λx y H Q=>y = .non /\ Q (.bl (!decide (x = .non))) H
def RR:R2:=λx y H Q=>∃ i j,x = .str i /\ y = .str j /\ i.length + j.length <= sizeLine /\ Q (.str (i ++ j)) H
section
variable {X:Cx}
theorem a20 (hc:X.calm = true):i8 X (.builtin "max") HB:=ML hc
theorem a21 (hc:X.calm = true):i8 X (.builtin "min") RW:=MM hc
theorem a1Z:i8 X (.type "int") LR:=MK
theorem XY:i8 X (.builtin "len") (RV X.K):=D7
theorem a2S:tJ X (compareOp .Is) a0U:=ZX
theorem ZR:tJ X (compareOp .IsNot) RX:=V4
theorem ZQ:tJ X (binaryOp .Add) RR:=JP
end
section
variable {σ:St} {H:Hp} {Q:VK} {D:Ends} {K:PySem.W.Frag}
theorem a1C {t u:TS} (h:t { D with nx:=u D } σ H):WQ t u D σ H:=h
theorem WN (h:D.nx σ H):M4 D σ H:=h
theorem a19 {c:TT} {t u:TS} (h:c σ H λb H1=>if b = true then t D σ H1 else u D σ H1):WK c t u D σ H:=h
theorem a1B {te:TE} (h:te σ H D.rt):WP te D σ H:=h
theorem a17 {te:TE} {g:TG} (h:te σ H λx H1=>g x σ H1 D.nx):HZ te g D σ H:=h
theorem Z4 {to ti:TE} {t:II} {v:V} {R:St -> Hp -> Prop} (h:to σ H λo H1=>ti σ H1 λi H2=>t o i v H2 λH3=>R σ H3):Q0 to ti t v σ H R:=h
theorem a57 {v:V} (h:Q v H):tC v σ H Q:=h
theorem a3S {r:R2} {ta tb:TE} (h:ta σ H λx H1=>tb σ H1 λy H2=>r x y H2 Q):SL r ta tb σ H Q:=h
theorem a3V {r:V -> Hp -> VK -> Prop} {ta:TE} (h:ta σ H λx H1=>r x H1 Q):a4A r ta σ H Q:=h
theorem a3B {g:Int -> Int -> V} {i j:Int} (h:Q (g i j) H):BN g (.int i) (.int j) H Q:=⟨i,j,rfl,rfl,h⟩
theorem a51 {C:Int -> Int -> Prop} {g:Int -> Int -> V} {i j:Int} (hc:C i j) (h:Q (g i j) H):rI C g (.int i) (.int j) H Q:=⟨i,j,rfl,rfl,hc,h⟩
theorem a55 {g:Int -> V} {i:Int} (h:Q (g i) H):rU g (.int i) H Q:=⟨i,rfl,h⟩
theorem WR {t:TE} {R:Bool -> Hp -> Prop} (h:t σ H λx H'=>∃ k,x = .bl k /\ R k H'):M5 t σ H R:=h
theorem YX {b:Bool} {R:Bool -> Prop} (h:R b):∃ k,V.bl b = .bl k /\ R k:=⟨b,rfl,h⟩
theorem WJ {ta:TE} {tr:TA} {R:List V -> Hp -> Prop} (h:ta σ H λx H1=>tr σ H1 λxs H2=>R (x :: xs) H2):I0 ta tr σ H R:=h
theorem a1A {R:List V -> Hp -> Prop} (h:R [] H):SK σ H R:=h
theorem WM {t:TA} (h:t σ H λxs H1=>xs.length <= sizeLine /\ ∀ p,H1 p = none -> Q (.ref p) (c7 H1 p (.lst xs))):WL t σ H Q:=h
theorem a3P {r:List V -> Hp -> VK -> Prop} {t:TA} (h:t σ H λvs H1=>r vs H1 Q):XJ r t σ H Q:=h
theorem W8 {p:Addr} {xs:List V} {i:Int} {v:V} (e:H p = some (.lst xs)) (a:lD xs i = some v) (h:Q v H):RU (.ref p) (.int i) H Q:=⟨p,xs,i,v,rfl,rfl,e,a,h⟩
theorem a0V {p:Addr} {xs:List V} {i:Int} {v:V} (e:fN K H p xs) (a:lD xs i = some v) (h:Q v H):W7 K (.ref p) (.int i) H Q:=⟨p,xs,i,v,rfl,rfl,e,a,h⟩
theorem a11 {p:Addr} {a b c:V} {v:V} {R:Hp -> Prop} (e:H p = some (.lst [a,b,c])) (h:R (c7 H p (.lst [v,b,c]))):CP (.ref p) (.int 0) v H R:=⟨p,_,0,0,rfl,rfl,e,rfl,h⟩
theorem a12 {p:Addr} {a b c:V} {v:V} {R:Hp -> Prop} (e:H p = some (.lst [a,b,c])) (h:R (c7 H p (.lst [a,v,c]))):CP (.ref p) (.int 1) v H R:=⟨p,_,1,1,rfl,rfl,e,rfl,h⟩
theorem a13 {p:Addr} {a b c:V} {v:V} {R:Hp -> Prop} (e:H p = some (.lst [a,b,c])) (h:R (c7 H p (.lst [a,b,v]))):CP (.ref p) (.int 2) v H R:=⟨p,_,2,2,rfl,rfl,e,rfl,h⟩
theorem W9 {i j:Int} (h:Q (.int (if j > i then j else i)) H):HB [.int i,.int j] H Q:=⟨i,j,rfl,h⟩
theorem RT {k:Bool} (h:Q (.int (if k then 1 else 0)) H):LR [.bl k] H Q:=.inr ⟨k,rfl,h⟩
theorem LS {p:Addr} {ys:List V} (e:fN K H p ys) (h:Q (.int ys.length) H):RV K [.ref p] H Q:=⟨p,ys,rfl,.inl e,h⟩
theorem a4Y {ta:TA} {g:TG} {tb:TS} (h:ta σ H λvs H1=>∃ j:Int,vs = [.int j] /\ -(2 ^ 62) <= j /\ j < 2 ^ 62 /\ tK (T6 0 j.toNat) g tb D σ H1):SJ (L0 ta) g tb D σ H:=h
theorem YY {n:Int} {R:Int -> Prop} (h:-(2 ^ 62) <= n /\ n < 2 ^ 62 /\ R n):∃ j:Int,[V.int n] = [.int j] /\ -(2 ^ 62) <= j /\ j < 2 ^ 62 /\ R j:=⟨n,rfl,h⟩
theorem v0 {v:V} {r:St} (h:Q v H):gH 0 (some v :: r) H Q:=⟨v,rfl,h⟩
theorem v1 {x0:Option V} {v:V} {r:St} (h:Q v H):gH 1 (x0 :: some v :: r) H Q:=⟨v,rfl,h⟩
theorem v2 {x0 x1:Option V} {v:V} {r:St} (h:Q v H):gH 2 (x0 :: x1 :: some v :: r) H Q:=⟨v,rfl,h⟩
theorem v3 {x0 x1 x2:Option V} {v:V} {r:St} (h:Q v H):gH 3 (x0 :: x1 :: x2 :: some v :: r) H Q:=⟨v,rfl,h⟩
theorem v4 {x0 x1 x2 x3:Option V} {v:V} {r:St} (h:Q v H):gH 4 (x0 :: x1 :: x2 :: x3 :: some v :: r) H Q:=⟨v,rfl,h⟩
theorem g2 {v:V} {x0 x1 x2:Option V} {r:St} {R:St -> Hp -> Prop} (h:R (x0 :: x1 :: some v :: r) H):nY 2 v (x0 :: x1 :: x2 :: r) H R:=h
theorem g3 {v:V} {x0 x1 x2 x3:Option V} {r:St} {R:St -> Hp -> Prop} (h:R (x0 :: x1 :: x2 :: some v :: r) H):nY 3 v (x0 :: x1 :: x2 :: x3 :: r) H R:=h
theorem g4 {v:V} {x0 x1 x2 x3 x4:Option V} {r:St} {R:St -> Hp -> Prop} (h:R (x0 :: x1 :: x2 :: x3 :: some v :: r) H):nY 4 v (x0 :: x1 :: x2 :: x3 :: x4 :: r) H R:=h
end
theorem Y0 {i j:Int} (h0:-(2 ^ 64) < i) (h1:i < 2 ^ 64):B6 i j:=.inl ⟨h0,h1⟩
theorem Y1 {i j:Int} (h0:-(2 ^ 64) < j) (h1:j < 2 ^ 64):B6 i j:=.inr ⟨h0,h1⟩
theorem LX {N:List Str} {vs:List V} {t:TS} {D:Ends} {H:Hp} {σ:St} (e:start N vs = σ) (h:t D σ H):t D (start N vs) H:=e ▸ h
theorem a2L {xs:List V} {R:Prop} (h0:xs.length <= 1000) (h:R):xs.length <= sizeLine /\ R:=⟨a1b h0 (by decide),h⟩
section
variable {H:Hp} {Q:VK}
theorem a4X (h:Q (.int 1000000) H):rI B7 (λi j=>V.int (i ^ j.toNat)) (.int 10) (.int 6) H Q:=⟨10,6,rfl,rfl,a24 (by decide) (by decide) (by decide),h⟩
theorem a36 (h:Q (.int 1000000000000000000) H):rI B7 (λi j=>V.int (i ^ j.toNat)) (.int 10) (.int 18) H Q:=⟨10,18,rfl,rfl,a24 (by decide) (by decide) (by decide),h⟩
end
theorem TR {i j:Int} (h0:0 < j) (h1:j < 2 ^ 250):OC i j:=⟨h0,Int.lt_trans h1 (by decide)⟩
theorem a2P {j:Int} (h:j <= 1000000000000000000000000000000000000000000000000000000000000):j < 2 ^ 250:=Int.lt_of_le_of_lt h (by decide)
theorem lG:("len" : Str) ≠ "__name__" := by decide +kernel
theorem lE:(("len" : Str) == ("__debug__" : Str)) = false:=by decide +kernel
theorem IM:("max" : Str) ≠ "__name__" := by decide +kernel
theorem IL:(("max" : Str) == ("__debug__" : Str)) = false:=by decide +kernel
theorem OP:("min" : Str) ≠ "__name__" := by decide +kernel
theorem OM:(("min" : Str) == ("__debug__" : Str)) = false:=by decide +kernel
theorem D2:("sum" : Str) ≠ "__name__" := by decide +kernel
theorem D1:(("sum" : Str) == ("__debug__" : Str)) = false:=by decide +kernel
theorem XW:("int" : Str) ≠ "__name__" := by decide +kernel
theorem XS:(("int" : Str) == ("__debug__" : Str)) = false:=by decide +kernel
theorem C6:("sorted" : Str) ≠ "__name__" := by decide +kernel
theorem C1:(("sorted" : Str) == ("__debug__" : Str)) = false:=by decide +kernel
class Step (P:Prop) (P':outParam Prop):Prop where
 go:P' -> P
theorem step {P P':Prop} [s:Step P P'] (h:P'):P:=s.go h
section
variable {σ:St} {H:Hp} {Q:VK} {D:Ends} {K:PySem.W.Frag}
instance i_tSeq_s {t u:TS}:Step (WQ t u D σ H) (t { D with nx:=u D } σ H):=⟨λh=>a1C h⟩
instance i_tNext_s  : Step (M4 D σ H) (D.nx σ H):=⟨λh=>WN h⟩
instance i_tIfS_s {c:TT} {t u:TS}:Step (WK c t u D σ H) (c σ H λb H1=>if b = true then t D σ H1 else u D σ H1):=⟨λh=>a19 h⟩
instance i_tRet_s {te:TE}:Step (WP te D σ H) (te σ H D.rt):=⟨λh=>a1B h⟩
instance i_tAsg_s {te:TE} {g:TG}:Step (HZ te g D σ H) (te σ H λx H1=>g x σ H1 D.nx):=⟨λh=>a17 h⟩
instance i_gSub_s {to ti:TE} {t:II} {v:V} {R:St -> Hp -> Prop}:Step (Q0 to ti t v σ H R) (to σ H λo H1=>ti σ H1 λi H2=>t o i v H2 λH3=>R σ H3):=⟨λh=>Z4 h⟩
instance i_tC_s {v:V}:Step (tC v σ H Q) (Q v H):=⟨λh=>a57 h⟩
instance i_tOp_s {r:R2} {ta tb:TE}:Step (SL r ta tb σ H Q) (ta σ H λx H1=>tb σ H1 λy H2=>r x y H2 Q):=⟨λh=>a3S h⟩
instance i_tUn_s {r:V -> Hp -> VK -> Prop} {ta:TE}:Step (a4A r ta σ H Q) (ta σ H λx H1=>r x H1 Q):=⟨λh=>a3V h⟩
instance i_rI0_s {g:Int -> Int -> V} {i j:Int}:Step (BN g (.int i) (.int j) H Q) (Q (g i j) H):=⟨λh=>a3B h⟩
instance i_rU_s {g:Int -> V} {i:Int}:Step (rU g (.int i) H Q) (Q (g i) H):=⟨λh=>a55 h⟩
instance i_tTest_s {t:TE} {R:Bool -> Hp -> Prop}:Step (M5 t σ H R) (t σ H λx H'=>∃ k,x = .bl k /\ R k H'):=⟨λh=>WR h⟩
instance i_exbl_s {b:Bool} {R:Bool -> Prop}:Step (∃ k,V.bl b = .bl k /\ R k) (R b):=⟨λh=>YX h⟩
instance i_tCons_s {ta:TE} {tr:TA} {R:List V -> Hp -> Prop}:Step (I0 ta tr σ H R) (ta σ H λx H1=>tr σ H1 λxs H2=>R (x :: xs) H2):=⟨λh=>WJ h⟩
instance i_tNil_s {R:List V -> Hp -> Prop}:Step (SK σ H R) (R [] H):=⟨λh=>a1A h⟩
instance i_tLstR_s {t:TA}:Step (WL t σ H Q) (t σ H λxs H1=>xs.length <= sizeLine /\ ∀ p,H1 p = none -> Q (.ref p) (c7 H1 p (.lst xs))):=⟨λh=>WM h⟩
instance i_tCB_s {r:List V -> Hp -> VK -> Prop} {t:TA}:Step (XJ r t σ H Q) (t σ H λvs H1=>r vs H1 Q):=⟨λh=>a3P h⟩
instance i_rMax2_s {i j:Int}:Step (HB [.int i,.int j] H Q) (Q (.int (if j > i then j else i)) H):=⟨λh=>W9 h⟩
instance i_rInt1B_s {k:Bool}:Step (LR [.bl k] H Q) (Q (.int (if k then 1 else 0)) H):=⟨λh=>RT h⟩
instance i_r1_s {ta:TA} {g:TG} {tb:TS}:Step (SJ (L0 ta) g tb D σ H) (ta σ H λvs H1=>∃ j:Int,vs = [.int j] /\ -(2 ^ 62) <= j /\ j < 2 ^ 62 /\ tK (T6 0 j.toNat) g tb D σ H1):=⟨λh=>a4Y h⟩
instance i_exr1_s {n:Int} {R:Int -> Prop}:Step (∃ j:Int,[V.int n] = [.int j] /\ -(2 ^ 62) <= j /\ j < 2 ^ 62 /\ R j) (-(2 ^ 62) <= n /\ n < 2 ^ 62 /\ R n):=⟨λh=>YY h⟩
instance i_v0 {v:V} {r:St}:Step (gH 0 (some v :: r) H Q) (Q v H):=⟨λh=>v0 h⟩
instance i_v1 {x0:Option V} {v:V} {r:St}:Step (gH 1 (x0 :: some v :: r) H Q) (Q v H):=⟨λh=>v1 h⟩
instance i_v2 {x0 x1:Option V} {v:V} {r:St}:Step (gH 2 (x0 :: x1 :: some v :: r) H Q) (Q v H):=⟨λh=>v2 h⟩
instance i_v3 {x0 x1 x2:Option V} {v:V} {r:St}:Step (gH 3 (x0 :: x1 :: x2 :: some v :: r) H Q) (Q v H):=⟨λh=>v3 h⟩
instance i_v4 {x0 x1 x2 x3:Option V} {v:V} {r:St}:Step (gH 4 (x0 :: x1 :: x2 :: x3 :: some v :: r) H Q) (Q v H):=⟨λh=>v4 h⟩
instance i_g2 {v:V} {x0 x1 x2:Option V} {r:St} {R:St -> Hp -> Prop}:Step (nY 2 v (x0 :: x1 :: x2 :: r) H R) (R (x0 :: x1 :: some v :: r) H):=⟨λh=>g2 h⟩
instance i_g3 {v:V} {x0 x1 x2 x3:Option V} {r:St} {R:St -> Hp -> Prop}:Step (nY 3 v (x0 :: x1 :: x2 :: x3 :: r) H R) (R (x0 :: x1 :: x2 :: some v :: r) H):=⟨λh=>g3 h⟩
instance i_g4 {v:V} {x0 x1 x2 x3 x4:Option V} {r:St} {R:St -> Hp -> Prop}:Step (nY 4 v (x0 :: x1 :: x2 :: x3 :: x4 :: r) H R) (R (x0 :: x1 :: x2 :: x3 :: some v :: r) H):=⟨λh=>g4 h⟩
instance i_pow6  : Step (rI B7 (λi j=>V.int (i ^ j.toNat)) (.int 10) (.int 6) H Q) (Q (.int 1000000) H):=⟨λh=>a4X h⟩
instance i_pow18  : Step (rI B7 (λi j=>V.int (i ^ j.toNat)) (.int 10) (.int 18) H Q) (Q (.int 1000000000000000000) H):=⟨λh=>a36 h⟩
end
structure QE (X:Cx) (e:Expr) (t:TE):Prop where
 h:PE X e t
structure QT (X:Cx) (e:Expr) (t:TT):Prop where
 h:PT X e t
structure QA (X:Cx) (es:List Expr) (t:TA):Prop where
 h:PA X es t
structure QS (X:Cx) (st:Stmt) (t:TS):Prop where
 h:PS X st t
structure QSs (X:Cx) (st:List Stmt) (t:TS):Prop where
 h:BZ X st t
structure QG (X:Cx) (e:Expr) (t:TG):Prop where
 h:PG X e t
structure QI (X:Cx) (tg iter:Expr) (wi:TI):Prop where
 h:PI X tg iter wi
structure QOp (X:Cx) (f:Value -> Value -> Sem Value) (r:R2):Prop where
 h:tJ X f r
structure QUn (X:Cx) (f:Value -> Sem Value) (r:V -> Hp -> VK -> Prop):Prop where
 h:a46 X f r
structure QC (X:Cx) (f:Value) (r:List V -> Hp -> VK -> Prop):Prop where
 h:i8 X f r
structure QX (X:Cx) (r:R2):Prop where
 h:OI X r
structure QM (X:Cx) (id:String) (r:V -> List V -> Hp -> VK -> Prop):Prop where
 h:a5F X id r
structure QL (X:Cx) (r:V -> Option Int -> Option Int -> Hp -> VK -> Prop):Prop where
 h:a45 X r
structure QSet (X:Cx) (t:II):Prop where
 h:XO X t
section
variable {X:Cx} {a b c e:Expr} {es:List Expr} {ta tb tc te:TE} {t:TA} {pos p:Pos} {tA tB':TT}
theorem bM:QOp X (binaryOp .Add) (BN λi j=>.int (i + j)):=⟨ZU⟩
theorem jP:QOp X (binaryOp .Sub) (BN λi j=>.int (i - j)):=⟨a02⟩
theorem fW:QOp X (binaryOp .Mult) (rI B6 λi j=>.int (i * j)):=⟨ZZ⟩
theorem uY:QOp X (binaryOp .Mod) (rI (λ_ j=>0 < j) λi j=>.int (i % j)):=⟨ZY⟩
theorem CO:QOp X (binaryOp .FloorDiv) (rI OC λi j=>.int (i / j)):=⟨QV⟩
theorem jO:QOp X (binaryOp .Pow) (rI B7 λi j=>.int (i ^ j.toNat)):=⟨a00⟩
theorem HA:QOp X (binaryOp .Add) RR:=⟨ZQ⟩
theorem a0R:QOp X (compareOp .Eq) a50:=⟨a2V⟩
theorem RP:QOp X (compareOp .NotEq) a52:=⟨a2Z⟩
theorem EE:QOp X (compareOp .Lt) (BN λi j=>.bl (decide (i < j))):=⟨a2Y⟩
theorem RO:QOp X (compareOp .LtE) (BN λi j=>.bl (decide (i <= j))):=⟨a2X⟩
theorem pN:QOp X (compareOp .Gt) (BN λi j=>.bl (decide (j < i))):=⟨a2W⟩
theorem VX:QOp X (compareOp .Is) a0U:=⟨a2S⟩
theorem AL:QOp X (compareOp .IsNot) RX:=⟨ZR⟩
theorem LQ:QUn X (unaryOp .USub) (rU λi=>.int (-i)):=⟨a1H⟩
theorem JS (hc:X.calm = true):QC X (.builtin "max") HB:=⟨a20 hc⟩
theorem RM (hc:X.calm = true):QC X (.builtin "min") RW:=⟨a21 hc⟩
theorem a0M:QC X (.type "int") LR:=⟨a1Z⟩
theorem VP:QC X (.builtin "len") (RV X.K):=⟨XY⟩
theorem VZ:QX X (W7 X.K):=⟨DN⟩
theorem pP:QX X RU:=⟨Z7⟩
theorem a0Q:QL X (a3G X.K):=⟨a15⟩
theorem VR:QL X (a3F X.K):=⟨WD⟩
theorem jW:QM X "list.append" EH:=⟨wC⟩
theorem wI:QSet X CP:=⟨vC⟩
theorem bH {i j pos}:QE X (.Constant (.int i) j pos) (tC (.int i)):=⟨a06⟩
theorem a39 {b j pos}:QE X (.Constant (.bool b) j pos) (tC (.bl b)):=⟨a32⟩
theorem a0O {j pos}:QE X (.Constant .none j pos) (tC .non):=⟨a07⟩
theorem a0P {x j pos}:QE X (.Constant (.str x) j pos) (tC (.str x)):=⟨a0B⟩
theorem fO {op:Operator} {r:R2} (ho:QOp X (binaryOp op) r) (ha:QE X a ta) (hb:QE X b tb):QE X (.BinOp a op b pos) (SL r ta tb):=⟨GV ho.h ha.h hb.h⟩
theorem a3A {op:UnaryOp} {r:V -> Hp -> VK -> Prop} (ho:QUn X (unaryOp op) r) (ha:QE X a ta):QE X (.UnaryOp op a pos) (a4A r ta):=⟨XE ho.h ha.h⟩
theorem VQ {op:CmpOp} {r:R2} (ho:QOp X (compareOp op) r) (ha:QE X a ta) (hb:QE X b tb) (hm:behindInMarks op b = false):QE X (.Compare a [op] [b] pos) (SL r ta tb):=⟨V7 ho.h ha.h hb.h hm⟩
theorem EG {op:CmpOp} {r:R2} (ho:QOp X (compareOp op) r) (ha:QE X a ta) (hb:QE X b tb) (hm:behindInMarks op b = false):QT X (.Compare a [op] [b] pos) (M5 (SL r ta tb)):=⟨LM ho.h ha.h hb.h hm⟩
theorem a0N (h:QA X es t):QE X (.List es pos) (WL t):=⟨R8 h.h⟩
theorem uX {r:R2} (hr:QX X r) (ha:QE X a ta) (hb:QE X b tb) (hs:∀ o i,subscripted b false o i = operate [o,i] (getItem o i)):QE X (.Subscript a b pos) (SL r ta tb):=⟨XD hr.h ha.h hb.h hs⟩
theorem AJ:QA X [] SK:=⟨nM⟩
theorem l4 (ha:QE X e te) (hr:QA X es t) (hs:starEach (e :: es) X.env = (false,eval e X.env) :: starEach es X.env:=by rfl):QA X (e :: es) (I0 te t):=⟨iV ha.h hr.h hs⟩
theorem GZ {id:String} {x:Str} {r:List V -> Hp -> VK -> Prop} (hc:QC X (.builtin id) r) (hg:X.env.scope.names.lookup x = some .globalImplicit) (hm:X.mg x = none) (hv:bootBuiltins x = some (.builtin id)) (ha:QA X (e :: es) t) (hn:x ≠ "__name__") (hdb:(x == ("__debug__" : Str)) = false)
  (he:starEach (e :: es) X.env = (false,eval e X.env) :: starEach es X.env:=by rfl) (hpl:(backTo pos (starEach es X.env)).any (·.1) = false:=by rfl):QE X (.Call (.Name x p) (e :: es) [] pos) (XJ r t):=⟨pL hc.h hg hm hv ha.h hn hdb he hpl⟩
theorem NP {T:String} {x:Str} {r:List V -> Hp -> VK -> Prop} (hc:QC X (.type T) r) (hg:X.env.scope.names.lookup x = some .globalImplicit) (hm:X.mg x = none) (hv:bootBuiltins x = some (.type T)) (ha:QA X (e :: es) t) (hn:x ≠ "__name__") (hdb:(x == ("__debug__" : Str)) = false)
  (he:starEach (e :: es) X.env = (false,eval e X.env) :: starEach es X.env:=by rfl) (hpl:(backTo pos (starEach es X.env)).any (·.1) = false:=by rfl):QE X (.Call (.Name x p) (e :: es) [] pos) (XJ r t):=⟨m7 hc.h hg hm hv ha.h hn hdb he hpl⟩
theorem LP {i:Nat} {x:Str} (hN:X.N.Nodup) (hi:X.N[i]? = some x) (hx:O6 X.env.scope x) (hf:X.fn x = true \/ X.env.scope.names.lookup x = some .local):QG X (.Name x pos) (nY i):=⟨yT hN hi hx hf⟩
theorem JT {o i:Expr} {to ti:TE} {ts:II} (ho:QE X o to) (hi:QE X i ti) (hs:QSet X ts)
  (ha:∀ v,assign (.Subscript o i pos) X.env v = (do
   let ov <- holding [v] (eval o X.env)
   let iv <- holding [v,ov] (eval i X.env)
   standAt pos
   holding [v,ov,iv] (setItem ov iv v)
   release [v,ov,iv] []):=by intro _;rfl):QG X (.Subscript o i pos) (Q0 to ti ts):=⟨E9 ho.h hi.h hs.h ha⟩
theorem NQ {tg:Expr} (hg:X.env.scope.names.lookup (Str.ofString "range") = some NameKind.globalImplicit) (hm:X.mg "range" = none) (ha:QA X [a] t) (hs:starEach [a] X.env = [(false,eval a X.env)]:=by rfl):QI X tg (.Call (.Name "range" p) [a] [] pos) (L0 t):=⟨CM hg hm ha.h hs⟩
theorem EF:QSs X [] M4:=⟨LK⟩
theorem eG {st:Stmt} {rest:List Stmt} {ts u:TS} (h1:QS X st ts) (h2:QSs X rest u):QSs X (st :: rest) (WQ ts u):=⟨GX h1.h h2.h⟩
theorem qE {st:Stmt} {ts:TS} (h1:QS X st ts):QSs X [st] ts:=⟨LL h1.h⟩
theorem pO {i:Nat} {x:Str} {pos':Pos} (hN:X.N.Nodup) (hi:X.N[i]? = some x) (hx:O6 X.env.scope x) (he:QE X e te) (hs:swapsWith e (some (.Name x pos')) pos.line X.env = pure false) (hf:X.fn x = true \/ X.env.scope.names.lookup x = some .local) :
  QS X (.Assign [.Name x pos'] e pos) (HZ te (nY i)):=⟨RG hN hi hx he.h hs hf⟩
theorem JU {tg:Expr} {g:TG} (he:QE X e te) (hg:QG X tg g) (hs:swapsWithSole [tg] e pos.line X.env = pure false:=by rfl) (hw:swappedStores [tg] e X.env = pure none:=by rfl)
  (h1:(assignEach [tg] X.env).map (·.2) = [assign tg X.env]:=by rfl):QS X (.Assign [tg] e pos) (HZ te g):=⟨EB he.h hg.h hs hw h1⟩
theorem RQ {th el:List Stmt} {ts u:TS} (hc:QT X c tA) (ha:QSs X th ts) (hb:QSs X el u):QS X (.If c th el pos) (WK tA ts u):=⟨XF hc.h ha.h hb.h⟩
theorem JV (he:QE X e te):QS X (.Return (some e) pos) (WP te):=⟨JR he.h⟩
theorem a0S {tg iter:Expr} {body:List Stmt} {wi:TI} {g:TG} {ts:TS} (hp:PassesOwn (model X.prog X.w) X.A X.env X.xe) (hc:X.calm = true) (hi:QI X tg iter wi) (hg:QG X tg g) (hb:QSs X body ts)
  (hs:∀ x,foldedSetIterable iter X.env x = pure x:=by intro _;rfl):QS X (.For tg iter body [] pos) (SJ wi g ts):=⟨RF hp hc hi.h hg.h hb.h hs⟩
theorem RL {i:Nat} {x:Str} (hN:X.N[i]? = some x) (hv:a4K X.env.scope x) (hd:(x == ("__debug__" : Str)) = false) (hcd:(x == ("__classdict__" : Str)) = false):QE X (.Name x pos) (gH i):=⟨a0D hN hv hd hcd⟩
end
theorem RK {X:Cx} {b:List Stmt} {t:TS} {D:Ends} {σ:St} {H:Hp} (h:QSs X b t) (q:t D σ H):∃ t,BZ X b t /\ t D σ H:=⟨t,h.h,q⟩
structure LcOk (N:List Str) (osc scope:Scope) (N':List Str) (n:Nat) (cap:List Nat):Prop where
 kind:scope.kind = .function
 nocell:∀ y ∈ scope.names,y.2 ≠ .cell
 names:∀ y ∈ scope.names,y.2 = .local -> scope.names.lookup y.1 = some .local
 frees:∀ y ∈ scope.names,y.2 = .free -> osc.names.lookup y.1 = some .cell
 caps:N'.drop n = cap.map λi=>N.getD i Str.empty
 capl:∀ i ∈ cap,i < N.length
 capf:∀ x ∈ N'.drop n,scope.names.lookup x = some NameKind.free
 len:N'.length = n + cap.length
def MN (scope:Scope) (env:Env):List (Str × Addr):=(scope.names.filter λy=>y.2 == .free).reverse.map λy=>(y.1,(env.cells.lookup y.1).getD 0)
theorem tT {env:Env}:∀ (ys:List (Str × NameKind)) (acc:List (Str × Addr)),(∀ y ∈ ys,y.2 = .free -> ∃ c,env.cells.lookup y.1 = some c) ->
  (forIn ys acc λ(y:Str × NameKind) (r:List (Str × Addr))=>(if (y.2 == NameKind.free) = true then do let a <- cellOf env y.1;pure (ForInStep.yield ((y.1,a) :: r)) else pure (ForInStep.yield r):Sem (ForInStep (List (Str × Addr))))) =
   (pure ((ys.filter λy=>y.2 == .free).reverse.map (λy=>(y.1,(env.cells.lookup y.1).getD 0)) ++ acc):Sem (List (Str × Addr)))
 | [],acc,_=>by simp
 | y :: r,acc,h=>by
  have ih:=λa=>tT r a λz hz=>h z (a0i _ hz)
  rw [a5g]
  by_cases e:y.2 = .free
  ·obtain ⟨c,hc⟩:=h y a0n e
   have e':(y.2 == NameKind.free) = true:=by simpa using e
   rw [if_pos e']
   have h1:cellOf env y.1 = (pure c:Sem Addr):=by unfold cellOf;rw [hc]
   rw [h1]
   simp only [pure_bind]
   rw [ih,a2k,if_pos e']
   simp [hc]
  ·have e':¬ (y.2 == NameKind.free) = true:=by simpa using e
   rw [if_neg e']
   simp only [pure_bind]
   rw [ih,a2k,if_neg e']
theorem mN {scope:Scope} {env:Env} (h:∀ y ∈ scope.names,y.2 = .free -> ∃ c,env.cells.lookup y.1 = some c):closureFor scope env = pure (MN scope env):=by
 have e:=tT (env:=env) scope.names [] h
 rw [a69] at e
 unfold closureFor
 refine Eq.trans (congrArg (λm=>m >>= λr=>(pure r:Sem (List (Str × Addr)))) ?_) (pure_bind (MN scope env) _)
 exact e
theorem k9 {α:Type}:∀ {l:List (Str × α)} {x:Str} {c:α},l.lookup x = some c -> (x,c) ∈ l
 | (a,b) :: r,x,c,h=>by
  rw [a2s] at h
  by_cases e:x = a
  ·subst e
   simp at h
   subst h
   exact a0n
  ·have e':(x == a) = false:=by simpa using e
   rw [e'] at h
   exact a0i _ (k9 h)
theorem qY {α:Type}:∀ {l:List (Str × α)} {x:Str} {c:α},(x,c) ∈ l -> ∃ d,l.lookup x = some d
 | (a,b) :: r,x,c,h=>by
  rw [a2s]
  by_cases e:x = a
  ·exact ⟨b,by simp [e]⟩
  ·have e':(x == a) = false:=by simpa using e
   rw [e']
   rcases a0q.mp h with z | z
   ·cases z;exact absurd rfl e
   ·exact qY z
theorem oH {scope:Scope} {env:Env} (h:∀ y ∈ scope.names,y.2 = .free -> ∃ c,env.cells.lookup y.1 = some c) {x:Str} {c:Addr} (e:(MN scope env).lookup x = some c):env.cells.lookup x = some c:=by
 obtain ⟨y,hy,hz⟩:=a0p.mp (k9 e)
 have hy':=a2e.mp (a5v.mp hy)
 obtain ⟨d,hd⟩:=h y hy'.1 (by simpa using hy'.2)
 rw [hd] at hz
 cases hz
 exact hd
theorem FB {scope:Scope} {env:Env} {x:Str} (h:(x,NameKind.free) ∈ scope.names):∃ c,(MN scope env).lookup x = some c :=
 qY (a0p.mpr ⟨(x,.free),a5v.mpr (a2e.mpr ⟨h,by rfl⟩),rfl⟩)
def bJ (X:Cx) (N':List Str) (scope:Scope) (C:Addr) (s:Shared) (H:Hp) (fp:List Addr):Cx where
 prog:=X.prog
 w:=X.w
 K:=X.K
 mg:=X.mg
 base:=X.base
 A:=X.A
 N:=N'
 s₀:=s
 H₀:=H
 env:=compEnvC scope (MN scope X.env) C X.env
 outer:=X.stack
 stack:=X.stack
 ex:=fp
 fn:=λ_=>false
 calm:=X.calm
 pn:=[]
 xe:=λ_ _=>False
def JB (n:Nat) (cap:List Nat) (σ:St):St:=List.replicate n none ++ cap.map λi=>σ.getD i none
def a59 (tt:TT) (te:TE) (acc:Addr):TS:=λD σ H=>tt σ H λb H1=>if b = true then te σ H1 λv H2=>∃ ys,H2 acc = some (.lst ys) /\ ys.length < sizeLine /\ D.nx σ (c7 H2 acc (.lst (ys ++ [v]))) else D.nx σ H1
def a58 (wi:TI) (g:TG) (tt:TT) (te:TE) (n:Nat) (cap:List Nat):TE:=λσ H Q=>wi σ H λJ H1=>∀ acc,H1 acc = none ->
 tK J g (a59 tt te acc) { nx:=λ_ H'=>Q (.ref acc) H',rt:=λ_ _=>False } (JB n cap σ) (c7 H1 acc (.lst []))
def O7 (X:Cx) (ifs:List Expr) (t:TT):Prop :=
 ∀ (pins:List (Addr × Obj)) (s:Shared) (σ:St) (H:Hp) (Q:Bool -> Hp -> Prop),Inv X pins σ H s -> t σ H Q ->
  wpAny (model X.prog X.w) X.A (forIn ifs true λc r=>if r = true then do let ok <- isTrue c X.env (eval c X.env);pure (ForInStep.yield ok) else pure (ForInStep.yield r)) (TP X pins σ Q) X.xe s
def a3U:TT:=λ_ H Q=>Q true H
theorem VL {X:Cx}:O7 X [] a3U:=λ_ _ _ H _ I h=>wpAny_tests_nil ⟨H,I,h⟩
theorem VM {X:Cx} {c:Expr} {t:TT} (h:PT X c t):O7 X [c] t:=λpins s σ H Q I q=>wpAny_tests_one (h pins s σ H Q I q)
theorem yQ {P:Program} {w:World} {H:Hp} {h h':Heap} {C:Addr} (ok:rP P w H h) (hC:H C = none) (hs:Heap.SameBut C h h'):rP P w H h':=λb ob e=>by
 refine (ok b ob e).stay (λc u hc q=>(hs.2 c ?_).trans q) (λ_ q=>q) λ_ _ q=>q
 rintro rfl
 rcases hc with rfl | hc
 ·rw [hC] at e;cases e
 ·rw [hC] at hc;cases hc
section
variable {X:Cx} {elt target iter:Expr} {ifs:List Expr} {scope:Scope} {pos:Pos} {N':List Str} {n:Nat} {cap:List Nat} {wi:TI} {g:TG} {tt:TT} {te:TE}
theorem uD {pins:List (Addr × Obj)} {σ:St} {H:Hp} {s:Shared} {h1:Heap} {m0:Str -> Option Value} {fp:List Addr} {tk:Nat} (S:LcOk X.N X.env.scope scope N' n cap) (I:Inv X pins σ H s) (hf:∀ b ∈ fp,lB X pins H b) (hfs:∀ b ∈ fp,b < s.heap.objs.size)
  (ns:h1.Ns s.heap.objs.size m0) (k:∀ b o,s.heap.get? b = some o -> h1.get? b = some o) :
  Inv (bJ X N' scope s.heap.objs.size s H fp) [] (JB n cap σ) H { s with heap:=h1,toks:=tk }:=by
 have hfree:∀ y ∈ scope.names,y.2 = .free -> ∃ c,X.env.cells.lookup y.1 = some c:=λy hy e=>I.ok.has y.1 (.inl (S.frees y hy e))
 have sub:∀ {x:Str} {c:Addr},(MN scope X.env).lookup x = some c -> X.env.cells.lookup x = some c:=λe=>oH hfree e
 have okY:(bJ X N' scope s.heap.objs.size s H fp).Ok:=by
  refine ⟨I.ok.mod,S.kind,I.ok.glob,I.ok.blt,a0l _,λx y c a b=>I.ok.inj x y c (sub a) (sub b),λx hx=>?_,λx c z=>absurd z a0j,I.ok.hd,I.ok.frames,.inl rfl,λb hb=>⟨?_,λx c e=>(hf b hb).2.2.2.2.1 x c (sub e)⟩,
   I.bs,a1b I.ok.bsz I.sz,λb o e hb=>?_,λb hb hs=>?_,I.stack,I.stkFree⟩
  ·have mem:(x,NameKind.free) ∈ scope.names:=by
    have hx':(relabel scope X.env).names.lookup x = some .cell \/ (relabel scope X.env).names.lookup x = some .free:=hx
    have go:∀ k,(relabel scope X.env).names.lookup x = some k -> (k = .cell \/ k = .free) -> (x,NameKind.free) ∈ scope.names:=λk e hk=>by
     obtain ⟨y,hy,hz⟩:=a0p.mp (k9 e)
     obtain ⟨yn,yk⟩:=y
     dsimp only at hz
     split at hz
     ·rename_i hc
      cases hz
      have:yk = .free:=by simp at hc;exact hc.1.1
      rw [<- this];exact hy
     ·cases hz
      rcases hk with rfl | rfl
      ·exact absurd rfl (S.nocell _ hy)
      ·exact hy
    rcases hx' with e | e
    ·exact go _ e (.inl rfl)
    ·exact go _ e (.inr rfl)
   exact FB mem
  ·exact a0r (hfs b hb)
  ·rcases (hf b hb).2.2.2.1 with z | z
   ·exact I.ok.noex b o e z
   ·exact absurd (a0z (a0m e) I.ok.bsz) (Nat.not_lt.mpr z)
  ·rcases a0q.mp (I.stkSub b hs) with z | z
   ·exact (hf b hb).2.1 z
   ·exact (hf b hb).2.2.1 z
 refine ⟨okY,rfl,I.bare,Un.kept k,⟨m0,ns,λi x v e1 e2 e3=>?_⟩,λx c e=>?_,I.fresh,λx c e=>I.freeC x c (sub e),λp hp=>absurd hp (by simp [bJ]),I.hok.kept k,?_⟩
 ·have e2':(List.replicate n none ++ cap.map λi=>σ.getD i none)[i]? = some (some v):=e2
  by_cases hi:i < n
  ·rw [a1p (by simpa using hi),a2q] at e2'
   split at e2' <;> cases e2'
  ·rw [a1n (by simpa using a4j hi),a1t,a0h] at e2'
   cases hc:cap[i - n]? with
   | none=>rw [hc] at e2';cases e2'
   | some j =>
    rw [hc] at e2'
    have ev:σ.getD j none = some v:=a1i e2'
    have ex':(N'.drop n)[i - n]? = some x:=by rw [List.getElem?_drop,show n + (i - n) = i by omega];exact e1
    have exN:X.N[j]? = some x:=by
     rw [S.caps,a0h,hc] at ex'
     have hj:=S.capl j (a0x hc)
     have z:X.N.getD j Str.empty = x:=a1i ex'
     rw [a0g,a0b hj] at z
     rw [a0b hj]
     exact congrArg some z
    have eσ:σ[j]? = some (some v):=by
     rw [a0g] at ev
     cases q:σ[j]? with
     | none=>rw [q] at ev;cases ev
     | some o=>rw [q] at ev;exact congrArg some ev
    have lf:=S.capf x (a0x ex')
    have mem:=k9 lf
    have kx:X.env.kindOf x = some .cell:=S.frees _ mem rfl
    obtain ⟨m,_,hl⟩:=I.loc
    obtain ⟨u,ru,lu⟩:=hl j x v exN eσ (.inr (.inl kx))
    refine ⟨u,ru,.inr ⟨?_,?_⟩⟩
    ·rcases e3 with z | z | z
     ·
      exfalso
      obtain ⟨y,hy,hz⟩:=a0p.mp (k9 (show (relabel scope X.env).names.lookup x = some .local from z))
      obtain ⟨yn,yk⟩:=y
      dsimp only at hz
      split at hz
      ·cases hz
      ·cases hz
       have l1:=S.names _ hy rfl
       rw [lf] at l1
       cases l1
     ·exact .inl z
     ·exact .inr z
    ·rcases lu with ⟨kl,_⟩ | ⟨_,c,hc',hcell⟩
     ·rw [kx] at kl;cases kl
     ·obtain ⟨d,hd⟩:=FB (env:=X.env) mem
      have:=sub hd
      rw [hc'] at this
      cases this
      obtain ⟨oc,h1',h2'⟩:=hcell
      exact ⟨c,hd,oc,k c oc h1',h2'⟩
 ·obtain ⟨v,oc,h1',h2'⟩:=I.cell x c (sub e)
  exact ⟨v,oc,k c oc h1',h2'⟩
 ·show (List.replicate n none ++ cap.map λi=>σ.getD i none).length = N'.length
  rw [S.len];simp
theorem L6 {prog:Program} {w:World} {A:Around} {R:Result -> Shared -> Prop} {s:Shared} {it acc:Value} {env:Env} (I:Nat -> Shared -> Prop)
  (turn:∀ n s,I n s -> wpAny (model prog w) A (pyNext it) (λr s1=>match r with
   | none=>R (.ok .next) s1
   | some v=>wpAny (model prog w) A (letOwnedTupleGo target it v) (λ_ s2=>wpAny (model prog w) A (assign target env v) (λ_ s3 =>
     wpAny (model prog w) A (forIn ifs true λc r=>if r = true then do let ok <- isTrue c env (eval c env);pure (ForInStep.yield ok) else pure (ForInStep.yield r)) (λok s4 =>
      if ok = true then wpAny (model prog w) A (eval elt env) (λx s5=>wpAny (model prog w) A (call (.builtin "list.append") [acc,x]) (λ_ s6=>∃ m,m < n /\ I m s6) (λ_ _=>False) s5) (λ_ _=>False) s4
      else ∃ m,m < n /\ I m s4) (λ_ _=>False) s3) (λ_ _=>False) s2) (λ_ _=>False) s1) (λ_ _=>False) s)
  (n:Nat) (h:I n s):codeAny (model prog w) A (.compLoop (.ListComp elt [⟨target,iter,ifs,0⟩] scope pos) 0 it acc env) R s:=by
 refine codeAny_loop rfl I (λn s hI=>?_) n h
 refine wpAny_noted (env:=env) (m:=compTurn (.ListComp elt [⟨target,iter,ifs,0⟩] scope pos) 0 it acc env) ?_
 rw [compTurn_list]
 have up:∀ {α:Type} {t:Sem α} {Q:α -> Shared -> Prop} {E:Value -> Shared -> Prop} {s:Shared},wpAny (model prog w) A t Q (λ_ _=>False) s -> wpAny (model prog w) A t Q E s :=
  λh=>a1a h (λ_ _ q=>q) λ_ _ z=>z.elim
 refine a0a (a3h (a0a (a1a (turn n s hI) (λr s1 h1=>?_) λ_ _ z=>z.elim)))
 cases r with
 | none=>exact a0c h1
 | some v =>
  refine a0a (a1a h1 (λ_ s2 h2=>?_) λ_ _ z=>z.elim)
  refine a0a (a1a h2 (λ_ s3 h3=>?_) λ_ _ z=>z.elim)
  refine a0a (a1a h3 (λok s4 h4=>?_) λ_ _ z=>z.elim)
  cases ok with
  | false=>exact a0c ⟨rfl,h4⟩
  | true =>
   refine a0a (a0a (a1a h4 (λx s5 h5=>?_) λ_ _ z=>z.elim))
   exact a0a (a1a h5 (λ_ s6 h6=>a0c (a0c ⟨rfl,h6⟩)) λ_ _ z=>z.elim)
theorem a33 (hc:X.calm = true) (S:LcOk X.N X.env.scope scope N' n cap) (hi:PI X target iter wi) (hg:∀ C s H fp,PG (bJ X N' scope C s H fp) target g)
  (ht:∀ C s H fp,O7 (bJ X N' scope C s H fp) ifs tt) (he:∀ C s H fp,PE (bJ X N' scope C s H fp) elt te) (hs:∀ x,foldedSetIterable iter X.env x = pure x:=by intro _;rfl) :
  PE X (.ListComp elt [⟨target,iter,ifs,0⟩] scope pos) (a58 wi g tt te n cap):=by
 intro pins s σ H Q I h
 have hfree:∀ y ∈ scope.names,y.2 = .free -> ∃ c,X.env.cells.lookup y.1 = some c:=λy hy e=>I.ok.has y.1 (.inl (S.frees y hy e))
 rw [eval_ListComp]
 refine a4k (use:=none) rfl hs (mN hfree) S.kind S.names ?_
 refine dX (hi pins s σ H _ I h) λv s1 h1=>dX h1 λitv s2 h2=>?_
 obtain ⟨it,fp,tn,J,H2,rfl,I2,T,st2,f2,body⟩:=h2
 refine a1m ?_
 have I3:=I2.lnew (ys:=[]) (its:=[]) (t':=s2.toks) .nil (a2u _)
 have hacc:H2 s2.heap.objs.size = none:=I2.fresh
 obtain ⟨W,⟨m0,w0⟩,turn⟩:=body _ hacc
 have hlt:∀ b ∈ fp,b < s2.heap.objs.size:=λb hb=>by
  obtain ⟨o,e,_⟩:=T.obj 0 _ st2 b hb
  exact a0m e
 have hf3:∀ b ∈ fp,lB X pins (c7 H2 s2.heap.objs.size (.lst [])) b:=λb hb =>
  ⟨by rw [aG (a0r (hlt b hb))];exact (f2 b hb).1,(f2 b hb).2⟩
 refine a5d S.nocell (by intro y hy;cases hy) (λh4 ns4 sb4=>?_) S.kind
 generalize hs3:({ s2 with heap:=s2.heap.push { cls:=.type "list",dict:=none,data:=.seq ([]:List Value).toArray } }:Shared) = s3 at *
 have hsz:s2.heap.objs.size < s3.heap.objs.size:=by rw [<- hs3,a2v];exact a2z _
 have k4:∀ b o,s3.heap.get? b = some o -> h4.get? b = some o:=λb o e=>(sb4.2 b (a0r (a0m e))).trans (a0e _ e)
 generalize hH3:c7 H2 s2.heap.objs.size (.lst []) = H3 at *
 have I3':Inv X pins σ H3 s3:=I3
 have IY:=uD (tk:=s3.toks + ([]:List (Str × Value)).length) S I3' hf3 (λb hb=>a2h (hlt b hb) hsz) ns4 k4
 have fpY:∀ H':Hp,(∀ b ∈ fp,H' b = none) -> ∀ b ∈ fp,lB (bJ X N' scope s3.heap.objs.size s3 H3 fp) [] H' b:=λH' hn b hb=>by
  obtain ⟨_,f1,f2',f3,f4,f5⟩:=hf3 b hb
  refine ⟨hn b hb,a0r (a2h (hlt b hb) hsz),λz=>?_,.inl hb,λx c e=>f4 x c (oH hfree e),λp hp=>absurd hp (by simp [bJ])⟩
  rcases a0q.mp (I3'.stkSub b z) with z | z
  ·exact f1 z
  ·exact f2' z
 have tn4:tn 0 h4:=T.keep 0 _ _ st2 λb hb o e=>k4 b o (by rw [<- hs3];exact a0e _ e)
 have loop:codeAny (model X.prog X.w) X.A (.compLoop (.ListComp elt [⟨target,iter,ifs,0⟩] scope pos) 0 (.ref it) (.ref s2.heap.objs.size) (bJ X N' scope s3.heap.objs.size s3 H3 fp).env)
   (compPost (model X.prog X.w) X.A X.xe none (EP X pins σ Q) (.ref s2.heap.objs.size) s3.heap.objs.size) { s3 with heap:=h4,toks:=s3.toks + ([]:List (Str × Value)).length }:=by
  refine L6 (λk s'=>∃ i σ' H',Inv (bJ X N' scope s3.heap.objs.size s3 H3 fp) [] σ' H' s' /\ tn i s'.heap /\ (∀ b ∈ fp,H' b = none) /\ W i k σ' H') ?_ m0 ⟨0,_,_,IY,tn4,λb hb=>(hf3 b hb).1,w0⟩
  rintro k s5 ⟨i,σ5,H5,I5,st5,fr5,w5⟩
  rcases turn i k σ5 H5 w5 with ⟨stop,qn⟩ | ⟨go,Nn,hN,step⟩
  ·refine a1a (T.done (bJ X N' scope s3.heap.objs.size s3 H3 fp) rfl rfl rfl hc i [] s5 σ5 H5 (λ_ _=>False) I5 (fpY H5 fr5) st5 stop) (λr s6 hr=>?_) (λ_ _ z=>z)
   obtain ⟨rfl,I6⟩:=hr
   obtain ⟨m,hn,_⟩:=I6.loc
   refine ⟨m,hn,λh' hs'=>⟨.ref s2.heap.objs.size,H5,?_,rfl,qn⟩⟩
   have ub:=I6.base
   have ne:∀ b o,s3.heap.get? b = some o -> b ≠ s3.heap.objs.size:=λb o e=>a0r (a0m e)
   refine I3'.call' (s':={ s6 with heap:=h' }) (ch:=fp) I6.os ⟨λb o e z1 z2 z3=>(hs'.2 b (ne b o e)).trans (ub.keep b o e z1 z2 z3),λb o e z1 z2 z3=>?_,ub.free,λb o e z=>?_,ub.tups,ub.frzs,ub.tbls⟩ (yQ I6.hok I6.free hs') I6.bare λb hb=>⟨(hf3 b hb).2.2.2.1,(hf3 b hb).2.1,(hf3 b hb).2.2.2.2.1,(hf3 b hb).2.2.2.2.2⟩
   ·obtain ⟨sl,e'⟩:=ub.slot b o e z1 z2 z3
    exact ⟨sl,(hs'.2 b (ne b o e)).trans e'⟩
   ·obtain ⟨o',e'⟩:=ub.there b o e z
    exact ⟨o',(hs'.2 b (ne b o e)).trans e'⟩
  ·refine a1a (T.item (bJ X N' scope s3.heap.objs.size s3 H3 fp) rfl rfl rfl hc i [] s5 σ5 H5 (λ_ _=>False) I5 (fpY H5 fr5) st5 go) (λr s6 h6=>?_) (λ_ _ z=>z)
   obtain ⟨u,rfl,h6⟩:=h6
   refine a1a h6 (λ_ s7 h7=>?_) (λ_ _ z=>z)
   obtain ⟨x,H7,I7,r7,y7,st7,fr7⟩:=h7
   have I7':=I7.pinned (fpY H7 fr7) (T.obj _ _ st7)
   have again:∀ {σ':St} {H':Hp} {s':Shared},Inv (bJ X N' scope s3.heap.objs.size s3 H3 fp) ([] ++ sX fp s7.heap) σ' H' s' -> Nn σ' H' ->
     ∃ m,m < k /\ ∃ i σ' H',Inv (bJ X N' scope s3.heap.objs.size s3 H3 fp) [] σ' H' s' /\ tn i s'.heap /\ (∀ b ∈ fp,H' b = none) /\ W i m σ' H':=fun {σ' H' s'} J7 n7=>by
    obtain ⟨m',hm,w7⟩:=hN σ' H' n7
    have pin:∀ b ∈ fp,∀ o,s7.heap.get? b = some o -> s'.heap.get? b = some o /\ H' b = none:=λb hb o e=>by
     have z:=J7.pin (b,o) (a0w _ (a0w _ (g9 hb e)))
     exact ⟨z.1,z.2.1⟩
    refine ⟨m',hm,i + 1,σ',H',J7.unpinned,T.keep _ _ _ st7 λb hb o e=>(pin b hb o e).1,λb hb=>?_,w7⟩
    obtain ⟨o,e,_⟩:=T.obj _ _ st7 b hb
    exact (pin b hb o e).2
   refine dX (hg _ _ _ _ _ s7 σ5 H7 x u _ I7' r7 (step x H7 y7)) λ_ s8 h8=>?_
   obtain ⟨σ8,H8,I8,q8⟩:=h8
   refine dX (ht _ _ _ _ _ s8 σ8 H8 _ I8 q8) λok s9 h9=>?_
   obtain ⟨H9,I9,q9⟩:=h9
   cases ok with
   | false =>
    rw [if_neg a0j] at q9 ⊢
    exact again I9 q9
   | true =>
    rw [if_pos rfl] at q9 ⊢
    refine dX (he _ _ _ _ _ s9 σ8 H9 _ I9 q9) λxv s10 h10=>?_
    obtain ⟨v',H10,I10,r10,ys,ha,hl,q10⟩:=h10
    refine dX (wC (X:=bJ X N' scope s3.heap.objs.size s3 H3 fp) _ s10 σ8 H10 (.ref s2.heap.objs.size) [v'] (.ref s2.heap.objs.size) [xv] (λ_ H'=>Nn σ8 H') I10 rfl (.cons r10 .nil) ⟨_,ys,v',rfl,rfl,ha,hl,q10⟩) λ_ s11 h11=>?_
    obtain ⟨_,H11,I11,_,q11⟩:=h11
    exact again I11 q11
 exact codeAny_compStart_list loop (T.self _ 0 _ _ _ tn4 loop)
end
section
variable {X:Cx} {pins:List (Addr × Obj)} {σ:St} {H:Hp} {s:Shared}
def a0X:List V -> Hp -> VK -> Prop:=λxs H Q=>∃ p ns,xs = [.ref p] /\ H p = some (.lst (List.map V.int ns)) /\ Q (.int ns.sum) H
theorem a22 (hc:X.calm = true):i8 X (.builtin "sum") a0X:=by
 intro pins s σ H xs us Q I r h
 obtain ⟨p,ns,rfl,hp,q⟩:=h
 obtain ⟨u,rfl,ru⟩:=rH r
 cases ru
 obtain ⟨_,its,n,v,l,g⟩:=I.lstM hp
 have hi:IntsAre its ns:=zU v
 have hl:s.heap.IsList p its.toArray:=⟨_,g,rfl,n,rfl⟩
 obtain ⟨ys,ey⟩:=hi.allInts.items
 rw [ey] at hl
 refine sum_intListG (I.ok.hd hc) hl λh' tk t' hk=>?_
 have e3:numsOf its.toArray.toList = ns:=hi.numsOf
 rw [ey,nums_intItems] at e3
 refine ⟨.int ns.sum,H,I.kept hk,⟨t',?_⟩,q⟩
 rw [preSum_eq,a5o (by simp),e3]
theorem y6:∀ {xs:List V} {us:List Value},xs.length = us.length -> (∀ (i:Nat) (x:V) (u:Value),xs[i]? = some x -> us[i]? = some u -> bR x u) -> bF xs us
 | [],[],_,_=>.nil
 | x :: xs,u :: us,h,k=>.cons (k 0 x u rfl rfl) (y6 (by simpa using h) λi y v e1 e2=>k (i + 1) y v (by simpa using e1) (by simpa using e2))
 | [],_ :: _,h,_=>by simp at h
 | _ :: _,[],h,_=>by simp at h
def a54:List V -> Hp -> VK -> Prop:=λxs H Q=>∃ j:Int,xs = [.int j] /\ ∀ p,H p = none -> Q (.ref p) (c7 H p (.rng 0 j))
theorem TL:i8 X (.type "range") a54:=by
 intro pins s σ H xs us Q I r h
 obtain ⟨j,rfl,q⟩:=h
 obtain ⟨u,rfl,t,rfl⟩:=rH r
 refine call_range_1 ?_
 exact ⟨.ref s.heap.objs.size,_,I.laid (o:=.rng 0 j) (λb o e=>a0e _ e) (a0l _) ⟨_,_,_,a0y _ rfl⟩,rfl,q _ I.fresh⟩
def xH (m:Nat):List V:=(List.range m).map λ(i:Nat)=>V.int (i:Int)
def a0W:List V -> Hp -> VK -> Prop:=λxs H Q=>∃ p j,xs = [.ref p] /\ H p = some (.rng 0 j) /\ (0 <= j /\ j <= 1000) /\ ∀ l,H l = none -> Q (.ref l) (c7 H l (.lst (xH j.toNat)))
theorem TK (hc:X.calm = true):i8 X (.type "list") a0W:=by
 intro pins s σ H xs us Q I r h
 obtain ⟨p,j,rfl,hp,hj,q⟩:=h
 obtain ⟨u,rfl,ru⟩:=rH r
 cases ru
 obtain ⟨t1,t2,t3,g⟩:=(show eV X.prog X.w H s.heap p (.rng 0 j) from I.hok p _ hp)
 refine call_list_range (I.ok.hd hc) (n:=j.toNat) g (small_one (by decide) (by decide) (by omega) (by omega)) (by rw [rangeSize_one];split <;> omega) (a1b (show j.toNat <= 1000 by omega) (by decide)) λh' tk acc' c' hk hS' hacc=>?_
 refine ⟨.ref s.heap.objs.size,_,I.laid (o:=.lst (xH j.toNat)) hk (a0l _) ?_,rfl,q _ I.fresh⟩
 have hlen:(xH j.toNat).length = acc'.toList.length:=by
  unfold xH
  rw [a0d,a4w,a0s,hacc.1]
 refine ⟨?_,acc'.toList,c',?_,by simpa using hS'⟩
 ·rw [hlen,a0s,hacc.1]
  exact a1b (show j.toNat <= 1000 by omega) (by decide)
 ·refine y6 hlen λi x v e1 e2=>?_
  obtain ⟨t,rfl⟩:=hacc.2 i v (by simpa using e2)
  have:x = .int (i:Int):=by
   unfold xH at e1
   rw [a0h] at e1
   cases z:(List.range j.toNat)[i]? with
   | none=>rw [z] at e1;cases e1
   | some y =>
    rw [z] at e1
    have hy:y = i:=by
     have:=(a0k.mp z).2
     simp at this;exact this.symm
    rw [hy] at e1
    exact (a1i e1).symm
  rw [this]
  exact ⟨t,by rw [a6f,Int.zero_add]⟩
end
theorem jI {env:Env} (hk:env.scope.kind = .function):∀ {names:List (Str × NameKind)} {x:Str},names.lookup x = some .free -> env.scope.names.lookup x = some .cell ->
  (names.map λ(n,k)=>if (k == NameKind.free && env.scope.kind == .function && env.kindOf n == some .cell) then (n,NameKind.cell) else (n,k)).lookup x = some .cell
 | (n,k) :: r,x,h,ho=>by
  rw [a2s] at h
  rw [a0f]
  by_cases e:x = n
  ·subst e
   rw [beq_self_eq_true] at h
   cases (a1i h:k = .free)
   have hc:(NameKind.free == NameKind.free && env.scope.kind == .function && env.kindOf x == some .cell) = true:=by
    rw [hk,show env.kindOf x = some .cell from ho];rfl
   dsimp only
   rw [if_pos hc,a2s]
   simp
  ·have e':(x == n) = false:=by simpa using e
   rw [e'] at h
   have ih:=jI hk (names:=r) (x:=x) h ho
   dsimp only
   split
   ·rw [a2s,e'];exact ih
   ·rw [a2s,e'];exact ih
theorem kO {env:Env}:∀ {names:List (Str × NameKind)} {x:Str},names.lookup x = some .globalImplicit ->
  (names.map λ(n,k)=>if (k == NameKind.free && env.scope.kind == .function && env.kindOf n == some .cell) then (n,NameKind.cell) else (n,k)).lookup x = some .globalImplicit
 | (n,k) :: r,x,h=>by
  rw [a2s] at h
  rw [a0f]
  by_cases e:x = n
  ·subst e
   rw [beq_self_eq_true] at h
   cases (a1i h:k = .globalImplicit)
   dsimp only
   rw [if_neg (by simp),a2s]
   simp
  ·have e':(x == n) = false:=by simpa using e
   rw [e'] at h
   have ih:=kO (env:=env) (names:=r) (x:=x) h
   dsimp only
   split
   ·rw [a2s,e'];exact ih
   ·rw [a2s,e'];exact ih
section
variable {X:Cx} {N':List Str} {scope:Scope} {C:Addr} {s:Shared} {H:Hp} {fp:List Addr} {i:Nat} {x:Str} {pos:Pos}
theorem dU (hN:N'.Nodup) (hi:N'[i]? = some x) (h:scope.names.lookup x = some .local):QG (bJ X N' scope C s H fp) (.Name x pos) (nY i):=LP hN hi (Or.inl (a6a h)) (Or.inr (a6a h))
theorem bD (hi:N'[i]? = some x) (h:scope.names.lookup x = some .local) (hd:(x == ("__debug__" : Str)) = false) (hcd:(x == ("__classdict__" : Str)) = false):QE (bJ X N' scope C s H fp) (.Name x pos) (gH i):=RL hi (Or.inl (a6a h)) hd hcd
theorem gD (hi:N'[i]? = some x) (h:scope.names.lookup x = some .free) (hk:X.env.scope.kind = .function) (ho:X.env.scope.names.lookup x = some .cell) (hd:(x == ("__debug__" : Str)) = false) (hcd:(x == ("__classdict__" : Str)) = false):QE (bJ X N' scope C s H fp) (.Name x pos) (gH i) :=
 RL hi (Or.inr (Or.inl (jI hk h ho))) hd hcd
theorem CN (h:scope.names.lookup x = some .globalImplicit):(bJ X N' scope C s H fp).env.scope.names.lookup x = some .globalImplicit:=kO h
end
section
variable {X:Cx} {elt target iter:Expr} {ifs:List Expr} {scope:Scope} {pos:Pos} {N':List Str} {n:Nat} {cap:List Nat} {wi:TI} {g:TG} {tt:TT} {te:TE}
theorem ED (hc:X.calm = true):QC X (.builtin "sum") a0X:=⟨a22 hc⟩
end
inductive PV where
 | non | bl (b:Bool) | int (i:Int) | str (x:Str) | ty (n:String) | st
 | scr (ns:List Int)
 | set (S:Int -> Bool) (n:Nat)
 | lst (xs:List PV) | tup (xs:List PV) | dic (ks:List cK) (xs:List PV)
mutual
def PV.flat:PV -> Bool
 | .lst _=>false
 | .dic _ _=>false
 | .st=>false
 | .scr _=>false
 | .tup xs=>PV.flats xs
 | _=>true
def PV.flats:List PV -> Bool
 | []=>true
 | x :: xs=>x.flat && PV.flats xs
end
theorem PV.flats_all:∀ {xs:List PV},PV.flats xs = true -> ∀ x ∈ xs,x.flat = true
 | x :: xs,h,y,hy=>by
  rw [PV.flats,a1e] at h
  rcases a0q.mp hy with rfl | hy
  ·exact h.1
  ·exact PV.flats_all h.2 y hy
 | [],_,y,hy=>by cases hy
theorem PV.flats_of:∀ {xs:List PV},(∀ x ∈ xs,x.flat = true) -> PV.flats xs = true
 | [],_=>by rw [PV.flats]
 | x :: xs,h=>by rw [PV.flats,a1e];exact ⟨h x a0n,PV.flats_of λy hy=>h y (a0i _ hy)⟩
def HO.imm:HO -> Bool
 | .tup _=>true
 | .set _ _=>true
 | _=>false
inductive Rep (G:Addr -> Prop) (H:Hp):V -> PV -> Prop where
 | non:Rep G H .non .non
 | bl (b:Bool):Rep G H (.bl b) (.bl b)
 | int (i:Int):Rep G H (.int i) (.int i)
 | str (x:Str):Rep G H (.str x) (.str x)
 | ty (n:String):Rep G H (.ty n) (.ty n)
 | set {a:Addr} {S:Int -> Bool} {n:Nat}:H a = some (.set S n) -> Rep G H (.ref a) (.set S n)
 | lst {a:Addr} {vs:List V} {xs:List PV}:G a -> H a = some (.lst vs) -> vs.length = xs.length -> (∀ (i:Nat) (v:V) (x:PV),vs[i]? = some v -> xs[i]? = some x -> Rep G H v x) -> Rep G H (.ref a) (.lst xs)
 | tup {a:Addr} {vs:List V} {xs:List PV}:H a = some (.tup vs) -> vs.length = xs.length -> (∀ (i:Nat) (v:V) (x:PV),vs[i]? = some v -> xs[i]? = some x -> Rep G H v x) -> Rep G H (.ref a) (.tup xs)
 | dic {a:Addr} {ks:List cK} {vs:List V} {xs:List PV}:G a -> H a = some (.dK (ks.zip vs)) -> ks.length = vs.length -> vs.length = xs.length -> (∀ (i:Nat) (v:V) (x:PV),vs[i]? = some v -> xs[i]? = some x -> Rep G H v x) -> Rep G H (.ref a) (.dic ks xs)
structure Reps (G:Addr -> Prop) (H:Hp) (vs:List V) (xs:List PV):Prop where
 len:vs.length = xs.length
 at_:∀ (i:Nat) (v:V) (x:PV),vs[i]? = some v -> xs[i]? = some x -> Rep G H v x
inductive Body (G:Addr -> Prop) (H:Hp):HO -> PV -> Prop where
 | lst {vs:List V} {xs:List PV}:Reps G H vs xs -> Body G H (.lst vs) (.lst xs)
 | dic {ks:List cK} {vs:List V} {xs:List PV}:ks.length = vs.length -> Reps G H vs xs -> Body G H (.dK (ks.zip vs)) (.dic ks xs)
section
variable {G G':Addr -> Prop} {H H':Hp} {v:V} {x:PV} {vs us:List V} {xs ys:List PV}
theorem Rep.mono (r:Rep G H v x) (hG:∀ a,G a -> G' a) (hk:∀ a o,(G a \/ o.imm = true) -> H a = some o -> H' a = some o):Rep G' H' v x:=by
 induction r with
 | non=>exact .non
 | bl b=>exact .bl b
 | int i=>exact .int i
 | str x=>exact .str x
 | ty n=>exact .ty n
 | set e=>exact .set (hk _ _ (.inr rfl) e)
 | lst g e l _ ih=>exact .lst (hG _ g) (hk _ _ (.inl g) e) l ih
 | tup e l _ ih=>exact .tup (hk _ _ (.inr rfl) e) l ih
 | dic g e l1 l _ ih=>exact .dic (hG _ g) (hk _ _ (.inl g) e) l1 l ih
theorem Rep.weak (r:Rep G H v x) (hG:∀ a,G a -> G' a):Rep G' H v x:=r.mono hG λ_ _ _ e=>e
theorem Reps.mono (r:Reps G H vs xs) (hG:∀ a,G a -> G' a) (hk:∀ a o,(G a \/ o.imm = true) -> H a = some o -> H' a = some o):Reps G' H' vs xs :=
 ⟨r.len,λi v x e1 e2=>(r.at_ i v x e1 e2).mono hG hk⟩
theorem Reps.weak (r:Reps G H vs xs) (hG:∀ a,G a -> G' a):Reps G' H vs xs:=r.mono hG λ_ _ _ e=>e
theorem Body.mono {o:HO} (r:Body G H o x) (hG:∀ a,G a -> G' a) (hk:∀ a o,(G a \/ o.imm = true) -> H a = some o -> H' a = some o):Body G' H' o x:=by
 cases r with
 | lst h=>exact .lst (h.mono hG hk)
 | dic l h=>exact .dic l (h.mono hG hk)
theorem Body.rep {o:HO} {a:Addr} (b:Body G H o x) (g:G a) (e:H a = some o):Rep G H (.ref a) x:=by
 cases b with
 | lst h=>exact .lst g e h.len h.at_
 | dic l h=>exact .dic g e l h.len h.at_
theorem Rep.flat (r:Rep G H v x) (h:x.flat = true):Rep (λ_=>False) H v x:=by
 induction r with
 | non=>exact .non
 | bl b=>exact .bl b
 | int i=>exact .int i
 | str x=>exact .str x
 | ty n=>exact .ty n
 | set e=>exact .set e
 | lst g e l _ ih=>rw [PV.flat] at h;cases h
 | dic g e l1 l _ ih=>rw [PV.flat] at h;cases h
 | tup e l _ ih =>
  rw [PV.flat] at h
  exact .tup e l λi v x e1 e2=>ih i v x e1 e2 (PV.flats_all h x (a0x e2))
theorem Reps.nil:Reps G H [] []:=⟨rfl,λi v x e=>by simp at e⟩
theorem Reps.cons (h:Rep G H v x) (r:Reps G H vs xs):Reps G H (v :: vs) (x :: xs):=⟨by simp [r.len],λi w y e1 e2=>by
 cases i with
 | zero=>simp at e1 e2;subst e1 e2;exact h
 | succ i=>simp at e1 e2;exact r.at_ i w y e1 e2⟩
theorem Reps.append (r:Reps G H vs xs) (q:Reps G H us ys):Reps G H (vs ++ us) (xs ++ ys):=⟨by simp [r.len,q.len],λi w y e1 e2=>by
 by_cases h:i < vs.length
 ·rw [a1p h] at e1
  rw [a1p (by rw [<- r.len];exact h)] at e2
  exact r.at_ i w y e1 e2
 ·rw [a1n (by omega)] at e1
  rw [a1n (by rw [<- r.len];omega),<- r.len] at e2
  exact q.at_ _ w y e1 e2⟩
theorem Reps.get (r:Reps G H vs xs) {i:Nat} (e:xs[i]? = some x):∃ v,vs[i]? = some v /\ Rep G H v x:=by
 have h:i < vs.length:=by rw [r.len];exact (a0k.mp e).1
 exact ⟨vs[i],a0b h,r.at_ i _ _ (a0b h) e⟩
theorem Reps.getV (r:Reps G H vs xs) {i:Nat} (e:vs[i]? = some v):∃ x,xs[i]? = some x /\ Rep G H v x:=by
 have h:i < xs.length:=by rw [<- r.len];exact (a0k.mp e).1
 exact ⟨xs[i],a0b h,r.at_ i _ _ e (a0b h)⟩
theorem Reps.set (r:Reps G H vs xs) (h:Rep G H v x) (j:Nat):Reps G H (vs.set j v) (xs.set j x):=⟨by simp [r.len],λi w y e1 e2=>by
 rw [a2w] at e1 e2
 by_cases hj:j = i
 ·subst hj
  simp only [a64] at e1 e2
  split at e1
  ·split at e2
   ·cases e1;cases e2;exact h
   ·cases e2
  ·cases e1
 ·rw [if_neg hj] at e1 e2
  exact r.at_ i w y e1 e2⟩
theorem Reps.drop (r:Reps G H vs xs) (n:Nat):Reps G H (vs.drop n) (xs.drop n):=⟨by simp [r.len],λi w y e1 e2=>by
 rw [List.getElem?_drop] at e1 e2;exact r.at_ _ w y e1 e2⟩
theorem Reps.take (r:Reps G H vs xs) (n:Nat):Reps G H (vs.take n) (xs.take n):=⟨by simp [r.len],λi w y e1 e2=>by
 rw [List.getElem?_take] at e1 e2
 split at e1
 ·rename_i h;rw [if_pos h] at e2;exact r.at_ _ w y e1 e2
 ·cases e1⟩
theorem Reps.rep (r:Reps G H vs xs):∀ k:Nat,Reps G H (List.replicate k vs).flatten (List.replicate k xs).flatten
 | 0=>Reps.nil
 | k + 1=>by rw [a3g,a3g,a4e,a4e];exact r.append (Reps.rep r k)
theorem Rep.ofList (r:Rep G H v (.lst xs)):∃ a vs,v = .ref a /\ G a /\ H a = some (.lst vs) /\ Reps G H vs xs:=by
 cases r with
 | lst g e l h=>exact ⟨_,_,rfl,g,e,l,h⟩
theorem Rep.ofTup (r:Rep G H v (.tup xs)):∃ a vs,v = .ref a /\ H a = some (.tup vs) /\ Reps G H vs xs:=by
 cases r with
 | tup e l h=>exact ⟨_,_,rfl,e,l,h⟩
theorem Rep.ofDic {ks:List cK} (r:Rep G H v (.dic ks xs)):∃ a vs,v = .ref a /\ G a /\ H a = some (.dK (ks.zip vs)) /\ ks.length = vs.length /\ Reps G H vs xs:=by
 cases r with
 | dic g e l1 l h=>exact ⟨_,_,rfl,g,e,l1,l,h⟩
theorem Rep.ofInt {i:Int} (r:Rep G H v (.int i)):v = .int i:=by cases r;rfl
theorem Rep.ofBl {b:Bool} (r:Rep G H v (.bl b)):v = .bl b:=by cases r;rfl
theorem Rep.ofStr {z:Str} (r:Rep G H v (.str z)):v = .str z:=by cases r;rfl
theorem Rep.ofNon (r:Rep G H v .non):v = .non:=by cases r;rfl
theorem flats_reps (r:Reps G H vs xs) (h:PV.flats xs = true):Reps (λ_=>False) H vs xs:=⟨r.len,λi v x e1 e2=>(r.at_ i v x e1 e2).flat (PV.flats_all h x (a0x e2))⟩
end
structure Wd where
 K:PySem.W.Frag
 F:Addr -> Prop
 S:Addr -> Prop
 L:Addr -> Prop
structure Wok (W:Wd) (H:Hp):Prop where
 fF:∀ a,W.F a -> ∃ o,H a = some o
 sS:∀ a,W.S a -> a4I H a
 dj:∀ a,W.F a -> ¬ W.S a
structure Go (W:Wd) (H:Hp) (W':Wd) (H':Hp):Prop where
 lF:∀ a,W.F a -> W'.F a
 lS:∀ a,W.S a -> W'.S a
 nF:∀ a,W'.F a -> W.F a \/ H a = none
 nS:∀ a,W'.S a -> W.S a \/ H a = none
 kp:∀ a o,H a = some o -> ¬ W.S a -> H' a = some o
 ok:Wok W' H'
 kk:W'.K = W.K
 kl:W'.L = W.L
section
variable {W W' W1 W2:Wd} {H H' H1 H2 B:Hp} {v:V} {x:PV}
theorem Wok.imm (w:Wok W H) {a:Addr} {o:HO} (e:H a = some o) (i:o.imm = true):¬ W.S a:=λs=>by
 obtain ⟨_,_,_,z,_⟩:=w.sS a s
 rw [e] at z;cases z;cases i
theorem Go.refl (h:Wok W H):Go W H W H:=⟨λ_ h=>h,λ_ h=>h,λ_ h=>.inl h,λ_ h=>.inl h,λ_ _ h _=>h,h,rfl,rfl⟩
theorem Go.free (g:Go W H W' H') {a:Addr} (h:H' a = none):H a = none:=by
 cases e:H a with
 | none=>rfl
 | some o =>
  by_cases s:W.S a
  ·obtain ⟨_,_,_,z,_⟩:=g.ok.sS a (g.lS a s)
   rw [z] at h;cases h
  ·rw [g.kp a o e s] at h;cases h
theorem Go.trans (g:Go W H W1 H1) (k:Go W1 H1 W2 H2):Go W H W2 H2 where
 lF:=λa h=>k.lF a (g.lF a h)
 lS:=λa h=>k.lS a (g.lS a h)
 nF:=λa h=>by
  rcases k.nF a h with z | z
  ·exact g.nF a z
  ·exact .inr (g.free z)
 nS:=λa h=>by
  rcases k.nS a h with z | z
  ·exact g.nS a z
  ·exact .inr (g.free z)
 kp:=λa o e s=>by
  refine k.kp a o (g.kp a o e s) λz=>?_
  rcases g.nS a z with q | q
  ·exact s q
  ·rw [e] at q;cases q
 ok:=k.ok
 kk:=k.kk.trans g.kk
 kl:=k.kl.trans g.kl
theorem Go.nSS (g:Go W H W' H') {a:Addr} {o:HO} (e:H a = some o) (s:¬ W.S a):¬ W'.S a:=λz=>by
 rcases g.nS a z with q | q
 ·exact s q
 ·rw [e] at q;cases q
theorem Go.nFF (g:Go W H W' H') {a:Addr} {o:HO} (e:H a = some o) (s:¬ W.F a):¬ W'.F a:=λz=>by
 rcases g.nF a z with q | q
 ·exact s q
 ·rw [e] at q;cases q
theorem Go.rep (g:Go W H W' H') (w:Wok W H) {G G':Addr -> Prop} (hs:∀ a,G a -> ¬ W.S a) (hG:∀ a,G a -> G' a) (r:Rep G H v x):Rep G' H' v x :=
 r.mono hG λa o h e=>g.kp a o e (h.elim (hs a) (w.imm e))
theorem Go.reps (g:Go W H W' H') (w:Wok W H) {G G':Addr -> Prop} (hs:∀ a,G a -> ¬ W.S a) (hG:∀ a,G a -> G' a) {vs:List V} {xs:List PV} (r:Reps G H vs xs):Reps G' H' vs xs:=⟨r.len,λi _ _ e1 e2=>g.rep w hs hG (r.at_ i _ _ e1 e2)⟩
theorem Go.body (g:Go W H W' H') (w:Wok W H) {G G':Addr -> Prop} (hs:∀ a,G a -> ¬ W.S a) (hG:∀ a,G a -> G' a) {o:HO} (r:Body G H o x):Body G' H' o x :=
 r.mono hG λa o h e=>g.kp a o e (h.elim (hs a) (w.imm e))
theorem Go.bw (g:Go W H W' H') (w:Wok W H) (r:Rep (λa=>¬ W.S a) H v x):Rep (λa=>¬ W'.S a) H' v x:=by
 induction r with
 | non=>exact .non
 | bl b=>exact .bl b
 | int i=>exact .int i
 | str x=>exact .str x
 | ty n=>exact .ty n
 | set e=>exact .set (g.kp _ _ e (w.imm e rfl))
 | lst gg e l _ ih=>exact .lst (g.nSS e gg) (g.kp _ _ e gg) l ih
 | tup e l _ ih=>exact .tup (g.kp _ _ e (w.imm e rfl)) l ih
 | dic gg e l1 l _ ih=>exact .dic (g.nSS e gg) (g.kp _ _ e gg) l1 l ih
end
inductive El where
 | fl | sn | sh
 deriving DecidableEq
def El.G:El -> (Addr -> Prop) -> Hp -> Addr -> Prop
 | .fl,_,_=>λ_=>False
 | .sn,F,B=>λa=>F a /\ B a = none
 | .sh,F,_=>F
def El.le:El -> El -> Bool
 | .fl,_=>true
 | .sn,.fl=>false
 | .sn,_=>true
 | .sh,.sh=>true
 | .sh,_=>false
theorem El.leG {e e':El} (h:e.le e' = true) {F:Addr -> Prop} {B:Hp} {a:Addr} (g:e.G F B a):e'.G F B a:=by
 cases e <;> cases e' <;> first | exact g | exact g.elim | exact g.1 | cases h
theorem El.GF {e:El} {F:Addr -> Prop} {B:Hp} {a:Addr} (g:e.G F B a):F a:=by
 cases e with
 | fl=>exact g.elim
 | sn=>exact g.1
 | sh=>exact g
theorem El.up {e:El} {F F':Addr -> Prop} {B B':Hp} {a:Addr} (hF:∀ a,F a -> F' a) (hB:∀ a,B a = none -> B' a = none) (g:e.G F B a):e.G F' B' a:=by
 cases e with
 | fl=>exact g
 | sn=>exact ⟨hF a g.1,hB a g.2⟩
 | sh=>exact hF a g
inductive Md where
 | no | bw | v (e:El) | o (e:El) | z (e:El) | p (e:El) | c (e:El) | st | scr
 deriving DecidableEq
def Md.lent:Md -> Bool
 | .bw=>true
 | .p _=>true
 | .c _=>true
 | _=>false
def RepP (G S:Addr -> Prop) (H:Hp) (v:V) (x:PV):Prop:=Rep G H v x \/ ∃ a o,v = .ref a /\ ¬ S a /\ H a = some o /\ Body G H o x
def Md.own:Md -> Bool
 | .o _=>true
 | _=>false
def ScrAt (K:PySem.W.Frag) (H:Hp) (a:Addr) (ns:List Int):Prop:=(∃ o,H a = some (.frz o (.lst (ns.map V.int)))) \/
 ∃ (o:Obj) (its:Array Value) (n:Nat),K.lookup a = some o /\ o.cls = .type "list" /\ o.dict = none /\ o.data = .seq its n /\ its.size <= sizeLine /\ bF (ns.map V.int) its.toList
theorem ScrAt.sq {K:PySem.W.Frag} {H:Hp} {a:Addr} {ns:List Int} (h:ScrAt K H a ns):fN K H a (ns.map V.int):=by
 rcases h with h | h
 ·exact .inl (.inr h)
 ·exact .inr h
structure OwnL (e:El) (B H:Hp) (W':Wd) (H':Hp) (a:Addr) (o:HO) (x:PV):Prop where
 new:H a = none
 nF:¬ W'.F a
 nS:¬ W'.S a
 at_:H' a = some o
 its:Body (e.G W'.F B) H' o x
structure FrzL (e:El) (B:Hp) (W':Wd) (H':Hp) (a:Addr) (o:HO) (x:PV):Prop where
 new:B a = none
 F:W'.F a
 at_:H' a = some o
 its:Body (e.G W'.F B) H' o x
def ResE (B H:Hp) (W':Wd) (H':Hp) (m:Md) (v:V) (x:PV):Prop :=
 match m with
 | .no=>True
 | .bw=>Rep (λa=>¬ W'.S a) H' v x
 | .v e=>Rep (e.G W'.F B) H' v x
 | .st=>∃ p,v = .ref p /\ x = .st /\ W'.S p
 | .scr=>∃ a ns,v = .ref a /\ x = .scr ns /\ ScrAt W'.K H' a ns
 | .o e=>∃ a o,v = .ref a /\ OwnL e B H W' H' a o x
 | .z e=>∃ a o,v = .ref a /\ FrzL e B W' H' a o x
 | .p e=>RepP (e.G W'.F B) W'.S H' v x
 | .c e=>∃ a o,v = .ref a /\ W'.L a /\ ¬ W'.S a /\ H' a = some o /\ Body (e.G W'.F B) H' o x
section
variable {W W' W1 W2:Wd} {B H H' H1 H2:Hp} {m n:Md} {e e':El} {v:V} {x:PV}
theorem El.nS (w:Wok W H) {a:Addr} (g:e.G W.F B a):¬ W.S a:=w.dj a (El.GF g)
theorem OwnL.go {a:Addr} {o:HO} (r:OwnL e B H W1 H1 a o x) (w:Wok W1 H1) (g:Go W1 H1 W2 H2):OwnL e B H W2 H2 a o x where
 new:=r.new
 nF:=g.nFF r.at_ r.nF
 nS:=g.nSS r.at_ r.nS
 at_:=g.kp a _ r.at_ r.nS
 its:=g.body w (λ_ h=>El.nS w h) (λ_ h=>El.up g.lF (λ_ z=>z) h) r.its
theorem FrzL.go {a:Addr} {o:HO} (r:FrzL e B W1 H1 a o x) (w:Wok W1 H1) (g:Go W1 H1 W2 H2):FrzL e B W2 H2 a o x where
 new:=r.new
 F:=g.lF a r.F
 at_:=g.kp a _ r.at_ (w.dj a r.F)
 its:=g.body w (λ_ h=>El.nS w h) (λ_ h=>El.up g.lF (λ_ z=>z) h) r.its
theorem ResE.go (r:ResE B H W1 H1 m v x) (w:Wok W1 H1) (g:Go W1 H1 W2 H2):ResE B H W2 H2 m v x:=by
 cases m with
 | no=>trivial
 | bw=>exact g.bw w r
 | v e=>exact g.rep w (λ_ h=>El.nS w h) (λ_ h=>El.up g.lF (λ_ z=>z) h) r
 | st=>obtain ⟨p,e1,e2,s⟩:=r;exact ⟨p,e1,e2,g.lS p s⟩
 | scr =>
  obtain ⟨a,ns,e1,e2,s⟩:=r
  refine ⟨a,ns,e1,e2,?_⟩
  rcases s with ⟨o,s⟩ | s
  ·exact .inl ⟨o,g.kp a _ s λz=>by obtain ⟨_,_,_,q,_⟩:=w.sS a z;rw [s] at q;cases q⟩
  ·exact .inr (by rw [g.kk];exact s)
 | o e=>obtain ⟨a,ho,e1,q⟩:=r;exact ⟨a,ho,e1,q.go w g⟩
 | z e=>obtain ⟨a,ho,e1,q⟩:=r;exact ⟨a,ho,e1,q.go w g⟩
 | p e =>
  rcases r with r | ⟨a,ho,e1,s,h,b⟩
  ·exact .inl (g.rep w (λ_ h=>El.nS w h) (λ_ h=>El.up g.lF (λ_ z=>z) h) r)
  ·exact .inr ⟨a,ho,e1,g.nSS h s,g.kp a _ h s,g.body w (λ_ h=>El.nS w h) (λ_ h=>El.up g.lF (λ_ z=>z) h) b⟩
 | c e =>
  obtain ⟨a,ho,e1,l,s,h,b⟩:=r
  exact ⟨a,ho,e1,by rw [g.kl];exact l,g.nSS h s,g.kp a _ h s,g.body w (λ_ h=>El.nS w h) (λ_ h=>El.up g.lF (λ_ z=>z) h) b⟩
theorem ResE.base (g:Go W H W1 H1) (r:ResE B H1 W2 H2 m v x):ResE B H W2 H2 m v x:=by
 cases m with
 | o e=>obtain ⟨a,ho,e1,o⟩:=r;exact ⟨a,ho,e1,g.free o.new,o.nF,o.nS,o.at_,o.its⟩
 | _=>exact r
def Md.len:Md -> Bool
 | .no=>false
 | .st=>false
 | .scr=>false
 | _=>true
theorem Body.lend {G:Addr -> Prop} {o:HO} {a:Addr} (b:Body G H o x) (w:Wok W H) (hG:∀ a,G a -> W.F a) (nS:¬ W.S a) (e:H a = some o):Rep (λa=>¬ W.S a) H (.ref a) x :=
 (b.mono (G':=λa=>¬ W.S a) (λc hc=>w.dj c (hG c hc)) λ_ _ _ e=>e).rep nS e
theorem ResE.lend (r:ResE B H W1 H1 m v x) (w:Wok W1 H1) (hm:m.len = true):Rep (λa=>¬ W1.S a) H1 v x:=by
 cases m with
 | no=>cases hm
 | bw=>exact r
 | v e=>exact Rep.weak r λ_ h=>El.nS w h
 | st=>cases hm
 | scr=>cases hm
 | o e=>obtain ⟨a,ho,rfl,o⟩:=r;exact o.its.lend w (λ_ h=>El.GF h) o.nS o.at_
 | z e=>obtain ⟨a,ho,rfl,o⟩:=r;exact o.its.lend w (λ_ h=>El.GF h) (w.dj a o.F) o.at_
 | p e =>
  rcases r with r | ⟨a,ho,rfl,s,h,b⟩
  ·exact Rep.weak r λ_ h=>El.nS w h
  ·exact b.lend w (λ_ h=>El.GF h) s h
 | c e =>
  obtain ⟨a,ho,rfl,l,s,h,b⟩:=r
  exact b.lend w (λ_ h=>El.GF h) s h
def Md.le:Md -> Md -> Bool
 | .v e,.v e'=>e.le e'
 | .o e,.o e'=>e.le e'
 | .z e,.z e'=>e.le e'
 | .z e,.v .sn=>e.le .sn
 | .z _,.v .sh=>true
 | .v e,.p e'=>e.le e'
 | .o e,.p e'=>e.le e'
 | .z e,.p e'=>e.le e'
 | .p e,.p e'=>e.le e'
 | .c e,.p e'=>e.le e'
 | m,.bw=>m.len
 | _,.no=>true
 | m,n=>decide (m = n)
theorem ResE.le (r:ResE B H W' H' m v x) (w:Wok W' H') (h:m.le n = true):ResE B H W' H' n v x:=by
 cases n with
 | no=>trivial
 | bw=>exact r.lend w (by cases m <;> first | exact h | rfl)
 | v e' =>
  cases m with
  | v e=>exact Rep.weak r λ_ g=>El.leG h g
  | z e =>
   obtain ⟨a,ho,rfl,o⟩:=r
   cases e' with
   | fl=>cases h
   | sn=>exact (o.its.mono (G':=El.sn.G W'.F B) (λ_ g=>El.leG (show e.le .sn = true from h) g) λ_ _ _ e=>e).rep ⟨o.F,o.new⟩ o.at_
   | sh=>exact (o.its.mono (G':=El.sh.G W'.F B) (λ_ g=>El.GF g) λ_ _ _ e=>e).rep o.F o.at_
  | _=>cases h
 | o e' =>
  cases m with
  | o e=>obtain ⟨a,ho,rfl,o⟩:=r;exact ⟨a,ho,rfl,o.new,o.nF,o.nS,o.at_,o.its.mono (λ_ g=>El.leG h g) λ_ _ _ e=>e⟩
  | _=>cases h
 | z e' =>
  cases m with
  | z e=>obtain ⟨a,ho,rfl,o⟩:=r;exact ⟨a,ho,rfl,o.new,o.F,o.at_,o.its.mono (λ_ g=>El.leG h g) λ_ _ _ e=>e⟩
  | _=>cases h
 | p e' =>
  cases m with
  | v e=>exact .inl (Rep.weak r λ_ g=>El.leG h g)
  | o e=>obtain ⟨a,ho,rfl,q⟩:=r;exact .inr ⟨a,ho,rfl,q.nS,q.at_,q.its.mono (λ_ g=>El.leG h g) λ_ _ _ e=>e⟩
  | z e=>obtain ⟨a,ho,rfl,q⟩:=r;exact .inr ⟨a,ho,rfl,w.dj a q.F,q.at_,q.its.mono (λ_ g=>El.leG h g) λ_ _ _ e=>e⟩
  | p e =>
   rcases r with r | ⟨a,ho,rfl,s,hh,b⟩
   ·exact .inl (Rep.weak r λ_ g=>El.leG h g)
   ·exact .inr ⟨a,ho,rfl,s,hh,b.mono (λ_ g=>El.leG h g) λ_ _ _ e=>e⟩
  | c e =>
   obtain ⟨a,ho,rfl,l,s,hh,b⟩:=r
   exact .inr ⟨a,ho,rfl,s,hh,b.mono (λ_ g=>El.leG h g) λ_ _ _ e=>e⟩
  | _=>cases h
 | st=>cases m <;> first | exact r | cases h
 | scr=>cases m <;> first | exact r | cases h
 | c=>cases m <;> first | exact r | cases h | (simp [Md.le] at h;subst h;exact r)
end
abbrev bY:=List (Option PV)
def m4 (md:List Md):Bool:=md.all (λm=>!m.lent) || md.all (λm=>!m.own)
theorem jL {md:List Md} (h:m4 md = true) {i j:Nat} (hi:(md.getD i .no).own = true):(md.getD j .no).lent = false:=by
 refine Bool.eq_false_iff.mpr ?_
 intro hj
 unfold m4 at h
 rw [a3n,a1k,a1k] at h
 rw [a0g] at hi hj
 cases e1:md[i]? with
 | none=>rw [e1] at hi;cases hi
 | some a =>
  cases e2:md[j]? with
  | none=>rw [e2] at hj;cases hj
  | some b =>
   rw [e1] at hi;rw [e2] at hj
   rcases h with h | h
   ·have:=h b (a0x e2)
    simp at this hj;rw [hj] at this;cases this
   ·have:=h a (a0x e1)
    simp at this hi;rw [hi] at this;cases this
structure Rl (K:PySem.W.Frag) (md:List Md) (W0:Wd) (H0:Hp) (W:Wd) (σ:St) (env:bY) (H:Hp):Prop where
 ok0:Wok W0 H0
 go:Go W0 H0 W H
 len:σ.length = env.length
 slot:∀ (i:Nat) (x:PV),env[i]? = some (some x) -> ∃ v,σ[i]? = some (some v) /\ ResE H0 H0 W H (md.getD i .no) v x
 sep:∀ (i j:Nat) (x y:PV) (a:Addr),i ≠ j -> (md.getD i .no).own = true -> (md.getD j .no).own = true -> env[i]? = some (some x) -> env[j]? = some (some y) -> σ[i]? = some (some (.ref a)) -> σ[j]? = some (some (.ref a)) -> False
 bws:m4 md = true
 kk:W.K = K
section
variable {K:PySem.W.Frag} {md md':List Md} {W0 W W' W1:Wd} {H0 H H' H1:Hp} {σ:St} {env:bY} {m:Md} {e:El} {v:V} {x:PV} {i:Nat}
theorem Rl.ok (R:Rl K md W0 H0 W σ env H):Wok W H:=R.go.ok
theorem Rl.step (R:Rl K md W0 H0 W σ env H) (g:Go W H W' H'):Rl K md W0 H0 W' σ env H' :=
 ⟨R.ok0,R.go.trans g,R.len,λi x e=>by
  obtain ⟨v,h1,h2⟩:=R.slot i x e
  exact ⟨v,h1,h2.go R.ok g⟩,R.sep,R.bws,g.kk.trans R.kk⟩
theorem eW {md:List Md} {m:Md} {i j:Nat}:(md.set i m).getD j .no = if i = j /\ j < md.length then m else md.getD j .no:=by
 rw [a0g,a2w,a0g]
 by_cases h:i = j
 ·subst h
  by_cases h2:i < md.length
  ·simp [h2]
  ·simp [h2]
 ·simp [h]
theorem Md.ofOwn (h:m.own = true):∃ e,m = .o e:=by
 cases m with
 | o e=>exact ⟨e,rfl⟩
 | _=>cases h
theorem Rl.set (R:Rl K md W0 H0 W1 σ env H1) (g:Go W1 H1 W H) (r:ResE H0 H1 W H m v x) (hm:m4 (md.set i m) = true) (hi:i < md.length):Rl K (md.set i m) W0 H0 W (σ.set i (some v)) (env.set i (some x)) H:=by
 have R':=R.step g
 refine ⟨R.ok0,R'.go,by simp [R.len],λj y e=>?_,λj k y z a hjk oj ok ej ek sj sk=>?_,hm,R'.kk⟩
 ·rw [a2w] at e
  by_cases h:i = j
  ·subst h
   rw [if_pos rfl] at e
   split at e
   ·rename_i hl
    cases e
    refine ⟨v,by rw [a2w,if_pos rfl,if_pos (by rw [R.len];exact hl)],?_⟩
    rw [eW,if_pos ⟨rfl,hi⟩]
    exact ResE.base R.go r
   ·cases e
  ·rw [if_neg h] at e
   obtain ⟨w,h1,h2⟩:=R'.slot j y e
   refine ⟨w,by rw [a2w,if_neg h];exact h1,?_⟩
   rw [eW,if_neg (λz=>h z.1)]
   exact h2
 ·rw [eW] at oj ok
  rw [a2w] at ej ek sj sk
  have key:∀ (l:Nat) (b:Addr),m.own = true -> v = .ref b -> (md.getD l .no).own = true -> (∃ y,env[l]? = some (some y)) -> σ[l]? = some (some (.ref b)) -> False:=by
   intro l b om hv ol ⟨y,el⟩ sl
   obtain ⟨e,rfl⟩:=Md.ofOwn om
   obtain ⟨a',ho,q1,o⟩:=r
   rw [hv] at q1;cases q1
   have nb:=o.new
   obtain ⟨w,q1,q2⟩:=R.slot l y el
   rw [sl] at q1;cases q1
   obtain ⟨e2,hmd⟩:=Md.ofOwn ol
   rw [hmd] at q2;obtain ⟨a',ho2,z1,o2⟩:=q2;cases z1;rw [o2.at_] at nb;cases nb
  by_cases hj:i = j
  ·subst hj
   rw [if_pos ⟨rfl,hi⟩] at oj
   rw [if_neg (λz=>hjk z.1)] at ok
   rw [if_neg hjk] at ek sk
   rw [if_pos rfl] at sj
   split at sj
   ·cases sj;exact key k a oj rfl ok ⟨z,ek⟩ sk
   ·cases sj
  ·rw [if_neg (λz=>hj z.1)] at oj
   rw [if_neg hj] at ej sj
   by_cases hk:i = k
   ·subst hk
    rw [if_pos ⟨rfl,hi⟩] at ok
    rw [if_pos rfl] at sk
    split at sk
    ·cases sk;exact key j a ok rfl oj ⟨y,ej⟩ sj
    ·cases sk
   ·rw [if_neg (λz=>hk z.1)] at ok
    rw [if_neg hk] at ek sk
    exact R.sep j k y z a hjk oj ok ej ek sj sk
theorem Rl.le (R:Rl K md W0 H0 W σ env H) (hl:∀ i,(md.getD i .no).le (md'.getD i .no) = true) (ho:∀ i,(md'.getD i .no).own = true -> (md.getD i .no).own = true) (hk:m4 md' = true):Rl K md' W0 H0 W σ env H :=
 ⟨R.ok0,R.go,R.len,λi x e=>by
  obtain ⟨v,h1,h2⟩:=R.slot i x e
  exact ⟨v,h1,h2.le R.ok (hl i)⟩,λi j x y a hij oi oj=>R.sep i j x y a hij (ho i oi) (ho j oj),hk,R.kk⟩
theorem sW {Hs:Hp} {a:Addr} {o:HO} (w:Wok W H) (q:OwnL e H0 Hs W H a o x) (hb:H0 a = none):Wok { W with F:=λb=>W.F b \/ b = a } H /\ FrzL e H0 { W with F:=λb=>W.F b \/ b = a } H a o x:=by
 refine ⟨⟨λb hb=>?_,w.sS,λb hb=>?_⟩,hb,.inr rfl,q.at_,?_⟩
 ·rcases hb with hb | rfl
  ·exact w.fF b hb
  ·exact ⟨_,q.at_⟩
 ·rcases hb with hb | rfl
  ·exact w.dj b hb
  ·exact q.nS
 ·exact q.its.mono (λ_ g=>El.up (λ_ h=>.inl h) (λ_ z=>z) g) λ_ _ _ e=>e
theorem Go.freeze (g0:Go W0 H0 W H) (g:Go W H W' H') (r:ResE H0 H W' H' (.o e) v x):∃ W2,Go W H W2 H' /\ ResE H0 H W2 H' (.z e) v x:=by
 obtain ⟨a,o,rfl,q⟩:=r
 obtain ⟨w,r'⟩:=sW g.ok q (g0.free q.new)
 refine ⟨{ W' with F:=λb=>W'.F b \/ b = a },⟨λb hb=>.inl (g.lF b hb),g.lS,λb hb=>?_,g.nS,g.kp,w,g.kk,g.kl⟩,a,o,rfl,r'⟩
 rcases hb with hb | rfl
 ·exact g.nF b hb
 ·exact .inr q.new
theorem Rl.freeze (R:Rl K md W0 H0 W σ env H) (hm:md.getD i .no = .o e):∃ W2,Rl K (md.set i (.z e)) W0 H0 W2 σ env H:=by
 have hil:i < md.length:=by
  refine a5w λh=>?_
  rw [a0g,a2a h] at hm
  cases hm
 have own1:∀ j,((md.set i (.z e)).getD j .no).own = true -> (md.getD j .no).own = true /\ i ≠ j:=λj h=>by
  rw [eW] at h
  split at h
  ·cases h
  ·rename_i q
   refine ⟨h,λz=>?_⟩
   subst z
   exact q ⟨rfl,hil⟩
 have hok:m4 (md.set i (.z e)) = true:=by
  have h:=R.bws
  unfold m4 at h ⊢
  rw [a3n,a1k,a1k] at h ⊢
  rcases h with h | h
  ·refine .inl λm hm=>?_
   rcases List.mem_or_eq_of_mem_set hm with z | z
   ·exact h m z
   ·subst z;rfl
  ·refine .inr λm hm=>?_
   rcases List.mem_or_eq_of_mem_set hm with z | z
   ·exact h m z
   ·subst z;rfl
 cases ev:env[i]? with
 | none =>
  refine ⟨W,⟨R.ok0,R.go,R.len,λj y ej=>?_,λj k y z a hjk oj ok ej ek sj sk=>R.sep j k y z a hjk (own1 j oj).1 (own1 k ok).1 ej ek sj sk,hok,R.kk⟩⟩
  have hij:¬ i = j:=λz=>by subst z;rw [ev] at ej;cases ej
  rw [eW,if_neg (λz=>hij z.1)]
  exact R.slot j y ej
 | some ox =>
  cases ox with
  | none =>
   refine ⟨W,⟨R.ok0,R.go,R.len,λj y ej=>?_,λj k y z a hjk oj ok ej ek sj sk=>R.sep j k y z a hjk (own1 j oj).1 (own1 k ok).1 ej ek sj sk,hok,R.kk⟩⟩
   have hij:¬ i = j:=λz=>by subst z;rw [ev] at ej;cases ej
   rw [eW,if_neg (λz=>hij z.1)]
   exact R.slot j y ej
  | some x =>
   obtain ⟨v,sv,r⟩:=R.slot i x ev
   rw [hm] at r
   obtain ⟨a,o,e1,q⟩:=r
   subst e1
   obtain ⟨w,r'⟩:=sW R.ok q q.new
   refine ⟨{ W with F:=λb=>W.F b \/ b = a },⟨R.ok0,⟨λb hb=>.inl (R.go.lF b hb),R.go.lS,λb hb=>?_,R.go.nS,R.go.kp,w,R.go.kk,R.go.kl⟩,R.len,λj y ej=>?_,λj k y z a hjk oj ok ej ek sj sk=>R.sep j k y z a hjk (own1 j oj).1 (own1 k ok).1 ej ek sj sk,hok,R.kk⟩⟩
   ·rcases hb with hb | rfl
    ·exact R.go.nF b hb
    ·exact .inr q.new
   ·by_cases hij:i = j
    ·subst hij
     rw [ev] at ej;cases ej
     refine ⟨_,sv,?_⟩
     rw [eW,if_pos ⟨rfl,hil⟩]
     exact ⟨a,o,rfl,r'⟩
    ·obtain ⟨u,su,ru⟩:=R.slot j y ej
     refine ⟨u,su,?_⟩
     rw [eW,if_neg (λz=>hij z.1)]
     cases hmd:md.getD j .no with
     | no=>trivial
     | bw=>have:=jL R.bws (i:=i) (j:=j) (by rw [hm];rfl);rw [hmd] at this;cases this
     | p e'=>have:=jL R.bws (i:=i) (j:=j) (by rw [hm];rfl);rw [hmd] at this;cases this
     | c e'=>have:=jL R.bws (i:=i) (j:=j) (by rw [hm];rfl);rw [hmd] at this;cases this
     | v e'=>rw [hmd] at ru;exact Rep.weak ru λ_ g=>El.up (λ_ h=>.inl h) (λ_ z=>z) g
     | st=>rw [hmd] at ru;exact ru
     | scr=>rw [hmd] at ru;exact ru
     | o e' =>
      rw [hmd] at ru
      obtain ⟨b,ob,z1,qb⟩:=ru
      refine ⟨b,ob,z1,qb.new,λz=>?_,qb.nS,qb.at_,qb.its.mono (λ_ g=>El.up (λ_ h=>.inl h) (λ_ z=>z) g) λ_ _ _ e=>e⟩
      rcases z with z | z
      ·exact qb.nF z
      ·subst z z1
       exact R.sep i j _ _ _ hij (by rw [hm];rfl) (by rw [hmd];rfl) ev ej sv su
     | z e' =>
      rw [hmd] at ru
      obtain ⟨b,ob,z1,qb⟩:=ru
      exact ⟨b,ob,z1,qb.new,.inl qb.F,qb.at_,qb.its.mono (λ_ g=>El.up (λ_ h=>.inl h) (λ_ z=>z) g) λ_ _ _ e=>e⟩
theorem Rl.ownAt (R:Rl K md W0 H0 W σ env H) (hm:md.getD i .no = .o e) (ev:env[i]? = some (some x)):∃ a o,σ[i]? = some (some (.ref a)) /\ OwnL e H0 H0 W H a o x:=by
 obtain ⟨v,sv,r⟩:=R.slot i x ev
 rw [hm] at r
 obtain ⟨a,o,e1,q⟩:=r
 subst e1
 exact ⟨a,o,sv,q⟩
theorem Rl.put (R:Rl K md W0 H0 W σ env H) (hm:md.getD i .no = .o e) {x':PV} {o':HO} {a:Addr} (ev:env[i]? = some (some x)) (sa:σ[i]? = some (some (.ref a))) (r:Body (e.G W.F H0) H o' x') (hni:o'.imm = false) :
  Rl K md W0 H0 W σ (env.set i (some x')) (c7 H a o'):=by
 obtain ⟨a',o,sv,q⟩:=R.ownAt hm ev
 rw [sa] at sv;cases sv
 have nim:o.imm = false:=by
  have:=q.its
  cases this <;> rfl
 have ni:∀ b u,H b = some u -> u.imm = true -> b ≠ a:=λb u e hi z=>by subst z;rw [q.at_] at e;cases e;rw [nim] at hi;cases hi
 have nf:∀ b,W.F b -> b ≠ a:=λb f z=>by subst z;exact q.nF f
 have keep:∀ {G:Addr -> Prop} {u:V} {y:PV},(∀ a,G a -> W.F a) -> Rep G H u y -> Rep G (c7 H a o') u y:=λhG r=>r.mono (λ_ h=>h) λb u h e=>by
  rw [aG (h.elim (λg=>nf b (hG b g)) (ni b u e))];exact e
 have keepB:∀ {G:Addr -> Prop} {u:HO} {y:PV},(∀ a,G a -> W.F a) -> Body G H u y -> Body G (c7 H a o') u y:=λhG r=>r.mono (λ_ h=>h) λb u h e=>by
  rw [aG (h.elim (λg=>nf b (hG b g)) (ni b u e))];exact e
 have w:Wok W (c7 H a o'):=⟨λb hb=>by rw [aG (nf b hb)];exact R.ok.fF b hb,λb hb=>by
  have nb:b ≠ a:=λz=>by subst z;exact q.nS hb
  obtain ⟨x1,x2,x3,e1,e2⟩:=R.ok.sS b hb
  exact ⟨x1,x2,x3,by rw [aG nb];exact e1,e2⟩,R.ok.dj⟩
 refine ⟨R.ok0,⟨R.go.lF,R.go.lS,R.go.nF,R.go.nS,λb u eb sb=>?_,w,R.go.kk,R.go.kl⟩,by simp [R.len],λj y ej=>?_,λj k y z b hjk oj ok ej ek sj sk=>?_,R.bws,R.kk⟩
 ·have nb:b ≠ a:=λz=>by subst z;rw [q.new] at eb;cases eb
  rw [aG nb];exact R.go.kp b u eb sb
 ·rw [a2w] at ej
  by_cases hij:i = j
  ·subst hij
   rw [if_pos rfl] at ej
   split at ej
   ·cases ej
    refine ⟨_,sa,?_⟩
    rw [hm]
    exact ⟨a,o',rfl,q.new,q.nF,q.nS,bK,keepB (λ_ g=>El.GF g) r⟩
   ·cases ej
  ·rw [if_neg hij] at ej
   obtain ⟨u,su,ru⟩:=R.slot j y ej
   refine ⟨u,su,?_⟩
   cases hmd:md.getD j .no with
   | no=>trivial
   | bw=>have:=jL R.bws (i:=i) (j:=j) (by rw [hm];rfl);rw [hmd] at this;cases this
   | p e'=>have:=jL R.bws (i:=i) (j:=j) (by rw [hm];rfl);rw [hmd] at this;cases this
   | c e'=>have:=jL R.bws (i:=i) (j:=j) (by rw [hm];rfl);rw [hmd] at this;cases this
   | v e'=>rw [hmd] at ru;exact keep (λ_ g=>El.GF g) ru
   | st=>rw [hmd] at ru;exact ru
   | scr =>
    rw [hmd] at ru
    obtain ⟨b,ns,e1,e2,z⟩:=ru
    refine ⟨b,ns,e1,e2,?_⟩
    rcases z with ⟨oo,z⟩ | z
    ·refine .inl ⟨oo,?_⟩
     rw [aG (λy=>?_)];exact z
     subst y
     have b1:=q.its
     have h2:=q.at_
     rw [z] at h2
     cases h2
     cases b1
    ·exact .inr z
   | o e' =>
    rw [hmd] at ru;obtain ⟨b,ob,z1,qb⟩:=ru
    have nb:b ≠ a:=λz=>by subst z;subst z1;exact R.sep i j _ _ _ hij (by rw [hm];rfl) (by rw [hmd];rfl) ev ej sa su
    exact ⟨b,ob,z1,qb.new,qb.nF,qb.nS,by rw [aG nb];exact qb.at_,keepB (λ_ g=>El.GF g) qb.its⟩
   | z e' =>
    rw [hmd] at ru;obtain ⟨b,ob,z1,qb⟩:=ru
    exact ⟨b,ob,z1,qb.new,qb.F,by rw [aG (nf b qb.F)];exact qb.at_,keepB (λ_ g=>El.GF g) qb.its⟩
 ·have en:∀ (l:Nat) (p:PV),(env.set i (some x'))[l]? = some (some p) -> ∃ p',env[l]? = some (some p'):=by
   intro l p el
   rw [a2w] at el
   by_cases hil:i = l
   ·subst hil;exact ⟨_,ev⟩
   ·rw [if_neg hil] at el;exact ⟨p,el⟩
  obtain ⟨y',ey⟩:=en j y ej
  obtain ⟨z',ez⟩:=en k z ek
  exact R.sep j k y' z' b hjk oj ok ey ez sj sk
end
mutual
def PV.norm:PV -> PV
 | .bl b=>.int (if b then 1 else 0)
 | .lst xs=>.lst (PV.norms xs)
 | .tup xs=>.tup (PV.norms xs)
 | .non=>.non
 | .int i=>.int i
 | .str x=>.str x
 | .ty n=>.ty n
 | .st=>.st
 | .scr n=>.scr n
 | .set S n=>.set S n
 | .dic k x=>.dic k x
def PV.norms:List PV -> List PV
 | []=>[]
 | x :: xs=>x.norm :: PV.norms xs
end
mutual
def PV.dep:PV -> Nat
 | .lst xs=>PV.deps xs + 1
 | .tup xs=>PV.deps xs + 1
 | .ty _=>1000
 | .st=>1000
 | .scr _=>1000
 | .set _ _=>1000
 | .dic _ _=>1000
 | .non=>0
 | .bl _=>0
 | .int _=>0
 | .str _=>0
def PV.deps:List PV -> Nat
 | []=>0
 | x :: xs=>max x.dep (PV.deps xs)
end
theorem PV.norms_map:∀ {xs:List PV},PV.norms xs = xs.map PV.norm
 | []=>by rw [PV.norms];rfl
 | x :: xs=>by rw [PV.norms,PV.norms_map];rfl
theorem PV.deps_le:∀ {xs:List PV} {x:PV},x ∈ xs -> x.dep <= PV.deps xs
 | y :: xs,x,h=>by
  rw [PV.deps]
  rcases a0q.mp h with rfl | h
  ·exact Nat.le_max_left _ _
  ·exact a1b (PV.deps_le h) (Nat.le_max_right _ _)
theorem PV.deps_of {n:Nat}:∀ {xs:List PV},(∀ x ∈ xs,x.dep <= n) -> PV.deps xs <= n
 | [],_=>by rw [PV.deps];exact a2u _
 | x :: xs,h=>by rw [PV.deps];exact Nat.max_le.mpr ⟨h x a0n,PV.deps_of λy hy=>h y (a0i _ hy)⟩
theorem ext_rep {P:V -> PV -> PV -> Prop} {vs:List V} {xs ys:List PV} (l:vs.length = xs.length) (l':vs.length = ys.length) (h:∀ (i:Nat) (v:V) (x y:PV),vs[i]? = some v -> xs[i]? = some x -> ys[i]? = some y -> x = y):xs = ys:=by
 refine a3s (by omega) λi h1 h2=>?_
 exact h i vs[i] _ _ (a0b (by omega)) (a0b h1) (a0b h2)
theorem Rep.inj {G G':Addr -> Prop} {H:Hp} {v:V} {x:PV} (r:Rep G H v x):∀ {y:PV},Rep G' H v y -> x = y:=by
 induction r with
 | non=>intro y q;cases q;rfl
 | bl b=>intro y q;cases q;rfl
 | int i=>intro y q;cases q;rfl
 | str x=>intro y q;cases q;rfl
 | ty n=>intro y q;cases q;rfl
 | set e =>
  intro y q
  cases q with
  | set e'=>rw [e] at e';cases e';rfl
  | lst g' e' l' h'=>rw [e] at e';cases e'
  | tup e' l' h'=>rw [e] at e';cases e'
  | dic g' e' l1 l' h'=>rw [e] at e';cases e'
 | lst g e l _ ih =>
  intro y q
  cases q with
  | lst g' e' l' h' =>
   rw [e] at e';cases e'
   rw [ext_rep (P:=λ_ _ _=>True) l l' λi v x y e1 e2 e3=>ih i v x e1 e2 (h' i v y e1 e3)]
  | tup e' l' h'=>rw [e] at e';cases e'
  | set e'=>rw [e] at e';cases e'
  | dic g' e' l1 l' h'=>rw [e] at e';cases e'
 | tup e l _ ih =>
  intro y q
  cases q with
  | lst g' e' l' h'=>rw [e] at e';cases e'
  | set e'=>rw [e] at e';cases e'
  | dic g' e' l1 l' h'=>rw [e] at e';cases e'
  | tup e' l' h' =>
   rw [e] at e';cases e'
   rw [ext_rep (P:=λ_ _ _=>True) l l' λi v x y e1 e2 e3=>ih i v x e1 e2 (h' i v y e1 e3)]
 | @dic a ks vs xs g e l1 l _ ih =>
  intro y q
  cases q with
  | lst g' e' l' h'=>rw [e] at e';cases e'
  | set e'=>rw [e] at e';cases e'
  | tup e' l' h'=>rw [e] at e';cases e'
  | @dic _ ks2 vs2 xs2 g' e' l1' l' h' =>
   rw [e] at e'
   have e2:ks.zip vs = ks2.zip vs2:=by injection e' with e';injection e'
   have hk:ks = ks2:=by
    have:=congrArg (List.map Prod.fst) e2
    rwa [List.map_fst_zip (by omega),List.map_fst_zip (by omega)] at this
   have hv:vs = vs2:=by
    have:=congrArg (List.map Prod.snd) e2
    rwa [List.map_snd_zip (by omega),List.map_snd_zip (by omega)] at this
   subst hk hv
   rw [ext_rep (P:=λ_ _ _=>True) l l' λi v x y e1 e2 e3=>ih i v x e1 e2 (h' i v y e1 e3)]
open Classical in
noncomputable def PV.eqB (x y:PV):Bool:=decide (x.norm = y.norm)
open Classical in
theorem eqB_of {x y:PV} {b:Bool} (h:b = true ↔ x.norm = y.norm):x.eqB y = b:=by
 unfold PV.eqB
 cases b with
 | true=>exact a2m (h.mp rfl)
 | false=>exact a1f λz=>by have:=h.mpr z;cases this
theorem eqB_self (x:PV):x.eqB x = true:=eqB_of (by simp)
open Classical in
theorem eqB_iff {x y:PV}:x.eqB y = true ↔ x.norm = y.norm:=by unfold PV.eqB;exact a3x
section
variable {X:Cx} {pins:List (Addr × Obj)} {σ:St} {H:Hp} {s:Shared}
theorem eqB_ii (i j:Int):(PV.int i).eqB (.int j) = (i == j):=eqB_of (by rw [a4i,PV.norm,PV.norm];exact ⟨λh=>by rw [h],λh=>by injection h⟩)
theorem eqB_ss (i j:Str):(PV.str i).eqB (.str j) = (i == j):=eqB_of (by rw [a4i,PV.norm,PV.norm];exact ⟨λh=>by rw [h],λh=>by injection h⟩)
theorem eqB_bb (i j:Bool):(PV.bl i).eqB (.bl j) = (i == j):=eqB_of (by rw [PV.norm,PV.norm];cases i <;> cases j <;> simp)
theorem eqB_bi (i:Bool) (j:Int):(PV.bl i).eqB (.int j) = ((if i then 1 else 0) == j):=eqB_of (by rw [a4i,PV.norm,PV.norm];exact ⟨λh=>by rw [h],λh=>by injection h⟩)
theorem eqB_ib (i:Int) (j:Bool):(PV.int i).eqB (.bl j) = (i == (if j then 1 else 0)):=eqB_of (by rw [a4i,PV.norm,PV.norm];exact ⟨λh=>by rw [h],λh=>by injection h⟩)
theorem eqB_ne {x y:PV} (h:x.norm ≠ y.norm):x.eqB y = false:=eqB_of (Iff.intro (λz=>Bool.noConfusion z) (λz=>absurd z h))
theorem eqB_lists {xs ys:List PV} {n:Nat} (h1:xs.length = n) (h2:ys.length = n):(PV.lst xs).eqB (.lst ys) = (List.range n).all λj=>(xs.getD j .non).eqB (ys.getD j .non):=by
 refine eqB_of ?_
 rw [PV.norm,PV.norm,PV.norms_map,PV.norms_map,a1k]
 constructor
 ·intro h
  congr 1
  refine a3s (by simp [h1,h2]) λi a b=>?_
  have hi:i < n:=by simpa [h1] using a
  have:=eqB_iff.mp (h i (a1l.mpr hi))
  rw [a0g,a0g,a0b (by omega),a0b (by omega)] at this
  simpa using this
 ·intro h j hj
  injection h with h
  have hj:=a1l.mp hj
  refine eqB_iff.mpr ?_
  rw [a0g,a0g,a0b (by omega),a0b (by omega)]
  have e:=congrArg (λl=>l[j]?) h
  simp only [a0h] at e
  rw [a0b (by omega),a0b (by omega)] at e
  simpa using e
theorem eqB_tup_lst {xs ys:List PV}:(PV.tup xs).eqB (.tup ys) = (PV.lst xs).eqB (.lst ys):=by
 refine eqB_of ?_
 rw [eqB_iff,PV.norm,PV.norm,PV.norm,PV.norm]
 exact ⟨λh=>by injection h with h;rw [h],λh=>by injection h with h;rw [h]⟩
theorem eqB_len {xs ys:List PV} (h:xs.length ≠ ys.length):(PV.lst xs).eqB (.lst ys) = false:=eqB_ne (by
 rw [PV.norm,PV.norm,PV.norms_map,PV.norms_map]
 intro z;injection z with z
 have:=congrArg List.length z
 simp at this;exact h this)
theorem Inv.listR {a:Addr} {vs:List V} (I:Inv X pins σ H s) (h:H a = some (.lst vs)):∃ its:List Value,bF vs its /\ s.heap.IsList a its.toArray /\ vs.length <= sizeLine:=by
 obtain ⟨its,v,⟨o,n,g,c,d,e⟩,l⟩:=I.list (a:=a) (xs:=vs) (fN.of h)
 exact ⟨its,v,⟨o,g,c,n,e⟩,l⟩
theorem toArr_get {its:List Value} {j:Nat} {u:Value} (e:its[j]? = some u) (h:j < its.toArray.size):its.toArray[j] = u:=by
 have:=(a0k.mp e).2
 simpa using this
theorem eqAt_rep (I:Inv X pins σ H s):∀ (n:Nat),n < 900 -> ∀ {A:Around} {G G':Addr -> Prop} {x y:V} {u v:Value} {px py:PV},Rep G H x px -> Rep G' H y py -> bR x u -> bR y v -> px.dep <= n -> A.units + n < cLine -> py.dep < 1000 -> SeqAt.EqAt A s u v (px.eqB py):=by
 intro n
 induction n with
 | zero =>
  intro hn A G G' x y u v px py rx ry ru rv hd hu hy
  cases rx with
  | non=>cases ru;cases ry with
   | non=>cases rv;rw [eqB_self];exact .same _
   | bl b=>cases rv;rw [eqB_ne (by simp [PV.norm])];exact .none_bool _
   | int i=>obtain ⟨t,rfl⟩:=rv;rw [eqB_ne (by simp [PV.norm])];exact .none_int _ _
   | str z=>obtain ⟨t,rfl⟩:=rv;rw [eqB_ne (by simp [PV.norm])];exact .none_str _ _
   | ty z=>rw [PV.dep] at hy;omega
   | set z=>rw [PV.dep] at hy;omega
   | dic z1 z2 z3 z4 z5=>rw [PV.dep] at hy;omega
   | lst g e l h=>cases rv;rw [eqB_ne (by simp [PV.norm])];obtain ⟨_,_,hl,_⟩:=I.listR e;exact .none_list hl (by omega)
   | tup e l h=>cases rv;rw [eqB_ne (by simp [PV.norm])];obtain ⟨_,_,hl,_⟩:=I.tuple (mF.of e);exact .none_tuple hl (by omega)
  | bl b=>cases ru;cases ry with
   | non=>cases rv;rw [eqB_ne (by simp [PV.norm])];exact .bool_none _
   | bl c=>cases rv;rw [eqB_bb];exact .bool_bool _ _
   | int i=>obtain ⟨t,rfl⟩:=rv;rw [eqB_bi];exact .bool_int _ _ _
   | str z=>obtain ⟨t,rfl⟩:=rv;rw [eqB_ne (by simp [PV.norm])];exact .bool_str _ _ _
   | ty z=>rw [PV.dep] at hy;omega
   | set z=>rw [PV.dep] at hy;omega
   | dic z1 z2 z3 z4 z5=>rw [PV.dep] at hy;omega
   | lst g e l h=>cases rv;rw [eqB_ne (by simp [PV.norm])];obtain ⟨_,_,hl,_⟩:=I.listR e;exact .bool_list _ hl (by omega)
   | tup e l h=>cases rv;rw [eqB_ne (by simp [PV.norm])];obtain ⟨_,_,hl,_⟩:=I.tuple (mF.of e);exact .bool_tuple _ hl (by omega)
  | int i=>obtain ⟨t0,rfl⟩:=ru;cases ry with
   | non=>cases rv;rw [eqB_ne (by simp [PV.norm])];exact .int_none _ _
   | bl c=>cases rv;rw [eqB_ib];exact .int_bool _ _ _
   | int i=>obtain ⟨t,rfl⟩:=rv;rw [eqB_ii];exact .int_int _ _ _ _
   | str z=>obtain ⟨t,rfl⟩:=rv;rw [eqB_ne (by simp [PV.norm])];exact .int_str _ _ _ _
   | ty z=>rw [PV.dep] at hy;omega
   | set z=>rw [PV.dep] at hy;omega
   | dic z1 z2 z3 z4 z5=>rw [PV.dep] at hy;omega
   | lst g e l h=>cases rv;rw [eqB_ne (by simp [PV.norm])];obtain ⟨_,_,hl,_⟩:=I.listR e;exact .int_list _ _ hl (by omega)
   | tup e l h=>cases rv;rw [eqB_ne (by simp [PV.norm])];obtain ⟨_,_,hl,_⟩:=I.tuple (mF.of e);exact .int_tuple _ _ hl (by omega)
  | str z0=>obtain ⟨t0,rfl⟩:=ru;cases ry with
   | non=>cases rv;rw [eqB_ne (by simp [PV.norm])];exact .str_none _ _
   | bl c=>cases rv;rw [eqB_ne (by simp [PV.norm])];exact .str_bool _ _ _
   | int i=>obtain ⟨t,rfl⟩:=rv;rw [eqB_ne (by simp [PV.norm])];exact .str_int _ _ _ _
   | str z=>obtain ⟨t,rfl⟩:=rv;rw [eqB_ss];exact .str_str _ _ _ _
   | ty z=>rw [PV.dep] at hy;omega
   | set z=>rw [PV.dep] at hy;omega
   | dic z1 z2 z3 z4 z5=>rw [PV.dep] at hy;omega
   | lst g e l h=>cases rv;rw [eqB_ne (by simp [PV.norm])];obtain ⟨_,_,hl,_⟩:=I.listR e;exact .str_list _ _ hl (by omega)
   | tup e l h=>cases rv;rw [eqB_ne (by simp [PV.norm])];obtain ⟨_,_,hl,_⟩:=I.tuple (mF.of e);exact .str_tuple _ _ hl (by omega)
  | ty z=>rw [PV.dep] at hd;omega
  | set z=>rw [PV.dep] at hd;omega
  | dic z1 z2 z3 z4 z5=>rw [PV.dep] at hd;omega
  | lst=>rw [PV.dep] at hd;omega
  | tup=>rw [PV.dep] at hd;omega
 | succ n ih =>
  intro hn A G G' x y u v px py rx ry ru rv hd hu hy
  have down:px.dep <= n -> SeqAt.EqAt A s u v (px.eqB py):=λh=>ih (by omega) rx ry ru rv h (by omega) hy
  cases hx:rx with
  | non=>exact down (by rw [PV.dep];omega)
  | bl b=>exact down (by rw [PV.dep];omega)
  | int i=>exact down (by rw [PV.dep];omega)
  | str z=>exact down (by rw [PV.dep];omega)
  | ty z=>rw [PV.dep] at hd;omega
  | set z=>rw [PV.dep] at hd;omega
  | dic z1 z2 z3 z4 z5=>rw [PV.dep] at hd;omega
  | @lst a vs xs g e l h =>
   cases ru
   cases hyy:ry with
   | non=>cases rv;rw [eqB_ne (by simp [PV.norm])];obtain ⟨_,_,hl,_⟩:=I.listR e;exact .list_none hl (by omega)
   | bl b=>cases rv;rw [eqB_ne (by simp [PV.norm])];obtain ⟨_,_,hl,_⟩:=I.listR e;exact .list_bool _ hl (by omega)
   | int i=>obtain ⟨t,rfl⟩:=rv;rw [eqB_ne (by simp [PV.norm])];obtain ⟨_,_,hl,_⟩:=I.listR e;exact .list_int _ _ hl (by omega)
   | str z=>obtain ⟨t,rfl⟩:=rv;rw [eqB_ne (by simp [PV.norm])];obtain ⟨_,_,hl,_⟩:=I.listR e;exact .list_str _ _ hl (by omega)
   | ty z=>rw [PV.dep] at hy;omega
   | set z=>rw [PV.dep] at hy;omega
   | dic z1 z2 z3 z4 z5=>rw [PV.dep] at hy;omega
   | tup e' l' h'=>cases rv;rw [eqB_ne (by simp [PV.norm])];obtain ⟨_,_,hl,_⟩:=I.listR e;obtain ⟨_,_,hl2,_⟩:=I.tuple (mF.of e');exact .list_tuple hl hl2 (by omega)
   | @lst b vs' ys g' e' l' h' =>
    cases rv
    by_cases hab:a = b
    ·subst hab
     rw [rx.inj ry,eqB_self];exact .same _
    ·obtain ⟨i1,v1,hl1,_⟩:=I.listR e
     obtain ⟨i2,v2,hl2,_⟩:=I.listR e'
     have n1:=v1.length
     have n2:=v2.length
     by_cases hlen:xs.length = ys.length
     ·rw [eqB_lists (n:=i1.toArray.size) (by simp;omega) (by simp;omega)]
      refine .of_refs hab (SeqAt.RcAt.lists hl1 hl2 (by simp;omega) (by omega) λj h1 h2=>?_)
      have j1:j < i1.length:=by simpa using h1
      have j2:j < i2.length:=by simpa using h2
      obtain ⟨u1,eu,ru1⟩:=v1.get (a0b (l:=vs) (i:=j) (by omega))
      obtain ⟨u2,ev,ru2⟩:=v2.get (a0b (l:=vs') (i:=j) (by omega))
      rw [toArr_get eu h1,toArr_get ev h2,a0g,a0g,a0b (l:=xs) (by omega),a0b (l:=ys) (by omega)]
      refine ih (by omega) (A:=A.in1) (h j _ _ (a0b (by omega)) (a0b (by omega))) (h' j _ _ (a0b (by omega)) (a0b (by omega))) ru1 ru2 ?_ (by show A.units + 1 + n < cLine;omega) ?_
      ·rw [PV.dep] at hd
       exact a1b (PV.deps_le (a1x _)) (by omega)
      ·rw [PV.dep] at hy
       exact a5j (PV.deps_le (a1x _)) (by omega)
     ·rw [eqB_len hlen]
      refine .of_refs hab (SeqAt.RcAt.lists_lengths hl1 hl2 ?_ (by omega))
      simp;omega
  | @tup a vs xs e l h =>
   cases ru
   cases hyy:ry with
   | non=>cases rv;rw [eqB_ne (by simp [PV.norm])];obtain ⟨_,_,hl,_⟩:=I.tuple (mF.of e);exact .tuple_none hl (by omega)
   | bl b=>cases rv;rw [eqB_ne (by simp [PV.norm])];obtain ⟨_,_,hl,_⟩:=I.tuple (mF.of e);exact .tuple_bool _ hl (by omega)
   | int i=>obtain ⟨t,rfl⟩:=rv;rw [eqB_ne (by simp [PV.norm])];obtain ⟨_,_,hl,_⟩:=I.tuple (mF.of e);exact .tuple_int _ _ hl (by omega)
   | str z=>obtain ⟨t,rfl⟩:=rv;rw [eqB_ne (by simp [PV.norm])];obtain ⟨_,_,hl,_⟩:=I.tuple (mF.of e);exact .tuple_str _ _ hl (by omega)
   | ty z=>rw [PV.dep] at hy;omega
   | set z=>rw [PV.dep] at hy;omega
   | dic z1 z2 z3 z4 z5=>rw [PV.dep] at hy;omega
   | lst g' e' l' h'=>cases rv;rw [eqB_ne (by simp [PV.norm])];obtain ⟨_,_,hl,_⟩:=I.tuple (mF.of e);obtain ⟨_,_,hl2,_⟩:=I.listR e';exact .tuple_list hl hl2 (by omega)
   | @tup b vs' ys e' l' h' =>
    cases rv
    by_cases hab:a = b
    ·subst hab
     rw [rx.inj ry,eqB_self];exact .same _
    ·obtain ⟨i1,v1,hl1,_⟩:=I.tuple (mF.of e)
     obtain ⟨i2,v2,hl2,_⟩:=I.tuple (mF.of e')
     have n1:=v1.length
     have n2:=v2.length
     have go:=SeqAt.RcAt.tuples (A:=A) (e:=λj=>(xs.getD j .non).eqB (ys.getD j .non)) hl1 hl2 (by omega) (λj h1 h2=>by
      have j1:j < i1.length:=by simpa using h1
      have j2:j < i2.length:=by simpa using h2
      obtain ⟨u1,eu,ru1⟩:=v1.get (a0b (l:=vs) (i:=j) (by omega))
      obtain ⟨u2,ev,ru2⟩:=v2.get (a0b (l:=vs') (i:=j) (by omega))
      rw [toArr_get eu h1,toArr_get ev h2,a0g,a0g,a0b (l:=xs) (by omega),a0b (l:=ys) (by omega)]
      refine ih (by omega) (A:=A.in1) (h j _ _ (a0b (by omega)) (a0b (by omega))) (h' j _ _ (a0b (by omega)) (a0b (by omega))) ru1 ru2 ?_ (by show A.units + 1 + n < cLine;omega) ?_
      ·rw [PV.dep] at hd
       exact a1b (PV.deps_le (a1x _)) (by omega)
      ·rw [PV.dep] at hy
       exact a5j (PV.deps_le (a1x _)) (by omega))
     refine .of_refs hab ?_
     rw [eqB_tup_lst]
     by_cases hlen:xs.length = ys.length
     ·rw [eqB_lists (n:=i1.toArray.size) (by simp;omega) (by simp;omega)]
      rw [show min i1.toArray.size i2.toArray.size = i1.toArray.size by simp;omega,show (i1.toArray.size == i2.toArray.size) = true by simp;omega,Bool.and_true] at go
      exact go
     ·rw [eqB_len hlen]
      rw [show (i1.toArray.size == i2.toArray.size) = false by simp;omega,Bool.and_false] at go
      exact go
end
section
variable {X:Cx} {pins:List (Addr × Obj)} {σ:St} {H:Hp} {s:Shared}
def a0T (neg:Bool):R2:=λx y H Q=>∃ G G' px ys,Rep G H x px /\ (Rep G' H y (.lst ys) \/ Rep G' H y (.tup ys)) /\ px.dep < 1000 /\ PV.deps ys <= 60 /\ Q (.bl (if neg then !ys.any (λz=>z.eqB px) else ys.any λz=>z.eqB px)) H
theorem TF {vs:List V} {its:List Value} {ys:List PV} {px:PV} {G:Addr -> Prop} (v:bF vs its) (r:Reps G H vs ys) {e:Value -> Bool} (he:∀ (j:Nat) (y:PV) (u:Value),ys[j]? = some y -> its[j]? = some u -> e u = y.eqB px):its.toArray.any e = ys.any λz=>z.eqB px:=by
 have n1:=v.length
 have n2:=r.len
 rw [List.any_toArray]
 rw [a4s,a5x,a5x]
 constructor
 ·rintro ⟨u,hu,h⟩
  obtain ⟨j,hj,rfl⟩:=a1v hu
  refine ⟨ys[j]'(by omega),a1x _,?_⟩
  rw [<- he j _ _ (a0b (by omega)) (a0b hj)];exact h
 ·rintro ⟨y,hy,h⟩
  obtain ⟨j,hj,rfl⟩:=a1v hy
  refine ⟨its[j]'(by omega),a1x _,?_⟩
  rw [he j _ _ (a0b hj) (a0b (by omega))];exact h
open Classical in
theorem X5 {A:Around} {G G':Addr -> Prop} {vs:List V} {its:List Value} {ys:List PV} {px:PV} {x:V} {u:Value} (I:Inv X pins σ H s) (v:bF vs its) (r:Reps G H vs ys) (rx:Rep G' H x px) (ru:bR x u) (hd:px.dep < 1000) (hds:PV.deps ys <= 60) (hu:A.units + 60 < cLine) :
  ∃ e:Value -> Bool,(∀ y,y ∈ its.toArray -> SeqAt.EqAt A s y u (e y)) /\ its.toArray.any e = ys.any λz=>z.eqB px:=by
 have n1:=v.length
 have n2:=r.len
 have ex:∀ w,w ∈ its -> ∃ b,SeqAt.EqAt A s w u b /\ ∀ (j:Nat) (y:PV),ys[j]? = some y -> its[j]? = some w -> b = y.eqB px:=by
  intro w hw
  obtain ⟨j,hj,rfl⟩:=a1v hw
  obtain ⟨w1,e1,r1⟩:=v.get (a0b (l:=vs) (i:=j) (by omega))
  rw [a0b hj] at e1;cases e1
  have ry:=r.at_ j _ _ (a0b (by omega)) (a0b (l:=ys) (by omega))
  refine ⟨(ys[j]'(by omega)).eqB px,eqAt_rep I 60 (by omega) ry rx r1 ru (a1b (PV.deps_le (a1x _)) hds) hu hd,λk y e1 e2=>?_⟩
  obtain ⟨w2,e3,r3⟩:=v.get (a0b (l:=vs) (i:=k) (by have:=(a0k.mp e1).1;omega))
  rw [e2] at e3;cases e3
  have:=r1.inj r3
  have rk:=r.at_ k _ _ (a0b (by have:=(a0k.mp e1).1;omega)) e1
  rw [<- this] at rk
  rw [ry.inj rk]
 refine ⟨λw=>if h:w ∈ its then (ex w h).choose else false,λy hy=>?_,TF v r λj y w e1 e2=>?_⟩
 ·have hy':y ∈ its:=by simpa using hy
  dsimp only
  rw [dif_pos hy']
  exact (ex y hy').choose_spec.1
 ·have hw:=a0x e2
  rw [dif_pos hw]
  exact (ex w hw).choose_spec.2 j y e1 e2
theorem ZW (hu:X.A.units + 61 < cLine):tJ X (compareOp .In) (a0T false):=by
 intro pins s σ H x y v u Q I rx ry h
 obtain ⟨G,G',px,ys,r1,r2,d1,d2,q⟩:=h
 rw [if_neg (by decide)] at q
 rcases r2 with r2 | r2
 ·obtain ⟨a,vs,rfl,g,e,rs⟩:=r2.ofList
  cases ry
  obtain ⟨its,vv,hl,_⟩:=I.listR e
  obtain ⟨f,h1,h2⟩:=X5 (A:=X.A.in1) I vv rs r1 rx d1 d2 (by show X.A.units + 1 + 60 < cLine;omega)
  exact SeqAt.in_listAt f hl h1 (by rw [h2];exact ⟨.bl _,H,I,rfl,q⟩)
 ·obtain ⟨a,vs,rfl,e,rs⟩:=r2.ofTup
  cases ry
  obtain ⟨its,vv,hl,_⟩:=I.tuple (mF.of e)
  obtain ⟨f,h1,h2⟩:=X5 (A:=X.A.in1) I vv rs r1 rx d1 d2 (by show X.A.units + 1 + 60 < cLine;omega)
  exact SeqAt.in_tupleAt f hl h1 (by rw [h2];exact ⟨.bl _,H,I,rfl,q⟩)
end
theorem VU {X:Cx} (hu:X.A.units + 64 < cLine):QOp X (compareOp .In) (a0T false):=⟨ZW (by omega)⟩
abbrev kL {α:Type}:List α -> Nat -> Option α
 | [],_=>none
 | a :: _,0=>some a
 | _ :: l,n + 1=>kL l n
theorem nJ {α:Type}:∀ (l:List α) (i:Nat),kL l i = l[i]?
 | [],_=>by simp [kL]
 | a :: l,0=>by simp [kL]
 | a :: l,i + 1=>by simp [kL,nJ l i]
abbrev kE {α:Type}:List α -> Nat -> α -> List α
 | [],_,_=>[]
 | _ :: l,0,b=>b :: l
 | a :: l,n + 1,b=>a :: kE l n b
theorem fX {α:Type}:∀ (l:List α) (i:Nat) (b:α),kE l i b = l.set i b
 | [],_,_=>by simp [kE]
 | a :: l,0,b=>by simp [kE]
 | a :: l,i + 1,b=>by simp [kE,fX l i b]
abbrev b8:=bY -> (PV -> Prop) -> Prop
abbrev jB:=bY -> (Bool -> Prop) -> Prop
abbrev tM:=bY -> (List PV -> Prop) -> Prop
abbrev P2:=PV -> PV -> (PV -> Prop) -> Prop
abbrev PN:=List PV -> (PV -> Prop) -> Prop
def Br (b:Bool) (x y:Prop):Prop:=match b with
 | true=>x
 | false=>y
theorem a1S {b:Bool} {x y:Prop} (h1:b = true -> x) (h2:b = false -> y):Br b x y:=by
 cases b with
 | true=>exact h1 rfl
 | false=>exact h2 rfl
def pC (x:PV):b8:=λ_ Q=>Q x
def pVar (i:Nat):b8:=λenv Q=>match kL env i with
 | some (some x)=>Q x
 | _=>False
def pOp (r:P2) (a b:b8):b8:=λenv Q=>a env λx=>b env λy=>r x y Q
def pUn (r:PV -> (PV -> Prop) -> Prop) (a:b8):b8:=λenv Q=>a env λx=>r x Q
def pNil:tM:=λ_ Q=>Q []
def pCons (a:b8) (r:tM):tM:=λenv Q=>a env λx=>r env λxs=>Q (x :: xs)
def pCl (r:PN) (a:tM):b8:=λenv Q=>a env λxs=>r xs Q
def pBo (a:b8):jB:=λenv Q=>a env λx=>match x with
 | .bl b=>Q b
 | _=>False
def pAnd (a b:jB):jB:=λenv Q=>a env λk=>Br k (b env Q) (Q false)
def pOr (a b:jB):jB:=λenv Q=>a env λk=>Br k (Q true) (b env Q)
def pChain (r r':P2) (a b c:b8):b8:=λenv Q=>a env λx=>b env λy=>r x y λz=>match z with
 | .bl k=>Br k (c env λw=>r' y w Q) (Q (.bl false))
 | _=>False
def pFlat (a:b8):b8:=λenv Q=>a env λx=>x.flat = true /\ Q x
def mL (B:Hp) (W:Wd) (H:Hp) (m:Md) (Q:PV -> Prop) (K:VK):Prop:=∀ (x:PV) (v:V) (W':Wd) (H':Hp),Go W H W' H' -> ResE B H W' H' m v x -> Q x -> K v H'
def i9 (K':PySem.W.Frag) (md:List Md) (m:Md) (p:b8):TE:=λσ H K=>∃ (env:bY) (W0:Wd) (H0:Hp) (W:Wd) (Q:PV -> Prop),Rl K' md W0 H0 W σ env H /\ p env Q /\ mL H0 W H m Q K
def xJ (K':PySem.W.Frag) (md:List Md) (p:jB):TT:=λσ H K=>∃ (env:bY) (W0:Wd) (H0:Hp) (W:Wd) (Q:Bool -> Prop),Rl K' md W0 H0 W σ env H /\ p env Q /\ ∀ (b:Bool) (W':Wd) (H':Hp),Go W H W' H' -> Q b -> K b H'
inductive ResEs (B H:Hp) (W':Wd) (H':Hp):List Md -> List V -> List PV -> Prop where
 | nil:ResEs B H W' H' [] [] []
 | cons {m:Md} {v:V} {x:PV} {ms:List Md} {vs:List V} {xs:List PV}:ResE B H W' H' m v x -> ResEs B H W' H' ms vs xs -> ResEs B H W' H' (m :: ms) (v :: vs) (x :: xs)
def a1U (B:Hp) (W:Wd) (H:Hp) (ms:List Md) (Q:List PV -> Prop) (K:List V -> Hp -> Prop):Prop:=∀ (xs:List PV) (vs:List V) (W':Wd) (H':Hp),Go W H W' H' -> ResEs B H W' H' ms vs xs -> Q xs -> K vs H'
def X8 (K':PySem.W.Frag) (md:List Md) (ms:List Md) (p:tM):TA:=λσ H K=>∃ (env:bY) (W0:Wd) (H0:Hp) (W:Wd) (Q:List PV -> Prop),Rl K' md W0 H0 W σ env H /\ p env Q /\ a1U H0 W H ms Q K
structure VE (X:Cx) (md:List Md) (e:Expr) (m:Md) (p:b8):Prop where
 h:PE X e (i9 X.K md m p)
structure VT (X:Cx) (md:List Md) (e:Expr) (p:jB):Prop where
 h:PT X e (xJ X.K md p)
structure VW (X:Cx) (md:List Md) (e:Expr) (p:jB):Prop where
 h:PW X e (xJ X.K md p)
structure VA (X:Cx) (md:List Md) (es:List Expr) (ms:List Md) (p:tM):Prop where
 h:PA X es (X8 X.K md ms p)
section
variable {X:Cx} {e:Expr} {es:List Expr} {t t':TE}
theorem PE.imp (h:PE X e t) (k:∀ σ H K,t' σ H K -> t σ H K):PE X e t':=λpins s σ H Q I q=>h pins s σ H Q I (k σ H Q q)
theorem PT.imp {t t':TT} (h:PT X e t) (k:∀ σ H K,t' σ H K -> t σ H K):PT X e t':=λpins s σ H Q I q=>h pins s σ H Q I (k σ H Q q)
theorem PW.imp {t t':TT} (h:PW X e t) (k:∀ σ H K,t' σ H K -> t σ H K):PW X e t':=λwh pins s σ H Q I q=>h wh pins s σ H Q I (k σ H Q q)
theorem PA.imp {t t':TA} (h:PA X es t) (k:∀ σ H K,t' σ H K -> t σ H K):PA X es t':=λpos pins s σ H Q I q=>h pos pins s σ H Q I (k σ H Q q)
end
section
variable {W W1 W2:Wd} {B H H1 H2:Hp} {m:Md} {el:El} {Q:PV -> Prop} {K:VK}
theorem mL.after (k:mL B W H m Q K) (g:Go W H W1 H1):mL B W1 H1 m Q K:=λx v W' H' g' r q=>k x v W' H' (g.trans g') (ResE.base g r) q
theorem ResEs.base {ms:List Md} {vs:List V} {xs:List PV} (g:Go W H W1 H1) (r:ResEs B H1 W2 H2 ms vs xs):ResEs B H W2 H2 ms vs xs:=by
 induction r with
 | nil=>exact .nil
 | cons h _ ih=>exact .cons (ResE.base g h) ih
theorem mL.atom (k:mL B W H (.v .fl) Q K) (w:Wok W H) {v:V} {x:PV} (r:Rep (λ_=>False) H v x) (q:Q x):K v H:=k x v W H (Go.refl w) r q
theorem mL.val (k:mL B W H (.v el) Q K) (w:Wok W H) {v:V} {x:PV} (r:Rep (el.G W.F B) H v x) (q:Q x):K v H:=k x v W H (Go.refl w) r q
theorem Go.laid (w:Wok W H) {p:Addr} {o:HO} (h:H p = none):Go W H W (c7 H p o) where
 lF:=λ_ h=>h
 lS:=λ_ h=>h
 nF:=λ_ h=>.inl h
 nS:=λ_ h=>.inl h
 kp:=λa u e _=>by rw [aG (eY e h)];exact e
 ok:=⟨λa f=>by obtain ⟨u,e⟩:=w.fF a f;exact ⟨u,by rw [aG (eY e h)];exact e⟩,λa f=>by
  obtain ⟨x1,x2,x3,e,z⟩:=w.sS a f
  exact ⟨x1,x2,x3,by rw [aG (eY e h)];exact e,z⟩,w.dj⟩
 kk:=rfl
 kl:=rfl
theorem Wok.offF (w:Wok W H) {p:Addr} (h:H p = none) (f:W.F p):False:=by
 obtain ⟨o,e⟩:=w.fF p f
 rw [h] at e;cases e
theorem Wok.offS (w:Wok W H) {p:Addr} (h:H p = none) (f:W.S p):False:=by
 obtain ⟨_,_,_,e,_⟩:=w.sS p f
 rw [h] at e;cases e
theorem mL.newB (k:mL B W H (.o el) Q K) (w:Wok W H) {o:HO} {x:PV} {p:Addr} (h:H p = none) (r:Body (el.G W.F B) H o x) (q:Q x):K (.ref p) (c7 H p o) :=
 k x (.ref p) W _ (Go.laid w h) ⟨p,o,rfl,h,λf=>w.offF h f,λf=>w.offS h f,bK,(Go.laid w h).body w (λ_ g=>El.nS w g) (λ_ g=>g) r⟩ q
theorem mL.newL (k:mL B W H (.o el) Q K) (w:Wok W H) {vs:List V} {xs:List PV} {p:Addr} (h:H p = none) (r:Reps (el.G W.F B) H vs xs) (q:Q (.lst xs)):K (.ref p) (c7 H p (.lst vs)):=k.newB w h (.lst r) q
theorem mL.newT (k:mL B W H (.v el) Q K) (w:Wok W H) {vs:List V} {xs:List PV} {p:Addr} (h:H p = none) (r:Reps (el.G W.F B) H vs xs) (q:Q (.tup xs)):K (.ref p) (c7 H p (.tup vs)) :=
 k (.tup xs) (.ref p) W _ (Go.laid w h) (.tup bK r.len ((Go.laid w h).reps w (λ_ g=>El.nS w g) (λ_ g=>g) r).at_) q
end
section
variable {X:Cx} {md:List Md} {a b c e:Expr} {es:List Expr} {pa pb pc pe:b8} {m:Md} {el:El} {pos p:Pos}
theorem gS {n:Md} (h:VE X md e m pe) (hm:m.le n = true):VE X md e n pe:=⟨h.h.imp λσ H K=>by
 rintro ⟨env,W0,H0,W,Q,R,q,k⟩
 exact ⟨env,W0,H0,W,Q,R,q,λx v W' H' g r z=>k x v W' H' g (r.le g.ok hm) z⟩⟩
theorem nU (h:VE X md e (.o el) pe):VE X md e (.z el) pe:=⟨h.h.imp λσ H K=>by
 rintro ⟨env,W0,H0,W,Q,R,q,k⟩
 refine ⟨env,W0,H0,W,Q,R,q,λx v W' H' g r z=>?_⟩
 obtain ⟨W2,g2,r2⟩:=R.go.freeze g r
 exact k x v W2 H' g2 r2 z⟩
theorem vH (h:VE X md e .bw pe):VE X md e (.v .fl) (pFlat pe):=⟨h.h.imp λσ H K=>by
 rintro ⟨env,W0,H0,W,Q,R,q,k⟩
 exact ⟨env,W0,H0,W,λx=>x.flat = true /\ Q x,R,q,λx v W' H' g r z=>k x v W' H' g (Rep.flat r z.1) z.2⟩⟩
def pFlatL (a:b8):b8:=λenv Q=>a env λx=>match x with
 | .lst xs=>PV.flats xs = true /\ Q (.lst xs)
 | _=>False
theorem vI (h:VE X md e (.o el) pe):VE X md e (.o .fl) (pFlatL pe):=⟨h.h.imp λσ H K=>by
 rintro ⟨env,W0,H0,W,Q,R,q,k⟩
 refine ⟨env,W0,H0,W,_,R,q,λx v W' H' g r z=>?_⟩
 cases x with
 | lst xs =>
  obtain ⟨a,o,rfl,h1,h2,h3,h4,h5⟩:=r
  cases h5 with
  | lst h5=>exact k _ _ W' H' g ⟨a,_,rfl,h1,h2,h3,h4,.lst (flats_reps h5 z.1)⟩ z.2
 | _=>exact z.elim⟩
theorem yV {v:V} {x:PV} (h:QE X e (tC v)) (hr:∀ H,Rep (λ_=>False) H v x):VE X md e (.v .fl) (pC x):=⟨h.h.imp λσ H K=>by
 rintro ⟨env,W0,H0,W,Q,R,q,k⟩
 exact k.atom R.ok (hr H) q⟩
theorem aB {i j pos}:VE X md (.Constant (.int i) j pos) (.v .fl) (pC (.int i)):=yV bH λ_=>.int _
theorem B3 {b j pos}:VE X md (.Constant (.bool b) j pos) (.v .fl) (pC (.bl b)):=yV a39 λ_=>.bl _
theorem nV {j pos}:VE X md (.Constant .none j pos) (.v .fl) (pC .non):=yV a0O λ_=>.non
theorem SV {x j pos}:VE X md (.Constant (.str x) j pos) (.v .fl) (pC (.str x)):=yV a0P λ_=>.str _
theorem aK {i:Nat} (h:QE X e (gH i)) (hm:(md.getD i .no) = m) (hl:m.own = false):VE X md e m (pVar i):=⟨h.h.imp λσ H K=>by
 rintro ⟨env,W0,H0,W,Q,R,q,k⟩
 unfold pVar at q
 rw [nJ] at q
 cases e:env[i]? with
 | none=>rw [e] at q;exact q.elim
 | some o =>
  cases o with
  | none=>rw [e] at q;exact q.elim
  | some x =>
   rw [e] at q
   obtain ⟨v,s,r⟩:=R.slot i x e
   rw [hm] at r
   refine ⟨v,s,k x v W H (Go.refl R.ok) ?_ q⟩
   cases m <;> first | exact r | cases hl⟩
theorem aP {i:Nat} (h:QE X e (gH i)) (hm:md.getD i .no = .o el):VE X md e (.p el) (pVar i):=⟨h.h.imp λσ H K=>by
 rintro ⟨env,W0,H0,W,Q,R,q,k⟩
 unfold pVar at q
 rw [nJ] at q
 cases e:env[i]? with
 | none=>rw [e] at q;exact q.elim
 | some o =>
  cases o with
  | none=>rw [e] at q;exact q.elim
  | some x =>
   rw [e] at q
   obtain ⟨v,s,r⟩:=R.slot i x e
   rw [hm] at r
   refine ⟨v,s,k x v W H (Go.refl R.ok) ?_ q⟩
   obtain ⟨a,o,rfl,h1⟩:=r
   exact .inr ⟨a,o,rfl,h1.nS,h1.at_,h1.its⟩⟩
structure SimOp (r:R2) (m:Md) (pr:P2):Prop where
 h:∀ (B:Hp) (W:Wd) (H:Hp) (x y:V) (px py:PV) (Q:PV -> Prop) (K:VK),Wok W H -> Rep (λa=>¬ W.S a) H x px -> Rep (λa=>¬ W.S a) H y py -> pr px py Q -> mL B W H m Q K -> r x y H K
theorem X7 {K':PySem.W.Frag} {r:R2} {pr:P2} (hs:SimOp r m pr) {σ:St} {H:Hp} {K:VK} (h:i9 K' md m (pOp pr pa pb) σ H K):SL r (i9 K' md .bw pa) (i9 K' md .bw pb) σ H K:=by
 obtain ⟨env,W0,H0,W,Q,R,q,k⟩:=h
 refine ⟨env,W0,H0,W,_,R,q,λx v W1 H1 g1 r1 q1=>⟨env,W0,H0,W1,_,R.step g1,q1,λy u W2 H2 g2 r2 q2=>?_⟩⟩
 exact hs.h H0 W2 H2 v u x y Q K g2.ok (g2.bw g1.ok r1) r2 q2 (k.after (g1.trans g2))
theorem bO {op:Operator} {r:R2} {pr:P2} (ho:QOp X (binaryOp op) r) (hs:SimOp r m pr) (ha:VE X md a .bw pa) (hb:VE X md b .bw pb):VE X md (.BinOp a op b pos) m (pOp pr pa pb) :=
 ⟨(GV ho.h ha.h hb.h).imp λ_ _ _ h=>X7 hs h⟩
theorem fQ {op:CmpOp} {r:R2} {pr:P2} (ho:QOp X (compareOp op) r) (hs:SimOp r (.v .fl) pr) (ha:VE X md a .bw pa) (hb:VE X md b .bw pb) (hm:behindInMarks op b = false):VT X md (.Compare a [op] [b] pos) (pBo (pOp pr pa pb)) :=
 ⟨(LM ho.h ha.h hb.h hm).imp λσ H K=>by
  rintro ⟨env,W0,H0,W,Q,R,q,k⟩
  refine X7 (K:=λx H'=>∃ c,x = .bl c /\ K c H') hs ⟨env,W0,H0,W,_,R,q,λx v W' H' g r z=>?_⟩
  cases x with
  | bl c=>exact ⟨c,Rep.ofBl r,k c W' H' g z⟩
  | _=>exact z.elim⟩
theorem a2M {K':PySem.W.Frag} {r r':R2} {pr pr':P2} (hs:SimOp r (.v .fl) pr) (hs':SimOp r' (.v .fl) pr') {σ:St} {H:Hp} {K:VK} (h:i9 K' md (.v .fl) (pChain pr pr' pa pb pc) σ H K):SH r r' (i9 K' md .bw pa) (i9 K' md .bw pb) (i9 K' md .bw pc) σ H K:=by
 obtain ⟨env,W0,H0,W,Q,R,q,k⟩:=h
 refine ⟨env,W0,H0,W,_,R,q,λx v W1 H1 g1 r1 q1=>⟨env,W0,H0,W1,_,R.step g1,q1,λy u W2 H2 g2 r2 q2=>?_⟩⟩
 refine hs.h H0 W2 H2 v u x y _ _ g2.ok (g2.bw g1.ok r1) r2 q2 λz w W3 H3 g3 r3 q3=>?_
 cases z with
 | bl c =>
  refine ⟨c,Rep.ofBl r3,?_⟩
  cases c with
  | true =>
   rw [if_pos rfl]
   refine ⟨env,W0,H0,W3,_,(R.step g1).step (g2.trans g3),q3,λz' w' W4 H4 g4 r4 q4=>?_⟩
   exact hs'.h H0 W4 H4 u w' y z' Q K g4.ok (g4.bw g3.ok (g3.bw g2.ok r2)) r4 q4 (k.after (((g1.trans g2).trans g3).trans g4))
  | false =>
   rw [if_neg a0j]
   exact (k.after ((g1.trans g2).trans g3)).atom g3.ok (.bl false) q3
 | _=>exact q3.elim
theorem SS {op op':CmpOp} {r r':R2} {pr pr':P2} (ho:QOp X (compareOp op) r) (ho':QOp X (compareOp op') r') (hs:SimOp r (.v .fl) pr) (hs':SimOp r' (.v .fl) pr') (ha:VE X md a .bw pa) (hb:VE X md b .bw pb) (hc:VE X md c .bw pc) (hm:lastMarks [op,op'] [b,c] = false:=by with_unfolding_all rfl) :
  VE X md (.Compare a [op,op'] [b,c] pos) (.v .fl) (pChain pr pr' pa pb pc):=⟨(R0 ho.h ho'.h ha.h hb.h hc.h hm).imp λ_ _ _ h=>a2M hs hs' h⟩
theorem a40 {op:UnaryOp} {r:V -> Hp -> VK -> Prop} {pr:PV -> (PV -> Prop) -> Prop} (ho:QUn X (unaryOp op) r) (hs:∀ (B:Hp) (W:Wd) (H:Hp) (x:V) (px:PV) (Q:PV -> Prop) (K:VK),Wok W H -> Rep (λa=>¬ W.S a) H x px -> pr px Q -> mL B W H m Q K -> r x H K) (ha:VE X md a .bw pa) :
  VE X md (.UnaryOp op a pos) m (pUn pr pa):=⟨(XE ho.h ha.h).imp λσ H K=>by
 rintro ⟨env,W0,H0,W,Q,R,q,k⟩
 exact ⟨env,W0,H0,W,_,R,q,λx v W1 H1 g1 r1 q1=>hs H0 W1 H1 v x Q K g1.ok r1 q1 (k.after g1)⟩⟩
theorem a1J {op} (h:VE X md a m pe):VE X md (.BoolOp op [a] pos) m pe:=⟨a08 h.h⟩
theorem EY (h:VE X md e .bw pe) (he:∀ whole,isTrue e X.env whole = (do let v <- whole;standAt e.pos;holding [v] (truthy v)):=by intro _;rfl):VT X md e (pBo pe):=⟨(a0J h.h he).imp λσ H K=>by
 rintro ⟨env,W0,H0,W,Q,R,q,k⟩
 refine ⟨env,W0,H0,W,_,R,q,λx v W1 H1 g1 r1 q1=>?_⟩
 cases x with
 | bl c=>exact ⟨c,Rep.ofBl r1,k c W1 H1 g1 q1⟩
 | _=>exact q1.elim⟩
theorem T1 {ptt:jB} (h:VW X md e ptt):VT X md e ptt:=⟨h.h.pt⟩
theorem MA {ptt:jB} (ha:VT X md a ptt):VW X md (.BoolOp .And [a] pos) ptt:=⟨VN ha.h⟩
theorem a1P {ptt:jB} (ha:VT X md a ptt):VW X md (.BoolOp .Or [a] pos) ptt:=⟨a0L ha.h⟩
theorem SZ {rest:List Expr} {pt pu:jB} (ha:VT X md a pt) (hb:VW X md (.BoolOp .And (b :: rest) pos) pu):VW X md (.BoolOp .And (a :: b :: rest) pos) (pAnd pt pu):=⟨(a0K ha.h hb.h).imp λσ H K=>by
 rintro ⟨env,W0,H0,W,Q,R,q,k⟩
 refine ⟨env,W0,H0,W,_,R,q,λc W1 H1 g1 q1=>?_⟩
 cases c with
 | true=>rw [if_pos rfl];exact ⟨env,W0,H0,W1,Q,R.step g1,q1,λb W2 H2 g2 q2=>k b W2 H2 (g1.trans g2) q2⟩
 | false=>rw [if_neg a0j];exact k _ W1 H1 g1 q1⟩
theorem a41 {rest:List Expr} {pt pu:jB} (ha:VT X md a pt) (hb:VW X md (.BoolOp .Or (b :: rest) pos) pu):VW X md (.BoolOp .Or (a :: b :: rest) pos) (pOr pt pu):=⟨(a38 ha.h hb.h).imp λσ H K=>by
 rintro ⟨env,W0,H0,W,Q,R,q,k⟩
 refine ⟨env,W0,H0,W,_,R,q,λc W1 H1 g1 q1=>?_⟩
 cases c with
 | true=>rw [if_pos rfl];exact k _ W1 H1 g1 q1
 | false=>rw [if_neg a0j];exact ⟨env,W0,H0,W1,Q,R.step g1,q1,λb W2 H2 g2 q2=>k b W2 H2 (g1.trans g2) q2⟩⟩
theorem aA:VA X md [] [] pNil:=⟨nM.imp λσ H K=>by
 rintro ⟨env,W0,H0,W,Q,R,q,k⟩
 exact k [] [] W H (Go.refl R.ok) .nil q⟩
theorem a7 {ms:List Md} {pr:tM} (ha:VE X md e m pe) (hr:VA X md es ms pr) (hs:starEach (e :: es) X.env = (false,eval e X.env) :: starEach es X.env:=by rfl):VA X md (e :: es) (m :: ms) (pCons pe pr):=⟨(iV ha.h hr.h hs).imp λσ H K=>by
 rintro ⟨env,W0,H0,W,Q,R,q,k⟩
 refine ⟨env,W0,H0,W,_,R,q,λx v W1 H1 g1 r1 q1=>⟨env,W0,H0,W1,_,R.step g1,q1,λxs vs W2 H2 g2 r2 q2=>?_⟩⟩
 exact k (x :: xs) (v :: vs) W2 H2 (g1.trans g2) (.cons (r1.go g1.ok g2) (ResEs.base g1 r2)) q2⟩
theorem ResEs.reps {G:Addr -> Prop} {B H H':Hp} {W':Wd} {ms:List Md} {vs:List V} {xs:List PV} (r:ResEs B H W' H' ms vs xs) (h:∀ (m:Md) (v:V) (x:PV),m ∈ ms -> ResE B H W' H' m v x -> Rep G H' v x):Reps G H' vs xs:=by
 induction r with
 | nil=>exact .nil
 | cons h1 _ ih=>exact .cons (h _ _ _ a0n h1) (ih λm v x hm=>h m v x (a0i _ hm))
theorem ResEs.vs {B H H':Hp} {W':Wd} {ms:List Md} {vs:List V} {xs:List PV} (w:Wok W' H') (r:ResEs B H W' H' ms vs xs) (hm:ms.all (λm=>m.le (.v el)) = true):Reps (el.G W'.F B) H' vs xs:=r.reps λm v x h q=>ResE.le q w (n:=.v el) (a1k.mp hm m h)
theorem ResEs.len {B H H':Hp} {W':Wd} {ms:List Md} {vs:List V} {xs:List PV} (r:ResEs B H W' H' ms vs xs):vs.length = xs.length /\ ms.length = xs.length:=by
 induction r with
 | nil=>exact ⟨rfl,rfl⟩
 | cons _ _ ih=>simp [ih]
def pLst (a:tM):b8:=λenv Q=>a env λxs=>Q (.lst xs)
def pTup (a:tM):b8:=λenv Q=>a env λxs=>Q (.tup xs)
theorem HV {ms:List Md} {vs:List V} {xs:List PV} {B H H':Hp} {W':Wd} (r:ResEs B H W' H' ms vs xs) (hl:ms.length <= 1000):vs.length <= sizeLine:=by
 have:=r.len
 exact a1b (by omega:vs.length <= 1000) (by decide)
theorem eN {ms:List Md} {pr:tM} (el:El) (h:VA X md es ms pr) (hm:ms.all (λm=>m.le (.v el)) = true) (hl:ms.length <= 1000:=by decide):VE X md (.List es pos) (.o el) (pLst pr):=⟨(R8 h.h).imp λσ H K=>by
 rintro ⟨env,W0,H0,W,Q,R,q,k⟩
 exact ⟨env,W0,H0,W,_,R,q,λxs vs W1 H1 g1 r1 q1=>⟨HV r1 hl,λp hp=>(k.after g1).newL g1.ok hp (r1.vs g1.ok hm) q1⟩⟩⟩
theorem eO {ms:List Md} {pr:tM} {x1} (el:El) (h:VA X md es ms pr) (hm:ms.all (λm=>m.le (.v el)) = true) (hl:ms.length <= 1000:=by decide):VE X md (.Tuple es x1 pos) (.v el) (pTup pr):=⟨(a0C h.h).imp λσ H K=>by
 rintro ⟨env,W0,H0,W,Q,R,q,k⟩
 exact ⟨env,W0,H0,W,_,R,q,λxs vs W1 H1 g1 r1 q1=>⟨HV r1 hl,λp hp=>(k.after g1).newT g1.ok hp (r1.vs g1.ok hm) q1⟩⟩⟩
end
def pI (C:Int -> Int -> Prop) (f:Int -> Int -> PV):P2:=λx y Q=>match x,y with
 | .int i,.int j=>C i j /\ Q (f i j)
 | _,_=>False
def pI0 (f:Int -> Int -> PV):P2:=λx y Q=>match x,y with
 | .int i,.int j=>Q (f i j)
 | _,_=>False
def pU (f:Int -> PV):PV -> (PV -> Prop) -> Prop:=λx Q=>match x with
 | .int i=>Q (f i)
 | _=>False
theorem XI {C:Int -> Int -> Prop} {f:Int -> Int -> Int}:SimOp (rI C λi j=>.int (f i j)) (.v .fl) (pI C λi j=>.int (f i j)):=⟨λB W H x y px py Q K w rx ry q k=>by
 cases px with
 | int i=>cases py with
  | int j=>exact ⟨i,j,rx.ofInt,ry.ofInt,q.1,k.atom w (.int _) q.2⟩
  | _=>exact q.elim
 | _=>exact q.elim⟩
theorem S9 {f:Int -> Int -> Int}:SimOp (BN λi j=>.int (f i j)) (.v .fl) (pI0 λi j=>.int (f i j)):=⟨λB W H x y px py Q K w rx ry q k=>by
 cases px with
 | int i=>cases py with
  | int j=>exact ⟨i,j,rx.ofInt,ry.ofInt,k.atom w (.int _) q⟩
  | _=>exact q.elim
 | _=>exact q.elim⟩
theorem K6 {f:Int -> Int -> Bool}:SimOp (BN λi j=>.bl (f i j)) (.v .fl) (pI0 λi j=>.bl (f i j)):=⟨λB W H x y px py Q K w rx ry q k=>by
 cases px with
 | int i=>cases py with
  | int j=>exact ⟨i,j,rx.ofInt,ry.ofInt,k.atom w (.bl _) q⟩
  | _=>exact q.elim
 | _=>exact q.elim⟩
def pAddS:P2:=λx y Q=>match x,y with
 | .str i,.str j=>i.length + j.length <= sizeLine /\ Q (.str (i ++ j))
 | _,_=>False
theorem HQ:SimOp RR (.v .fl) pAddS:=⟨λB W H x y px py Q K w rx ry q k=>by
 cases px with
 | str i=>cases py with
  | str j=>exact ⟨i,j,rx.ofStr,ry.ofStr,q.1,k.atom w (.str _) q.2⟩
  | _=>exact q.elim
 | _=>exact q.elim⟩
def a4W:P2:=λx y Q=>match y with
 | .lst ys=>x.dep < 1000 /\ PV.deps ys <= 60 /\ Q (.bl (ys.any λz=>z.eqB x))
 | .tup ys=>x.dep < 1000 /\ PV.deps ys <= 60 /\ Q (.bl (ys.any λz=>z.eqB x))
 | _=>False
theorem a14:SimOp (a0T false) (.v .fl) a4W:=⟨λB W H x y px py Q K w rx ry q k=>by
 cases py with
 | lst ys=>exact ⟨_,_,px,ys,rx,.inl ry,q.1,q.2.1,k.atom w (.bl _) q.2.2⟩
 | tup ys=>exact ⟨_,_,px,ys,rx,.inr ry,q.1,q.2.1,k.atom w (.bl _) q.2.2⟩
 | _=>exact q.elim⟩
def PV.isNon:PV -> Bool
 | .non=>true
 | _=>false
def pIsN:P2:=λx y Q=>match y with
 | .non=>Q (.bl x.isNon)
 | _=>False
def pNotN:P2:=λx y Q=>match y with
 | .non=>Q (.bl (!x.isNon))
 | _=>False
theorem L1 {G:Addr -> Prop} {H:Hp} {x:V} {px:PV} (r:Rep G H x px):decide (x = .non) = px.isNon:=by
 cases r <;> first | rfl | exact a1f (by intro z;cases z)
theorem WC:SimOp a0U (.v .fl) pIsN:=⟨λB W H x y px py Q K w rx ry q k=>by
 cases py with
 | non=>exact ⟨ry.ofNon,by rw [L1 rx];exact k.atom w (.bl _) q⟩
 | _=>exact q.elim⟩
theorem AZ:SimOp RX (.v .fl) pNotN:=⟨λB W H x y px py Q K w rx ry q k=>by
 cases py with
 | non=>exact ⟨ry.ofNon,by rw [L1 rx];exact k.atom w (.bl _) q⟩
 | _=>exact q.elim⟩
def cS:P2:=λx y Q=>match x,y with
 | .lst xs,.int i=>(match lD xs i with
  | some z=>Q z
  | none=>False)
 | .tup xs,.int i=>(match lD xs i with
  | some z=>Q z
  | none=>False)
 | .str s,.int i=>(match lD s.cps.toList i with
  | some c=>s.length <= sizeLine /\ Q (.str ⟨#[c]⟩)
  | none=>False)
 | _,_=>False
theorem eZ {xs:List PV} {i:Int} {z:PV} {Q:PV -> Prop} (h:lD xs i = some z) (q:Q z):cS (.lst xs) (.int i) Q:=by unfold cS;simp only [h];exact q
theorem kD {xs:List PV} {i:Int} {z:PV} {Q:PV -> Prop} (h:lD xs i = some z) (q:Q z):cS (.tup xs) (.int i) Q:=by unfold cS;simp only [h];exact q
theorem XB {s:Str} {i:Int} {c:Nat} {Q:PV -> Prop} (h:lD s.cps.toList i = some c) (hl:s.length <= sizeLine) (q:Q (.str ⟨#[c]⟩)):cS (.str s) (.int i) Q:=by unfold cS;simp only [h];exact ⟨hl,q⟩
theorem F4 {G:Addr -> Prop} {H:Hp} {vs:List V} {xs:List PV} (r:Reps G H vs xs) {i:Int} {z:PV} (e:lD xs i = some z):∃ v,lD vs i = some v /\ Rep G H v z:=by
 unfold lD at e ⊢
 rw [r.len]
 cases h:yR xs.length i with
 | none=>rw [h] at e;cases e
 | some j=>rw [h] at e;exact r.get e
theorem RepP.ofList {G S:Addr -> Prop} {H:Hp} {v:V} {xs:List PV} (r:RepP G S H v (.lst xs)):∃ a vs,v = .ref a /\ H a = some (.lst vs) /\ Reps G H vs xs:=by
 rcases r with r | ⟨a,o,rfl,_,e,b⟩
 ·obtain ⟨a,vs,e1,_,e2,r⟩:=r.ofList;exact ⟨a,vs,e1,e2,r⟩
 ·cases b with
  | lst h=>exact ⟨a,_,rfl,e,h⟩
theorem RepP.ofTup {G S:Addr -> Prop} {H:Hp} {v:V} {xs:List PV} (r:RepP G S H v (.tup xs)):∃ a vs,v = .ref a /\ H a = some (.tup vs) /\ Reps G H vs xs:=by
 rcases r with r | ⟨a,o,rfl,_,e,b⟩
 ·exact r.ofTup
 ·cases b
theorem RepP.ofDic {G S:Addr -> Prop} {H:Hp} {v:V} {ks:List cK} {xs:List PV} (r:RepP G S H v (.dic ks xs)):∃ a vs,v = .ref a /\ H a = some (.dK (ks.zip vs)) /\ ks.length = vs.length /\ Reps G H vs xs:=by
 rcases r with r | ⟨a,o,rfl,_,e,b⟩
 ·obtain ⟨a,vs,e1,_,e2,e3,r⟩:=r.ofDic;exact ⟨a,vs,e1,e2,e3,r⟩
 ·cases b with
  | dic l h=>exact ⟨a,_,rfl,e,l,h⟩
theorem RepP.ofStr {G S:Addr -> Prop} {H:Hp} {v:V} {s:Str} (r:RepP G S H v (.str s)):v = .str s:=by
 rcases r with r | ⟨a,o,rfl,_,e,b⟩
 ·exact r.ofStr
 ·cases b
section
variable {X:Cx} {md:List Md} {a b c e:Expr} {es:List Expr} {pa pb pc pe:b8} {m:Md} {el:El} {pos p:Pos}
theorem aL (ha:VE X md a (.p el) pa) (hb:VE X md b .bw pb) (hp:∀ o i,subscripted b false o i = operate [o,i] (getItem o i)):VE X md (.Subscript a b pos) (.v el) (pOp cS pa pb) :=
 ⟨(XD Z8 ha.h hb.h hp).imp λσ H K=>by
  rintro ⟨env,W0,H0,W,Q,R,q,k⟩
  refine ⟨env,W0,H0,W,_,R,q,λx v W1 H1 g1 r1 q1=>⟨env,W0,H0,W1,_,R.step g1,q1,λy u W2 H2 g2 r2 q2=>?_⟩⟩
  have r1':RepP (el.G W2.F H0) W2.S H2 v x:=ResE.go (m:=.p el) r1 g1.ok g2
  have k2:=k.after (g1.trans g2)
  unfold cS at q2
  cases y with
  | int i =>
   have hy:=Rep.ofInt r2
   subst hy
   cases x with
   | lst xs =>
    dsimp only at q2
    obtain ⟨a,vs,rfl,e,r⟩:=r1'.ofList
    cases h:lD xs i with
    | none=>rw [h] at q2;exact q2.elim
    | some z =>
     rw [h] at q2
     obtain ⟨w,e1,e2⟩:=F4 r h
     exact .inl ⟨a,vs,i,w,rfl,rfl,fN.of e,e1,k2.val g2.ok e2 q2⟩
   | tup xs =>
    dsimp only at q2
    obtain ⟨a,vs,rfl,e,r⟩:=r1'.ofTup
    cases h:lD xs i with
    | none=>rw [h] at q2;exact q2.elim
    | some z =>
     rw [h] at q2
     obtain ⟨w,e1,e2⟩:=F4 r h
     exact .inr (.inl ⟨a,vs,i,w,rfl,rfl,mF.of e,e1,k2.val g2.ok e2 q2⟩)
   | str s =>
    dsimp only at q2
    cases h:lD s.cps.toList i with
    | none=>rw [h] at q2;exact q2.elim
    | some c =>
     rw [h] at q2
     exact .inr (.inr ⟨s,i,c,r1'.ofStr,rfl,q2.1,h,k2.val g2.ok (.str _) q2.2⟩)
   | _=>exact q2.elim
  | _=>cases x <;> exact q2.elim⟩
abbrev OJ:=bY -> (Option Int -> Prop) -> Prop
def a2N (K':PySem.W.Frag) (md:List Md) (p:OJ):TO:=λσ H K=>∃ (env:bY) (W0:Wd) (H0:Hp) (W:Wd) (Q:Option Int -> Prop),Rl K' md W0 H0 W σ env H /\ p env Q /\ ∀ (o:Option Int) (W':Wd) (H':Hp),Go W H W' H' -> Q o -> K o H'
structure VO (X:Cx) (md:List Md) (e:Option Expr) (p:OJ):Prop where
 h:PO X e (a2N X.K md p)
def pNoPart:OJ:=λ_ Q=>Q none
def pPart (a:b8):OJ:=λenv Q=>a env λx=>match x with
 | .int i=>Q (some i)
 | _=>False
theorem PO.imp {eo:Option Expr} {t t':TO} (h:PO X eo t) (k:∀ σ H K,t' σ H K -> t σ H K):PO X eo t':=λpins s σ H Q I q=>h pins s σ H Q I (k σ H Q q)
theorem WW:VO X md none pNoPart:=⟨VC.imp λσ H K=>by
 rintro ⟨env,W0,H0,W,Q,R,q,k⟩
 exact k none W H (Go.refl R.ok) q⟩
theorem vJ (h:VE X md e .bw pe):VO X md (some e) (pPart pe):=⟨(VD h.h).imp λσ H K=>by
 rintro ⟨env,W0,H0,W,Q,R,q,k⟩
 refine ⟨env,W0,H0,W,_,R,q,λx v W1 H1 g1 r1 q1=>?_⟩
 cases x with
 | int i=>exact ⟨i,Rep.ofInt r1,k _ W1 H1 g1 q1⟩
 | _=>exact q1.elim⟩
def FD {α:Type} (xs:List α) (lo hi:Option Int):List α:=(xs.drop (HT.sIx xs.length 0 lo)).take (HT.sIx xs.length xs.length hi - HT.sIx xs.length 0 lo)
theorem Reps.cut {G:Addr -> Prop} {H:Hp} {vs:List V} {xs:List PV} (r:Reps G H vs xs) (lo hi:Option Int):Reps G H (FE vs lo hi) (FD xs lo hi):=by
 unfold FE FD
 rw [r.len]
 exact (r.drop _).take _
def pSlL (x:PV) (lo hi:Option Int) (Q:PV -> Prop):Prop:=match x with
 | .lst xs=>Q (.lst (FD xs lo hi))
 | _=>False
def pSlT (x:PV) (lo hi:Option Int) (Q:PV -> Prop):Prop:=match x with
 | .tup xs=>¬ (HT.sIx xs.length 0 lo = 0 /\ HT.sIx xs.length xs.length hi = xs.length) /\ Q (.tup (FD xs lo hi))
 | _=>False
def pSlice (r:PV -> Option Int -> Option Int -> (PV -> Prop) -> Prop) (a:b8) (lo hi:OJ):b8:=λenv Q=>a env λx=>lo env λl=>hi env λh=>r x l h Q
theorem B0 {m1:Md} {r:V -> Option Int -> Option Int -> Hp -> VK -> Prop} {pr:PV -> Option Int -> Option Int -> (PV -> Prop) -> Prop} {lo hi:Option Expr} {pl ph:OJ} {p2:Pos} (hr:QL X r) (he:VE X md e m1 pe) (hl:VO X md lo pl) (hu:VO X md hi ph)
  (hs:∀ (B H0:Hp) (W:Wd) (H:Hp) (v:V) (x:PV) (l h:Option Int) (Q:PV -> Prop) (K:VK),Wok W H -> ResE B H0 W H m1 v x -> pr x l h Q -> mL B W H m Q K -> r v l h H K):VE X md (.Subscript e (.Slice lo hi none p2) pos) m (pSlice pr pe pl ph) :=
 ⟨(R9 hr.h he.h hl.h hu.h).imp λσ H K=>by
  rintro ⟨env,W0,H0,W,Q,R,q,k⟩
  refine ⟨env,W0,H0,W,_,R,q,λx v W1 H1 g1 r1 q1=>⟨env,W0,H0,W1,_,R.step g1,q1,λl W2 H2 g2 q2=>⟨env,W0,H0,W2,_,(R.step g1).step g2,q2,λh W3 H3 g3 q3=>?_⟩⟩⟩
  exact hs H0 H W3 H3 v x l h Q K g3.ok ((r1.go g1.ok g2).go g2.ok g3) q3 (k.after ((g1.trans g2).trans g3))⟩
theorem a1M {lo hi:Option Expr} {pl ph:OJ} {p2:Pos} (he:VE X md e (.p el) pe) (hl:VO X md lo pl) (hu:VO X md hi ph):VE X md (.Subscript e (.Slice lo hi none p2) pos) (.o el) (pSlice pSlL pe pl ph) :=
 B0 VR he hl hu λB H0 W H v x l h Q K w r q k=>by
  cases x with
  | lst xs =>
   obtain ⟨a,vs,rfl,e,rs⟩:=RepP.ofList r
   exact ⟨a,vs,rfl,fN.of e,λp hp=>k.newL w hp (rs.cut l h) q⟩
  | _=>exact q.elim
theorem SU {lo hi:Option Expr} {pl ph:OJ} {p2:Pos} (he:VE X md e (.p el) pe) (hl:VO X md lo pl) (hu:VO X md hi ph):VE X md (.Subscript e (.Slice lo hi none p2) pos) (.v el) (pSlice pSlT pe pl ph) :=
 B0 a0Q he hl hu λB H0 W H v x l h Q K w r q k=>by
  cases x with
  | tup xs =>
   obtain ⟨a,vs,rfl,e,rs⟩:=RepP.ofTup r
   exact ⟨a,vs,rfl,mF.of e,by rw [rs.len];exact q.1,λp hp=>k.newT w hp (rs.cut l h) q.2⟩
  | _=>exact q.elim
def pCat:P2:=λx y Q=>match x,y with
 | .lst xs,.lst ys=>xs.length + ys.length <= sizeLine /\ Q (.lst (xs ++ ys))
 | _,_=>False
theorem B4 (ha:VE X md a (.p el) pa) (hb:VE X md b (.p el) pb):VE X md (.BinOp a .Add b pos) (.o el) (pOp pCat pa pb) :=
 ⟨(GV ZV ha.h hb.h).imp λσ H K=>by
  rintro ⟨env,W0,H0,W,Q,R,q,k⟩
  refine ⟨env,W0,H0,W,_,R,q,λx v W1 H1 g1 r1 q1=>⟨env,W0,H0,W1,_,R.step g1,q1,λy u W2 H2 g2 r2 q2=>?_⟩⟩
  have k2:=k.after (g1.trans g2)
  have r1':RepP (el.G W2.F H0) W2.S H2 v x:=ResE.go (m:=.p el) r1 g1.ok g2
  cases x with
  | lst xs=>cases y with
   | lst ys =>
    obtain ⟨a,vs,rfl,e,rs⟩:=r1'.ofList
    obtain ⟨b,us,rfl,e',rs'⟩:=RepP.ofList r2
    exact ⟨a,b,vs,us,rfl,rfl,e,e',by rw [rs.len,rs'.len];exact q2.1,λp hp=>k2.newL g2.ok hp (rs.append rs') q2.2⟩
   | _=>exact q2.elim
  | _=>exact q2.elim⟩
def pRep:P2:=λx y Q=>match x,y with
 | .lst xs,.int k=>-(2 ^ 63) <= k /\ k < 2 ^ 63 /\ xs.length * k.toNat <= sizeLine /\ Q (.lst (List.replicate k.toNat xs).flatten)
 | _,_=>False
theorem KC (ha:VE X md a (.p el) pa) (hb:VE X md b .bw pb):VE X md (.BinOp a .Mult b pos) (.o el) (pOp pRep pa pb) :=
 ⟨(GV a01 ha.h hb.h).imp λσ H K=>by
  rintro ⟨env,W0,H0,W,Q,R,q,k⟩
  refine ⟨env,W0,H0,W,_,R,q,λx v W1 H1 g1 r1 q1=>⟨env,W0,H0,W1,_,R.step g1,q1,λy u W2 H2 g2 r2 q2=>?_⟩⟩
  have k2:=k.after (g1.trans g2)
  have r1':RepP (el.G W2.F H0) W2.S H2 v x:=ResE.go (m:=.p el) r1 g1.ok g2
  cases x with
  | lst xs=>cases y with
   | int n =>
    obtain ⟨a,vs,rfl,e,rs⟩:=r1'.ofList
    have hu:=Rep.ofInt r2
    subst hu
    exact ⟨a,n,vs,rfl,rfl,e,q2.1,q2.2.1,by rw [rs.len];exact q2.2.2.1,λp hp=>k2.newL g2.ok hp (rs.rep _) q2.2.2.2⟩
   | _=>exact q2.elim
  | _=>exact q2.elim⟩
structure SimC (r:List V -> Hp -> VK -> Prop) (ms:List Md) (m:Md) (pr:PN):Prop where
 h:∀ (B H0:Hp) (W:Wd) (H:Hp) (vs:List V) (xs:List PV) (Q:PV -> Prop) (K:VK),Wok W H -> ResEs B H0 W H ms vs xs -> pr xs Q -> mL B W H m Q K -> r vs H K
theorem UX {K':PySem.W.Frag} {r:List V -> Hp -> VK -> Prop} {ms:List Md} {pr:PN} {pt:tM} (hs:SimC r ms m pr) {σ:St} {H:Hp} {K:VK} (h:i9 K' md m (pCl pr pt) σ H K):XJ r (X8 K' md ms pt) σ H K:=by
 obtain ⟨env,W0,H0,W,Q,R,q,k⟩:=h
 exact ⟨env,W0,H0,W,_,R,q,λxs vs W1 H1 g1 r1 q1=>hs.h H0 H W1 H1 vs xs Q K g1.ok r1 q1 (k.after g1)⟩
theorem bW {id:String} {x:Str} {r:List V -> Hp -> VK -> Prop} {ms:List Md} {pr:PN} {pt:tM} (hc:QC X (.builtin id) r) (hs:SimC r ms m pr) (hg:X.env.scope.names.lookup x = some .globalImplicit) (hm:X.mg x = none) (hv:bootBuiltins x = some (.builtin id)) (ha:VA X md (e :: es) ms pt) (hn:x ≠ "__name__") (hdb:(x == ("__debug__" : Str)) = false)
  (he:starEach (e :: es) X.env = (false,eval e X.env) :: starEach es X.env:=by rfl) (hpl:(backTo pos (starEach es X.env)).any (·.1) = false:=by rfl):VE X md (.Call (.Name x p) (e :: es) [] pos) m (pCl pr pt):=⟨(pL hc.h hg hm hv ha.h hn hdb he hpl).imp λ_ _ _ h=>UX hs h⟩
theorem ResEs.one {B H H':Hp} {W:Wd} {m:Md} {vs:List V} {xs:List PV} (r:ResEs B H W H' [m] vs xs):∃ v x,vs = [v] /\ xs = [x] /\ ResE B H W H' m v x:=by
 cases r with
 | cons h t=>cases t;exact ⟨_,_,rfl,rfl,h⟩
theorem ResEs.two {B H H':Hp} {W:Wd} {m n:Md} {vs:List V} {xs:List PV} (r:ResEs B H W H' [m,n] vs xs):∃ v x u y,vs = [v,u] /\ xs = [x,y] /\ ResE B H W H' m v x /\ ResE B H W H' n u y:=by
 cases r with
 | cons h t=>obtain ⟨u,y,rfl,rfl,h2⟩:=t.one;exact ⟨_,_,_,_,rfl,rfl,h,h2⟩
def pLen:PN:=λxs Q=>match xs with
 | [.lst ys]=>Q (.int ys.length)
 | [.tup ys]=>Q (.int ys.length)
 | [.str s]=>s.length <= sizeLine /\ Q (.int s.length)
 | _=>False
def XG (K':PySem.W.Frag):List V -> Hp -> VK -> Prop:=λxs H Q=>∃ x n,xs = [x] /\ a1V K' x H n /\ Q (.int n) H
theorem iW:QC X (.builtin "len") (XG X.K):=⟨OY⟩
theorem jR {K':PySem.W.Frag}:SimC (XG K') [.bw] (.v .fl) pLen:=⟨λB H0 W H vs xs Q K w r q k=>by
 obtain ⟨v,x,rfl,rfl,r1⟩:=r.one
 clear r
 have r:Rep (λa=>¬ W.S a) H v x:=r1
 unfold pLen at q
 cases x with
 | lst ys =>
  obtain ⟨a,vs,rfl,_,e,rs⟩:=r.ofList
  exact ⟨.ref a,vs.length,rfl,.inl ⟨vs,fN.of e,rfl⟩,by rw [rs.len];exact k.atom w (.int _) q⟩
 | tup ys =>
  obtain ⟨a,vs,rfl,e,rs⟩:=r.ofTup
  exact ⟨.ref a,vs.length,rfl,.inr ⟨vs,mF.of e,rfl⟩,by rw [rs.len];exact k.atom w (.int _) q⟩
 | str s=>exact ⟨v,s.length,rfl,by rw [r.ofStr];exact ⟨q.1,rfl⟩,k.atom w (.int _) q.2⟩
 | _=>exact q.elim⟩
def pLenScr:PN:=λxs Q=>match xs with
 | [.scr ns]=>Q (.int ns.length)
 | _=>False
theorem O3 {pt:tM} (hg:X.env.scope.names.lookup ("len" : Str) = some .globalImplicit) (hm:X.mg "len" = none) (hv:bootBuiltins "len" = some (.builtin "len")) (ha:VA X md [e] [.scr] pt)
  (he:starEach [e] X.env = (false,eval e X.env) :: starEach [] X.env:=by rfl) (hpl:(backTo pos (starEach [] X.env)).any (·.1) = false:=by rfl):VE X md (.Call (.Name "len" p) [e] [] pos) (.v .fl) (pCl pLenScr pt):=⟨(pL (iW).h hg hm hv ha.h (by decide) (by decide) he hpl).imp λσ H K h=>by
 obtain ⟨env,W0,H0,W,Q,R,q,k⟩:=h
 refine ⟨env,W0,H0,W,_,R,q,λxs vs W1 H1 g1 r1 q1=>?_⟩
 obtain ⟨v,x,rfl,rfl,r⟩:=r1.one
 obtain ⟨a,ns,rfl,rfl,sc⟩:=r
 refine ⟨.ref a,ns.length,rfl,.inl ⟨ns.map V.int,by have:=sc.sq;rw [(R.step g1).kk] at this;exact this,by simp⟩,(k.after g1).atom g1.ok (.int _) q1⟩⟩
def pMax2:PN:=λxs Q=>match xs with
 | [.int i,.int j]=>Q (.int (max i j))
 | _=>False
def pMin2:PN:=λxs Q=>match xs with
 | [.int i,.int j]=>Q (.int (min i j))
 | _=>False
theorem HR:SimC HB [.bw,.bw] (.v .fl) pMax2:=⟨λB H0 W H vs xs Q K w r q k=>by
 obtain ⟨v,x,u,y,rfl,rfl,r1,r2⟩:=r.two
 cases x with
 | int i=>cases y with
  | int j =>
   refine ⟨i,j,by rw [Rep.ofInt r1,Rep.ofInt r2],?_⟩
   have:(if j > i then j else i) = max i j:=by rw [Int.max_def];split <;> split <;> omega
   rw [this];exact k.atom w (.int _) q
  | _=>exact q.elim
 | _=>exact q.elim⟩
theorem HS:SimC RW [.bw,.bw] (.v .fl) pMin2:=⟨λB H0 W H vs xs Q K w r q k=>by
 obtain ⟨v,x,u,y,rfl,rfl,r1,r2⟩:=r.two
 cases x with
 | int i=>cases y with
  | int j =>
   refine ⟨i,j,by rw [Rep.ofInt r1,Rep.ofInt r2],?_⟩
   have:(if j < i then j else i) = min i j:=by rw [Int.min_def];split <;> split <;> omega
   rw [this];exact k.atom w (.int _) q
  | _=>exact q.elim
 | _=>exact q.elim⟩
def PV.ints:List PV -> Option (List Int)
 | []=>some []
 | .int i :: xs=>(PV.ints xs).map (i :: ·)
 | _=>none
theorem PV.ints_map:∀ (ns:List Int),PV.ints (ns.map PV.int) = some ns
 | []=>rfl
 | n :: ns=>by rw [a0f,PV.ints,PV.ints_map ns];rfl
theorem PV.ints_of:∀ {xs:List PV} {ns:List Int},PV.ints xs = some ns -> xs = ns.map PV.int
 | [],ns,h=>by cases h;rfl
 | .int i :: xs,ns,h=>by
  rw [PV.ints] at h
  cases h2:PV.ints xs with
  | none=>rw [h2] at h;cases h
  | some ms=>rw [h2] at h;cases h;rw [PV.ints_of h2];rfl
 | .non :: _,_,h=>by cases h
 | .bl _ :: _,_,h=>by cases h
 | .str _ :: _,_,h=>by cases h
 | .ty _ :: _,_,h=>by cases h
 | .st :: _,_,h=>by cases h
 | .scr _ :: _,_,h=>by cases h
 | .set _ _ :: _,_,h=>by cases h
 | .lst _ :: _,_,h=>by cases h
 | .tup _ :: _,_,h=>by cases h
 | .dic _ _ :: _,_,h=>by cases h
theorem Reps.ints {G:Addr -> Prop} {H:Hp} {vs:List V} {ns:List Int} (r:Reps G H vs (ns.map PV.int)):vs = ns.map V.int:=by
 refine List.ext_getElem? λi=>?_
 cases h:vs[i]? with
 | none =>
  rw [a0h,a2a];rfl
  have:=List.getElem?_eq_none_iff.mp h
  have:=r.len
  simp at this;omega
 | some v =>
  obtain ⟨x,e,rx⟩:=r.getV h
  rw [a0h] at e ⊢
  cases h2:ns[i]? with
  | none=>rw [h2] at e;cases e
  | some n=>rw [h2] at e;cases e;rw [rx.ofInt];rfl
def yN:PN:=λxs Q=>match xs with
 | [.lst ys]=>(match PV.ints ys with
  | some ns=>Q (.int ns.sum)
  | none=>False)
 | _=>False
theorem E8 {ns:List Int} {Q:PV -> Prop} (q:Q (.int ns.sum)):yN [.lst (ns.map PV.int)] Q:=by unfold yN;simp only [PV.ints_map];exact q
theorem yU:SimC a0X [.bw] (.v .fl) yN:=⟨λB H0 W H vs xs Q K w r q k=>by
 obtain ⟨v,x,rfl,rfl,r1⟩:=r.one
 clear r
 have r:=r1
 unfold yN at q
 cases x with
 | lst ys =>
  dsimp only at q
  cases h:PV.ints ys with
  | none=>rw [h] at q;exact q.elim
  | some ns =>
   rw [h] at q
   rw [PV.ints_of h] at r
   obtain ⟨a,vs,rfl,_,e,rs⟩:=Rep.ofList r
   rw [rs.ints] at e
   exact ⟨a,ns,rfl,e,k.atom w (.int _) q⟩
 | _=>exact q.elim⟩
def nZ:List Int -> List Int:=λns=>ns.mergeSort (λa b=>decide (a <= b))
theorem cT (ns:List Int):(nZ ns).Perm ns:=List.mergeSort_perm _ _
theorem mZ (ns:List Int):(nZ ns).Pairwise (· <= ·):=by
 have:=List.pairwise_mergeSort (le:=λ(a b:Int)=>decide (a <= b)) (λa b c=>by simp;omega) (λa b=>by simp;omega) ns
 exact this.imp λh=>by simpa using h
theorem rG:∀ {as bs:List Int},as.Perm bs -> as.Pairwise (· <= ·) -> bs.Pairwise (· <= ·) -> as = bs:=λh1 h2 h3=>h1.eq_of_pairwise (λa b _ _ h1 h2=>Int.le_antisymm h1 h2) h2 h3
theorem qF {G:Addr -> Prop} {H:Hp} (ns:List Int):Reps G H (ns.map V.int) (ns.map PV.int):=⟨by simp,λi v x e1 e2=>by
 rw [a0h] at e1 e2
 cases h:ns[i]? with
 | none=>rw [h] at e1;cases e1
 | some n=>rw [h] at e1 e2;cases e1;cases e2;exact .int _⟩
end
structure PEnds where
 nx:bY -> Prop
 rt:PV -> Prop
 bk:bY -> Prop:=λ_=>False
 ct:bY -> Prop:=λ_=>False
abbrev bP:=PEnds -> bY -> Prop
structure Ex (W:Wd) (H:Hp) (W':Wd) (H':Hp):Prop where
 lF:∀ a,W.F a -> W'.F a
 kp:∀ a o,W.F a -> H a = some o -> H' a = some o
 im:∀ a o,o.imm = true -> H a = some o -> H' a = some o
section
variable {W W' W1 W2:Wd} {H H' H1 H2:Hp}
theorem Ex.refl:Ex W H W H:=⟨λ_ h=>h,λ_ _ _ h=>h,λ_ _ _ h=>h⟩
theorem Ex.trans (a:Ex W H W1 H1) (b:Ex W1 H1 W2 H2):Ex W H W2 H2:=⟨λx h=>b.lF x (a.lF x h),λx o h e=>b.kp x o (a.lF x h) (a.kp x o h e),λx o i e=>b.im x o i (a.im x o i e)⟩
theorem Go.ex (g:Go W H W' H') (w:Wok W H):Ex W H W' H':=⟨g.lF,λa o f e=>g.kp a o e (w.dj a f),λa o i e=>g.kp a o e (w.imm e i)⟩
theorem Ex.rep (x:Ex W H W' H') {G G':Addr -> Prop} (hF:∀ a,G a -> W.F a) (hG:∀ a,G a -> G' a) {v:V} {p:PV} (r:Rep G H v p):Rep G' H' v p:=r.mono hG λa o h e=>h.elim (λg=>x.kp a o (hF a g) e) λi=>x.im a o i e
end
structure Lnk (K:PySem.W.Frag) (mn lm:List Md) (rm:Md) (W0:Wd) (H0:Hp) (W:Wd) (H:Hp) (E:PEnds) (D:Ends):Prop where
 nx:∀ (env:bY) (W':Wd) (σ:St) (H':Hp),Rl K mn W0 H0 W' σ env H' -> Ex W H W' H' -> E.nx env -> D.nx σ H'
 rt:∀ (x:PV) (v:V) (W':Wd) (H':Hp),Go W0 H0 W' H' -> ResE H0 H0 W' H' rm v x -> E.rt x -> D.rt v H'
 bk:∀ (env:bY) (W':Wd) (σ:St) (H':Hp),Rl K lm W0 H0 W' σ env H' -> Ex W H W' H' -> E.bk env -> D.bk σ H'
 ct:∀ (env:bY) (W':Wd) (σ:St) (H':Hp),Rl K lm W0 H0 W' σ env H' -> Ex W H W' H' -> E.ct env -> D.ct σ H'
theorem Lnk.after {K:PySem.W.Frag} {mn lm:List Md} {rm:Md} {W0 W W1:Wd} {H0 H H1:Hp} {E:PEnds} {D:Ends} (l:Lnk K mn lm rm W0 H0 W H E D) (x:Ex W H W1 H1):Lnk K mn lm rm W0 H0 W1 H1 E D :=
 ⟨λe W' s H' r y=>l.nx e W' s H' r (x.trans y),l.rt,λe W' s H' r y=>l.bk e W' s H' r (x.trans y),λe W' s H' r y=>l.ct e W' s H' r (x.trans y)⟩
def L9 (K:PySem.W.Frag) (md mn lm:List Md) (rm:Md) (p:bP):TS:=λD σ H=>∃ (env:bY) (W0:Wd) (H0:Hp) (W:Wd) (E:PEnds),Rl K md W0 H0 W σ env H /\ p E env /\ Lnk K mn lm rm W0 H0 W H E D
structure VS (X:Cx) (md mn lm:List Md) (rm:Md) (s:Stmt) (p:bP):Prop where
 h:PS X s (L9 X.K md mn lm rm p)
structure VSs (X:Cx) (md mn lm:List Md) (rm:Md) (s:List Stmt) (p:bP):Prop where
 h:BZ X s (L9 X.K md mn lm rm p)
theorem PS.imp {X:Cx} {s:Stmt} {t t':TS} (h:PS X s t) (k:∀ D σ H,t' D σ H -> t D σ H):PS X s t':=λpins s σ H D I q=>h pins s σ H D I (k D σ H q)
theorem BZ.imp {X:Cx} {s:List Stmt} {t t':TS} (h:BZ X s t) (k:∀ D σ H,t' D σ H -> t D σ H):BZ X s t':=λpins s σ H D I q=>h pins s σ H D I (k D σ H q)
def pNext:bP:=λE env=>E.nx env
def pSeq (p q:bP):bP:=λE env=>p { E with nx:=q E } env
def pIfS (c:jB) (a b:bP):bP:=λE env=>c env λk=>Br k (a E env) (b E env)
def pRet (a:b8):bP:=λE env=>a env E.rt
def pSet (i:Nat) (a:b8):bP:=λE env=>a env λx=>E.nx (kE env i (some x))
section
variable {X:Cx} {md m1 mn lm:List Md} {rm m:Md} {el:El} {s:Stmt} {ss th el':List Stmt} {p q:bP} {e c:Expr} {pe:b8} {pc:jB} {pos:Pos} {i:Nat}
theorem aW:VSs X md md lm rm [] pNext:=⟨LK.imp λD σ H=>by
 rintro ⟨env,W0,H0,W,E,R,q,l⟩
 exact l.nx env W σ H R .refl q⟩
theorem a9 (h1:VS X md m1 lm rm s p) (h2:VSs X m1 mn lm rm ss q):VSs X md mn lm rm (s :: ss) (pSeq p q):=⟨(GX h1.h h2.h).imp λD σ H=>by
 rintro ⟨env,W0,H0,W,E,R,q,l⟩
 exact ⟨env,W0,H0,W,_,R,q,λe W' s H' r x z=>⟨e,W0,H0,W',E,r,z,l.after x⟩,l.rt,l.bk,l.ct⟩⟩
theorem aX (h1:VS X md mn lm rm s p):VSs X md mn lm rm [s] p:=⟨LL h1.h⟩
theorem rJ (hc:VT X md c pc) (ha:VSs X md mn lm rm th p) (hb:VSs X md mn lm rm el' q):VS X md mn lm rm (.If c th el' pos) (pIfS pc p q):=⟨(XF hc.h ha.h hb.h).imp λD σ H=>by
 rintro ⟨env,W0,H0,W,E,R,q,l⟩
 refine ⟨env,W0,H0,W,_,R,q,λk W1 H1 g1 q1=>?_⟩
 cases k with
 | true=>rw [if_pos rfl];exact ⟨env,W0,H0,W1,E,R.step g1,q1,l.after (g1.ex R.ok)⟩
 | false=>rw [if_neg a0j];exact ⟨env,W0,H0,W1,E,R.step g1,q1,l.after (g1.ex R.ok)⟩⟩
theorem cB (he:VE X md e m pe) (hm:m.le rm = true):VS X md mn lm rm (.Return (some e) pos) (pRet pe):=⟨(JR he.h).imp λD σ H=>by
 rintro ⟨env,W0,H0,W,E,R,q,l⟩
 exact ⟨env,W0,H0,W,_,R,q,λx v W1 H1 g1 r1 q1=>l.rt x v W1 H1 (R.go.trans g1) ((ResE.base R.go r1).le g1.ok hm) q1⟩⟩
theorem vK {x:Str} {p:Pos} (he:QE X (.Name x p) (gH i)) (hi:md.getD i .no = .o el) (hm:(Md.o el).le rm = true):VS X md mn lm rm (.Return (some (.Name x p)) pos) (pRet (pVar i)):=⟨(JR he.h).imp λD σ H=>by
 rintro ⟨env,W0,H0,W,E,R,q,l⟩
 unfold pRet pVar at q
 rw [nJ] at q
 cases e:env[i]? with
 | none=>rw [e] at q;exact q.elim
 | some o =>
  cases o with
  | none=>rw [e] at q;exact q.elim
  | some x =>
   rw [e] at q
   obtain ⟨v,s,r⟩:=R.slot i x e
   rw [hi] at r
   exact ⟨v,s,l.rt x v W H R.go (r.le R.ok hm) q⟩⟩
theorem b4 {x:Str} {pos':Pos} (hN:X.N.Nodup) (hi:X.N[i]? = some x) (hx:O6 X.env.scope x) (hs:swapsWith e (some (.Name x pos')) pos.line X.env = pure false) (hf:X.fn x = true \/ X.env.scope.names.lookup x = some .local)
  (he:VE X md e m pe) (hm:m4 (md.set i m) = true) (hl:i < md.length):VS X md (md.set i m) lm rm (.Assign [.Name x pos'] e pos) (pSet i pe):=⟨(RG hN hi hx he.h hs hf).imp λD σ H=>by
 rintro ⟨env,W0,H0,W,E,R,q,l⟩
 refine ⟨env,W0,H0,W,_,R,q,λx v W1 H1 g1 r1 q1=>?_⟩
 rw [fX] at q1
 exact l.nx _ W1 _ H1 (R.set g1 r1 hm hl) (g1.ex R.ok) q1⟩
theorem EJ {K:PySem.W.Frag} {W0 W:Wd} {H0 H:Hp} {σ:St} {env:bY} (R:Rl K md W0 H0 W σ env H) (hm:md.getD i .no = .o el):∃ W2,Rl K (md.set i (.z el)) W0 H0 W2 σ env H /\ Ex W H W2 H:=by
 have hil:i < md.length:=by
  refine a5w λh=>?_
  rw [a0g,a2a h] at hm
  cases hm
 by_cases hx:∃ x,env[i]? = some (some x)
 ·obtain ⟨x,ev⟩:=hx
  obtain ⟨a,o,sv,q⟩:=R.ownAt hm ev
  obtain ⟨W2,R2⟩:=R.freeze hm
  obtain ⟨w,r'⟩:=sW R.ok q q.new
  refine ⟨{ W with F:=λb=>W.F b \/ b = a },⟨R.ok0,⟨λb hb=>.inl (R.go.lF b hb),R.go.lS,λb hb=>?_,R.go.nS,R.go.kp,w,R.go.kk,R.go.kl⟩,R.len,λj y ej=>?_,R2.sep,R2.bws,R.kk⟩,⟨λb h=>.inl h,λ_ _ _ e=>e,λ_ _ _ e=>e⟩⟩
  ·rcases hb with hb | rfl
   ·exact R.go.nF b hb
   ·exact .inr q.new
  ·by_cases hij:i = j
   ·subst hij
    rw [ev] at ej;cases ej
    refine ⟨_,sv,?_⟩
    rw [eW,if_pos ⟨rfl,hil⟩]
    exact ⟨a,o,rfl,r'⟩
   ·obtain ⟨u,su,ru⟩:=R.slot j y ej
    refine ⟨u,su,?_⟩
    rw [eW,if_neg (λz=>hij z.1)]
    cases hmd:md.getD j .no with
    | no=>trivial
    | bw=>have:=jL R.bws (i:=i) (j:=j) (by rw [hm];rfl);rw [hmd] at this;cases this
    | p e'=>have:=jL R.bws (i:=i) (j:=j) (by rw [hm];rfl);rw [hmd] at this;cases this
    | c e'=>have:=jL R.bws (i:=i) (j:=j) (by rw [hm];rfl);rw [hmd] at this;cases this
    | v e'=>rw [hmd] at ru;exact Rep.weak ru λ_ g=>El.up (λ_ h=>.inl h) (λ_ z=>z) g
    | st=>rw [hmd] at ru;exact ru
    | scr=>rw [hmd] at ru;exact ru
    | o e' =>
     rw [hmd] at ru
     obtain ⟨b,ob,z1,qb⟩:=ru
     refine ⟨b,ob,z1,qb.new,λz=>?_,qb.nS,qb.at_,qb.its.mono (λ_ g=>El.up (λ_ h=>.inl h) (λ_ z=>z) g) λ_ _ _ e=>e⟩
     rcases z with z | z
     ·exact qb.nF z
     ·subst z z1
      exact R.sep i j _ _ _ hij (by rw [hm];rfl) (by rw [hmd];rfl) ev ej sv su
    | z e' =>
     rw [hmd] at ru
     obtain ⟨b,ob,z1,qb⟩:=ru
     exact ⟨b,ob,z1,qb.new,.inl qb.F,qb.at_,qb.its.mono (λ_ g=>El.up (λ_ h=>.inl h) (λ_ z=>z) g) λ_ _ _ e=>e⟩
 ·obtain ⟨W2,R2⟩:=R.freeze hm
  refine ⟨W,⟨R.ok0,R.go,R.len,λj y ej=>?_,R2.sep,R2.bws,R.kk⟩,.refl⟩
  have hij:¬ i = j:=λz=>by subst z;exact hx ⟨y,ej⟩
  rw [eW,if_neg (λz=>hij z.1)]
  exact R.slot j y ej
theorem x8 (i:Nat) (el:El) (hi:md.getD i .no = .o el) (h:VS X (md.set i (.z el)) mn lm rm s p):VS X md mn lm rm s p:=⟨h.h.imp λD σ H=>by
 rintro ⟨env,W0,H0,W,E,R,q,l⟩
 obtain ⟨W2,R2,x⟩:=EJ R hi
 exact ⟨env,W0,H0,W2,E,R2,q,l.after x⟩⟩
def n0 (a b:List Md):Bool:=decide (a.length = b.length) && (a.zip b).all (λp=>p.1.le p.2 && (!p.2.own || p.1.own)) && m4 b
theorem DT {a b:List Md} (h:n0 a b = true):(∀ i,(a.getD i .no).le (b.getD i .no) = true) /\ (∀ i,(b.getD i .no).own = true -> (a.getD i .no).own = true) /\ m4 b = true:=by
 unfold n0 at h
 rw [a1e,a1e,a1k] at h
 have hl:a.length = b.length:=a4f h.1.1
 have key:∀ i,(hi:i < a.length) -> (a.getD i .no).le (b.getD i .no) = true /\ ((b.getD i .no).own = true -> (a.getD i .no).own = true):=λi hi=>by
  have hb:i < b.length:=by omega
  have:=h.1.2 (a[i],b[i]) (by
   have e:(a.zip b)[i]? = some (a[i],b[i]):=by
    rw [a2x]
    exact ⟨a0b hi,a0b hb⟩
   exact a0x e)
  rw [a1e,a3n] at this
  rw [a0g,a0g,a0b hi,a0b hb]
  refine ⟨this.1,λz=>?_⟩
  rcases this.2 with q | q
  ·simp at q z;rw [z] at q;cases q
  ·exact q
 refine ⟨λi=>?_,λi=>?_,h.2⟩
 ·by_cases hi:i < a.length
  ·exact (key i hi).1
  ·rw [a0g,a0g,a2a (by omega),a2a (by omega)];rfl
 ·by_cases hi:i < a.length
  ·exact (key i hi).2
  ·rw [a0g,a0g,a2a (by omega),a2a (by omega)];intro z;exact z
theorem Rl.less {K:PySem.W.Frag} {W0 W:Wd} {H0 H:Hp} {σ:St} {env:bY} (R:Rl K md W0 H0 W σ env H) (h:n0 md m1 = true):Rl K m1 W0 H0 W σ env H:=R.le (DT h).1 (DT h).2.1 (DT h).2.2
theorem gI (h:n0 md m1 = true) (hs:VSs X m1 mn lm rm ss p):VSs X md mn lm rm ss p:=⟨hs.h.imp λD σ H=>by
 rintro ⟨env,W0,H0,W,E,R,q,l⟩
 exact ⟨env,W0,H0,W,E,R.less h,q,l⟩⟩
theorem SX (h:n0 md m1 = true) (hs:VS X m1 mn lm rm s p):VS X md mn lm rm s p:=⟨hs.h.imp λD σ H=>by
 rintro ⟨env,W0,H0,W,E,R,q,l⟩
 exact ⟨env,W0,H0,W,E,R.less h,q,l⟩⟩
end
abbrev lC:=PV -> bY -> (bY -> Prop) -> Prop
abbrev y9:=List PV -> bY -> (bY -> Prop) -> Prop
def A0 (K:PySem.W.Frag) (md mn:List Md) (el:El) (g:lC):TG:=λv σ H Q=>∃ (env:bY) (W0:Wd) (H0:Hp) (W:Wd) (x:PV) (R:bY -> Prop),Rl K md W0 H0 W σ env H /\ Rep (el.G W.F H0) H v x /\ g x env R /\ ∀ env' σ',Rl K mn W0 H0 W σ' env' H -> R env' -> Q σ' H
def ZN (K:PySem.W.Frag) (md mn:List Md) (el:El) (g:y9):T9:=λvs σ H Q=>∃ (env:bY) (W0:Wd) (H0:Hp) (W:Wd) (xs:List PV) (R:bY -> Prop),Rl K md W0 H0 W σ env H /\ Reps (el.G W.F H0) H vs xs /\ g xs env R /\ ∀ env' σ',Rl K mn W0 H0 W σ' env' H -> R env' -> Q σ' H
structure VG (X:Cx) (md mn:List Md) (el:El) (tg:Expr) (g:lC):Prop where
 h:PG X tg (A0 X.K md mn el g)
structure VGs (X:Cx) (md mn:List Md) (el:El) (tg:List Expr) (g:y9):Prop where
 h:X1 X tg (ZN X.K md mn el g)
theorem PG.imp {X:Cx} {e:Expr} {t t':TG} (h:PG X e t) (k:∀ v σ H Q,t' v σ H Q -> t v σ H Q):PG X e t':=λpins s σ H v u Q I r q=>h pins s σ H v u Q I r (k v σ H Q q)
theorem X1.imp {X:Cx} {e:List Expr} {t t':T9} (h:X1 X e t) (k:∀ v σ H Q,t' v σ H Q -> t v σ H Q):X1 X e t':=λpins s σ H v u Q I r q=>h pins s σ H v u Q I r (k v σ H Q q)
def pgName (i:Nat):lC:=λx env R=>R (kE env i (some x))
def pgNil:y9:=λxs env R=>match xs with
 | []=>R env
 | _=>False
def pgCons (g:lC) (u:y9):y9:=λxs env R=>match xs with
 | x :: r=>g x env λenv'=>u r env' R
 | []=>False
def pgTup (n:Nat) (g:y9):lC:=λx env R=>match x with
 | .tup xs=>xs.length = n /\ g xs env R
 | _=>False
section
variable {X:Cx} {md m1 mn:List Md} {el:El} {e:Expr} {es:List Expr} {pos:Pos} {i:Nat}
theorem aN {x:Str} (hN:X.N.Nodup) (hi:X.N[i]? = some x) (hx:O6 X.env.scope x) (hf:X.fn x = true \/ X.env.scope.names.lookup x = some .local) (hm:m4 (md.set i (.v el)) = true) (hl:i < md.length):VG X md (md.set i (.v el)) el (.Name x pos) (pgName i):=⟨(yT hN hi hx hf).imp λv σ H Q=>by
 rintro ⟨env,W0,H0,W,x,R,Rr,r,q,k⟩
 unfold pgName at q
 rw [fX] at q
 exact k _ _ (Rr.set (Go.refl Rr.ok) (m:=.v el) r hm hl) q⟩
theorem cY:VGs X md md el [] pgNil:=⟨LH.imp λvs σ H Q=>by
 rintro ⟨env,W0,H0,W,xs,R,Rr,r,q,k⟩
 cases xs with
 | nil =>
  have:vs = []:=a3d.mp r.len
  exact ⟨this,k env σ Rr q⟩
 | cons _ _=>exact q.elim⟩
theorem aD {g:lC} {u:y9} (h1:VG X md m1 el e g) (h2:VGs X m1 mn el es u) (hs:(assignEach (e :: es) X.env).map (·.2) = assign e X.env :: (assignEach es X.env).map (·.2):=by rfl):VGs X md mn el (e :: es) (pgCons g u):=⟨(AF h1.h h2.h hs).imp λvs σ H Q=>by
 rintro ⟨env,W0,H0,W,xs,R,Rr,r,q,k⟩
 cases xs with
 | nil=>exact q.elim
 | cons x xr =>
  cases vs with
  | nil=>have:=r.len;simp at this
  | cons v vr =>
   exact ⟨v,vr,rfl,env,W0,H0,W,x,_,Rr,r.at_ 0 v x rfl rfl,q,λenv' σ' R' z=>⟨env',W0,H0,W,xr,R,R',⟨by have:=r.len;simpa using this,λi w y e1 e2=>r.at_ (i + 1) w y (by simpa using e1) (by simpa using e2)⟩,z,k⟩⟩⟩
theorem eP {k:Nat} {g:y9} {n:Nat} (hc:X.calm = true) (h:VGs X md mn el es g) (hn:(assignEach es X.env).length = n:=by rfl) (hst:(assignEach es X.env).findIdx? (·.1) = none:=by rfl):VG X md mn el (.Tuple es k pos) (pgTup n g):=⟨(RA hc h.h hn hst).imp λv σ H Q=>by
 rintro ⟨env,W0,H0,W,x,R,Rr,r,q,k⟩
 cases x with
 | tup xs =>
  obtain ⟨a,vs,rfl,e,rs⟩:=r.ofTup
  exact ⟨a,vs,rfl,mF.of e,by rw [rs.len];exact q.1,env,W0,H0,W,xs,R,Rr,rs,q.2,k⟩
 | _=>exact q.elim⟩
def pAsg (a:b8) (g:lC):bP:=λE env=>a env λx=>g x env E.nx
theorem wZ {lm:List Md} {rm:Md} {pe:b8} {g:lC} {tg:Expr} (he:VE X md e (.v el) pe) (hg:VG X md mn el tg g) (hs:swapsWithSole [tg] e pos.line X.env = pure false:=by rfl) (hw:swappedStores [tg] e X.env = pure none:=by rfl)
  (h1:(assignEach [tg] X.env).map (·.2) = [assign tg X.env]:=by rfl):VS X md mn lm rm (.Assign [tg] e pos) (pAsg pe g):=⟨(EB he.h hg.h hs hw h1).imp λD σ H=>by
 rintro ⟨env,W0,H0,W,E,R,q,l⟩
 refine ⟨env,W0,H0,W,_,R,q,λx v W1 H1 g1 r1 q1=>?_⟩
 exact ⟨env,W0,H0,W1,x,E.nx,R.step g1,r1,q1,λenv' σ' R' z=>l.nx env' W1 σ' H1 R' (g1.ex R.ok) z⟩⟩
end
structure Src (J:It) (el:El) (B:Hp) (W:Wd) (H:Hp) (items:List PV):Prop where
 go:∀ (i:Nat) (W2:Wd) (H2:Hp),Ex W H W2 H2 -> i < items.length -> J.go i H2
 stop:∀ (W2:Wd) (H2:Hp),Ex W H W2 H2 -> J.stop items.length H2
 yld:∀ (i:Nat) (W2:Wd) (H2:Hp) (v:V) (H3:Hp),Ex W H W2 H2 -> Wok W2 H2 -> i < items.length -> J.yld i H2 v H3 -> Go W2 H2 W2 H3 /\ ∃ x,items[i]? = some x /\ Rep (el.G W2.F B) H3 v x
abbrev rT:=bY -> (List PV -> Prop) -> Prop
def CJ (K:PySem.W.Frag) (md:List Md) (el:El) (p:rT):TI:=λσ H R=>∃ (env:bY) (W0:Wd) (H0:Hp) (W:Wd) (Q:List PV -> Prop),Rl K md W0 H0 W σ env H /\ p env Q /\ ∀ (items:List PV) (W':Wd) (H':Hp) (J:It),Go W H W' H' -> Src J el H0 W' H' items -> Q items -> R J H'
structure VI (X:Cx) (md:List Md) (el:El) (tg iter:Expr) (p:rT):Prop where
 h:PI X tg iter (CJ X.K md el p)
theorem PI.imp {X:Cx} {tg iter:Expr} {t t':TI} (h:PI X tg iter t) (k:∀ σ H R,t' σ H R -> t σ H R):PI X tg iter t':=λpins s σ H R I q=>h pins s σ H R I (k σ H R q)
def piLst (a:b8):rT:=λenv Q=>a env λx=>match x with
 | .lst xs=>Q xs
 | _=>False
def piTup (a:b8):rT:=λenv Q=>a env λx=>match x with
 | .tup xs=>Q xs
 | _=>False
def dQ (lo:Int) (n:Nat):List PV:=(List.range n).map λ(i:Nat)=>PV.int (lo + i)
theorem bS (lo:Int) (n:Nat):(dQ lo n).length = n:=by simp [dQ]
theorem CF {lo:Int} {n i:Nat} (h:i < n):(dQ lo n)[i]? = some (.int (lo + i)):=by simp [dQ,h]
def piRng1 (a:b8):rT:=λenv Q=>a env λx=>match x with
 | .int j=>-(2 ^ 62) <= j /\ j < 2 ^ 62 /\ Q (dQ 0 j.toNat)
 | _=>False
section
variable {X:Cx} {md:List Md} {el:El} {a b e tg:Expr} {pa pb pe:b8} {p pos:Pos}
theorem HX {K:PySem.W.Frag} {B:Hp} {W:Wd} {H:Hp} {l:Addr} {vs:List V} {xs:List PV} (hF:W.F l) (e:H l = some (.lst vs)) (r:Reps (el.G W.F B) H vs xs):Src (a4E K l) el B W H xs where
 go:=λi W2 H2 x hi=>⟨vs,vs[i]'(by rw [r.len];exact hi),fN.of (x.kp l _ hF e),a0b _⟩
 stop:=λW2 H2 x=>⟨vs,fN.of (x.kp l _ hF e),by rw [r.len];exact a0l _⟩
 yld:=λi W2 H2 v H3 x w hi y=>by
  obtain ⟨rfl,y⟩:=y
  have:=y vs (fN.of (x.kp l _ hF e))
  obtain ⟨z,ez,rz⟩:=r.getV this
  exact ⟨Go.refl w,z,ez,x.rep (λ_ g=>El.GF g) (λ_ g=>El.up x.lF (λ_ h=>h) g) rz⟩
theorem WF {K:PySem.W.Frag} {B:Hp} {W:Wd} {H:Hp} {l:Addr} {vs:List V} {xs:List PV} (e:H l = some (.tup vs)) (r:Reps (el.G W.F B) H vs xs):Src (a4F K l) el B W H xs where
 go:=λi W2 H2 x hi=>⟨vs,vs[i]'(by rw [r.len];exact hi),mF.of (x.im l _ rfl e),a0b _⟩
 stop:=λW2 H2 x=>⟨vs,mF.of (x.im l _ rfl e),by rw [r.len];exact a0l _⟩
 yld:=λi W2 H2 v H3 x w hi y=>by
  obtain ⟨rfl,y⟩:=y
  have:=y vs (mF.of (x.im l _ rfl e))
  obtain ⟨z,ez,rz⟩:=r.getV this
  exact ⟨Go.refl w,z,ez,x.rep (λ_ g=>El.GF g) (λ_ g=>El.up x.lF (λ_ h=>h) g) rz⟩
theorem WE {B:Hp} {W:Wd} {H:Hp} {lo:Int} {n:Nat}:Src (T6 lo n) el B W H (dQ lo n) where
 go:=λi W2 H2 x hi=>by rw [bS] at hi;exact hi
 stop:=λW2 H2 x=>by rw [bS];exact a0l n
 yld:=λi W2 H2 v H3 x w hi y=>by
  obtain ⟨rfl,rfl⟩:=y
  rw [bS] at hi
  exact ⟨Go.refl w,_,CF hi,.int _⟩
theorem fY (h:VE X md e (.v el) pe):VI X md el tg e (piLst pe):=⟨(LI h.h).imp λσ H R=>by
 rintro ⟨env,W0,H0,W,Q,Rr,q,k⟩
 refine ⟨env,W0,H0,W,_,Rr,q,λx v W1 H1 g1 r1 q1=>?_⟩
 cases x with
 | lst xs =>
  obtain ⟨a,vs,rfl,g,e,rs⟩:=Rep.ofList r1
  exact ⟨a,rfl,⟨vs,fN.of e⟩,k xs W1 H1 _ g1 (HX (El.GF g) e rs) q1⟩
 | _=>exact q1.elim⟩
theorem mD (h:VE X md e (.z el) pe):VI X md el tg e (piLst pe):=⟨(LI h.h).imp λσ H R=>by
 rintro ⟨env,W0,H0,W,Q,Rr,q,k⟩
 refine ⟨env,W0,H0,W,_,Rr,q,λx v W1 H1 g1 r1 q1=>?_⟩
 cases x with
 | lst xs =>
  obtain ⟨a,o,rfl,z⟩:=r1
  have z2:=z.its
  have z3:=z.at_
  cases z2 with
  | lst rs=>exact ⟨a,rfl,⟨_,fN.of z3⟩,k xs W1 H1 _ g1 (HX z.F z3 rs) q1⟩
 | _=>exact q1.elim⟩
theorem a1N (h:VE X md e (.v el) pe):VI X md el tg e (piTup pe):=⟨(a0E h.h).imp λσ H R=>by
 rintro ⟨env,W0,H0,W,Q,Rr,q,k⟩
 refine ⟨env,W0,H0,W,_,Rr,q,λx v W1 H1 g1 r1 q1=>?_⟩
 cases x with
 | tup xs =>
  obtain ⟨a,vs,rfl,e,rs⟩:=Rep.ofTup r1
  exact ⟨a,rfl,⟨vs,mF.of e⟩,k xs W1 H1 _ g1 (WF e rs) q1⟩
 | _=>exact q1.elim⟩
theorem fM (hg:X.env.scope.names.lookup (Str.ofString "range") = some NameKind.globalImplicit) (hm:X.mg "range" = none) (ha:VE X md a .bw pa) (hs:starEach [a] X.env = [(false,eval a X.env)]:=by rfl):VI X md .fl tg (.Call (.Name "range" p) [a] [] pos) (piRng1 pa) :=
 ⟨(CM hg hm (a7 ha aA hs).h hs).imp λσ H R=>by
 rintro ⟨env,W0,H0,W,Q,Rr,q,k⟩
 refine ⟨env,W0,H0,W,λxs=>match xs with | [.int j]=>-(2 ^ 62) <= j /\ j < 2 ^ 62 /\ Q (dQ 0 j.toNat) | _=>False,Rr,?_,λxs vs W1 H1 g1 r1 q1=>?_⟩
 ·show pa env _
  unfold piRng1 at q
  refine (iff_of_eq (congrArg (pa env) (funext λx=>?_))).mp q
  cases x <;> rfl
 ·obtain ⟨v,x,rfl,rfl,r⟩:=r1.one
  cases x with
  | int j=>exact ⟨j,by rw [Rep.ofInt r],q1.1,q1.2.1,k _ W1 H1 _ g1 WE q1.2.2⟩
  | _=>exact q1.elim⟩
end
def uV (g:lC) (b:bP) (E:PEnds):List PV -> bY -> Prop
 | [],env=>E.nx env
 | x :: xs,env=>g x env λenv1=>b { E with nx:=uV g b E xs,ct:=uV g b E xs,bk:=E.nx } env1
def pFor (s:rT) (g:lC) (b:bP):bP:=λE env=>s env λitems=>uV g b E items env
def AD (c:jB) (b:bP):bP:=λE env=>∃ I:Nat -> bY -> Prop,(∃ m,I m env) /\ ∀ m env,I m env ->
 c env λk=>Br k (∃ N:bY -> Prop,(∀ env',N env' -> ∃ m',m' < m /\ I m' env') /\ b { E with nx:=N,ct:=N,bk:=E.nx } env) (E.nx env)
section
variable {X:Cx} {md m1 mn lm l2:List Md} {rm:Md} {el:El} {tg iter c:Expr} {body:List Stmt} {s:rT} {g:lC} {b:bP} {pc:jB} {pos:Pos}
theorem PX {K:PySem.W.Frag} (hlm:m4 lm = true) {wi:TI} {σ:St} {H:Hp} {D:Ends} (h:L9 K lm lm l2 rm (pFor s g b) D σ H):SJ (CJ K lm el s) (A0 K lm m1 el g) (L9 K m1 lm lm rm b) D σ H:=by
 obtain ⟨env,W0,H0,W,E,R,q,l⟩:=h
 refine ⟨env,W0,H0,W,_,R,q,λitems W1 H1 J g1 sr q1=>?_⟩
 refine ⟨λi m σ H=>m = items.length - i /\ i <= items.length /\ ∃ env W',Rl K lm W0 H0 W' σ env H /\ Ex W1 H1 W' H /\ uV g b E (items.drop i) env,⟨items.length,by simp,a2u _,env,W1,R.step g1,.refl,by simpa using q1⟩,?_⟩
 rintro i m σ2 H2 ⟨rfl,hi,env2,W2,R2,x2,q2⟩
 by_cases hlt:i < items.length
 ·rw [a3k hlt] at q2
  refine .inr ⟨sr.go i W2 H2 x2 hlt,λσ' H'=>i + 1 <= items.length /\ ∃ env W',Rl K lm W0 H0 W' σ' env H' /\ Ex W1 H1 W' H' /\ uV g b E (items.drop (i + 1)) env,λσ' H' z=>⟨items.length - (i + 1),by omega,rfl,z.1,z.2⟩,λv H3 y=>?_⟩
  obtain ⟨g3,x,ex,rx⟩:=sr.yld i W2 H2 v H3 x2 R2.ok hlt y
  rw [a0b hlt] at ex
  cases ex
  refine ⟨env2,W0,H0,W2,_,_,R2.step g3,rx,q2,λenv' σ' R' z=>⟨env',W0,H0,W2,_,R',z,?_,l.rt,?_,?_⟩⟩
  ·exact λenv4 W4 σ4 H4 R4 x4 z4=>⟨hlt,env4,W4,R4,(x2.trans (g3.ex R2.ok)).trans x4,z4⟩
  ·exact λenv4 W4 σ4 H4 R4 x4 z4=>l.nx env4 W4 σ4 H4 R4 ((((g1.ex R.ok).trans x2).trans (g3.ex R2.ok)).trans x4) z4
  ·exact λenv4 W4 σ4 H4 R4 x4 z4=>⟨hlt,env4,W4,R4,(x2.trans (g3.ex R2.ok)).trans x4,z4⟩
 ·have e:i = items.length:=by omega
  subst e
  rw [a5y] at q2
  exact .inl ⟨sr.stop W2 H2 x2,l.nx env2 W2 σ2 H2 R2 ((g1.ex R.ok).trans x2) q2⟩
theorem iQ (hp:PassesOwn (model X.prog X.w) X.A X.env X.xe) (hc:X.calm = true) (hlm:m4 lm = true) (hi:VI X lm el tg iter s) (hg:VG X lm m1 el tg g) (hb:VSs X m1 lm lm rm body b)
  (hs:∀ x,foldedSetIterable iter X.env x = pure x:=by intro _;rfl):VS X lm lm l2 rm (.For tg iter body [] pos) (pFor s g b):=⟨(RF hp hc hi.h hg.h hb.h hs).imp λD σ H h=>PX (wi:=CJ X.K lm el s) hlm h⟩
theorem IC (hp:PassesOwn (model X.prog X.w) X.A X.env X.xe) (hc:VT X lm c pc) (hb:VSs X lm lm lm rm body b):VS X lm lm l2 rm (.While c body [] pos) (AD pc b):=⟨(RH hp hc.h hb.h).imp λD σ H h=>by
 obtain ⟨env,W0,H0,W,E,R,⟨I,⟨m,i0⟩,turn⟩,l⟩:=h
 refine ⟨λm σ2 H2=>∃ env W',Rl X.K lm W0 H0 W' σ2 env H2 /\ Ex W H W' H2 /\ I m env,⟨m,env,W,R,.refl,i0⟩,?_⟩
 rintro m σ2 H2 ⟨env2,W2,R2,x2,i2⟩
 refine ⟨env2,W0,H0,W2,_,R2,turn m env2 i2,λk W3 H3 g3 q3=>?_⟩
 cases k with
 | true =>
  rw [if_pos rfl]
  obtain ⟨N,hN,q3⟩:=q3
  refine ⟨λσ' H'=>∃ env W',Rl X.K lm W0 H0 W' σ' env H' /\ Ex W H W' H' /\ N env,λσ' H' z=>?_,env2,W0,H0,W3,_,R2.step g3,q3,?_,l.rt,?_,?_⟩
  ·obtain ⟨env',W',R',x',n'⟩:=z
   obtain ⟨m',hm,i'⟩:=hN env' n'
   exact ⟨m',hm,env',W',R',x',i'⟩
  ·exact λenv4 W4 σ4 H4 R4 x4 z4=>⟨env4,W4,R4,(x2.trans (g3.ex R2.ok)).trans x4,z4⟩
  ·exact λenv4 W4 σ4 H4 R4 x4 z4=>l.nx env4 W4 σ4 H4 R4 ((x2.trans (g3.ex R2.ok)).trans x4) z4
  ·exact λenv4 W4 σ4 H4 R4 x4 z4=>⟨env4,W4,R4,(x2.trans (g3.ex R2.ok)).trans x4,z4⟩
 | false =>
  rw [if_neg a0j]
  exact l.nx env2 W3 σ2 H3 (R2.step g3) (x2.trans (g3.ex R2.ok)) q3⟩
end
def a5L:Md -> Md
 | .bw=>.v .sh
 | m=>m
def F3:Md -> Bool
 | .bw=>true
 | .st=>true
 | .scr=>true
 | _=>false
def LU:Md -> Bool
 | .v .fl=>true
 | .v .sn=>true
 | .o .fl=>true
 | .o .sn=>true
 | .z .fl=>true
 | .z .sn=>true
 | .st=>true
 | _=>false
def o9 (K:PySem.W.Frag) (ms:List Md) (rm:Md) (p:PN):Sp:=λvs H Q _=>∃ (xs:List PV) (W:Wd) (R:PV -> Prop),W.K = K /\ Wok W H /\ ResEs H H W H ms vs xs /\ p xs R /\
 ∀ (x:PV) (v:V) (W':Wd) (H':Hp),Go W H W' H' -> ResE H H W' H' rm v x -> R x -> Q v H'
def aE (N:List Str) (xs:List PV):bY:=xs.map some ++ List.replicate (N.length - xs.length) none
def p5 (N:List Str) (ms:List Md):List Md:=ms.map a5L ++ List.replicate (N.length - ms.length) .no
def bT (rm:Md) (R:PV -> Prop):Prop:=match rm with
 | .v _=>R .non
 | _=>False
theorem ResEs.at {B H0 H:Hp} {W:Wd} {ms:List Md} {vs:List V} {xs:List PV} (r:ResEs B H0 W H ms vs xs) {i:Nat} {x:PV} (e:xs[i]? = some x):∃ m v,ms[i]? = some m /\ vs[i]? = some v /\ ResE B H0 W H m v x:=by
 induction r generalizing i with
 | nil=>simp at e
 | cons h _ ih =>
  cases i with
  | zero=>simp at e;subst e;exact ⟨_,_,rfl,rfl,h⟩
  | succ i=>simp at e;obtain ⟨m,v,e1,e2,q⟩:=ih e;exact ⟨m,v,by simpa using e1,by simpa using e2,q⟩
theorem ResE.arg {B H0 H B' H0':Hp} {W:Wd} {m:Md} {v:V} {x:PV} (r:ResE B H0 W H m v x) (h:F3 m = true):ResE B' H0' W H m v x:=by
 cases m <;> first | exact r | cases h
theorem ResEs.arg {B H0 H B' H0':Hp} {W:Wd} {ms:List Md} {vs:List V} {xs:List PV} (r:ResEs B H0 W H ms vs xs) (h:ms.all F3 = true):ResEs B' H0' W H ms vs xs:=by
 induction r with
 | nil=>exact .nil
 | cons q _ ih =>
  rw [List.all_cons,a1e] at h
  exact .cons (q.arg h.1) (ih h.2)
def IJ (W:Wd) (H:Hp):Wd:={ W with F:=λa=>(∃ o,H a = some o) /\ ¬ W.S a }
theorem KG {W:Wd} {H:Hp} (w:Wok W H):Wok (IJ W H) H:=⟨λ_ h=>h.1,w.sS,λ_ h=>h.2⟩
theorem Rep.alloc {W:Wd} {H:Hp} {v:V} {x:PV} (r:Rep (λa=>¬ W.S a) H v x):Rep (IJ W H).F H v x:=by
 induction r with
 | non=>exact .non
 | bl b=>exact .bl b
 | int i=>exact .int i
 | str x=>exact .str x
 | ty n=>exact .ty n
 | set e=>exact .set e
 | lst g e l _ ih=>exact .lst ⟨⟨_,e⟩,g⟩ e l ih
 | tup e l _ ih=>exact .tup e l ih
 | dic g e l1 l _ ih=>exact .dic ⟨⟨_,e⟩,g⟩ e l1 l ih
theorem S5 {K:PySem.W.Frag} {N:List Str} {ms:List Md} {vs:List V} {xs:List PV} {W:Wd} {H:Hp} (hk:W.K = K) (w:Wok W H) (r:ResEs H H W H ms vs xs) (hm:ms.all F3 = true):Rl K (p5 N ms) (IJ W H) H (IJ W H) (start N vs) (aE N xs) H:=by
 have hlen:=r.len
 have getm:∀ i m,ms[i]? = some m -> (p5 N ms).getD i .no = a5L m:=λi m e=>by
  have hi:=(a0k.mp e).1
  unfold p5
  rw [a0g,a1p (by simpa using hi),a0h,e];rfl
 have none_:∀ i,ms.length <= i -> (p5 N ms).getD i .no = .no:=λi hi=>by
  unfold p5
  rw [a0g,a1n (by simpa using hi),a2q]
  split <;> rfl
 have nown:∀ i,((p5 N ms).getD i .no).own = false:=λi=>by
  cases e:ms[i]? with
  | none=>rw [none_ i (List.getElem?_eq_none_iff.mp e)];rfl
  | some m =>
   rw [getm i m e]
   have:=a1k.mp hm m (a0x e)
   cases m <;> first | rfl | cases this
 refine ⟨KG w,Go.refl (KG w),?_,λi x e=>?_,λi j x y a hij oi=>(by rw [nown i] at oi;cases oi),?_,hk⟩
 ·simp [start,aE,hlen.1]
 ·unfold aE at e
  by_cases hi:i < xs.length
  ·rw [a1p (by simpa using hi),a0h] at e
   cases ex:xs[i]? with
   | none=>rw [ex] at e;cases e
   | some y =>
    rw [ex] at e
    cases e
    obtain ⟨m,v,e1,e2,q⟩:=r.at ex
    refine ⟨v,?_,?_⟩
    ·unfold start
     rw [a1p (by simpa [hlen.1] using hi),a0h,e2];rfl
    ·rw [getm i m e1]
     have:=a1k.mp hm m (a0x e1)
     cases m with
     | bw=>exact Rep.alloc q
     | st=>exact q
     | scr=>exact q
     | _=>cases this
  ·rw [a1n (by simpa using hi),a2q] at e
   split at e <;> cases e
 ·unfold m4
  rw [a3n,a1k,a1k]
  refine .inr λm h=>?_
  unfold p5 at h
  rcases a1g.mp h with z | z
  ·obtain ⟨m',h1,rfl⟩:=a0p.mp z
   have:=a1k.mp hm m' h1
   cases m' <;> first | rfl | cases this
  ·rw [(List.mem_replicate.mp z).2];rfl
theorem HG {W W1:Wd} {H H1:Hp} {rm:Md} {v:V} {x:PV} (w:Wok W H) (hr:LU rm = true) (g:Go (IJ W H) H W1 H1) (r:ResE H H W1 H1 rm v x) :
  ∃ W',Go W H W' H1 /\ ResE H H W' H1 rm v x:=by
 refine ⟨{ W1 with F:=λa=>W.F a \/ (W1.F a /\ H a = none) },⟨λ_ h=>.inl h,g.lS,λa h=>h.elim .inl λz=>.inr z.2,g.nS,g.kp,⟨λa h=>?_,g.ok.sS,λa h=>?_⟩,g.kk,g.kl⟩,?_⟩
 ·rcases h with h | h
  ·obtain ⟨o,e⟩:=w.fF a h
   exact ⟨o,g.kp a o e (w.dj a h)⟩
  ·exact g.ok.fF a h.1
 ·rcases h with h | h
  ·obtain ⟨o,e⟩:=w.fF a h
   exact g.nSS e (w.dj a h)
  ·exact g.ok.dj a h.1
 ·have up:∀ {e:El} {a:Addr},e ≠ .sh -> e.G W1.F H a -> e.G (λa=>W.F a \/ (W1.F a /\ H a = none)) H a:=fun {e a} he q=>by
   cases e with
   | fl=>exact q
   | sn=>exact ⟨.inr q,q.2⟩
   | sh=>exact absurd rfl he
  have own:∀ {e:El},e ≠ .sh -> ResE H H W1 H1 (.o e) v x -> ResE H H { W1 with F:=λa=>W.F a \/ (W1.F a /\ H a = none) } H1 (.o e) v x:=λhe q=>by
   obtain ⟨a,o,rfl,q⟩:=q
   exact ⟨a,o,rfl,q.new,λz=>z.elim (λz=>w.offF q.new z) λz=>q.nF z.1,q.nS,q.at_,q.its.mono (λ_ g=>up he g) λ_ _ _ e=>e⟩
  have frz:∀ {e:El},e ≠ .sh -> ResE H H W1 H1 (.z e) v x -> ResE H H { W1 with F:=λa=>W.F a \/ (W1.F a /\ H a = none) } H1 (.z e) v x:=λhe q=>by
   obtain ⟨a,o,rfl,q⟩:=q
   exact ⟨a,o,rfl,q.new,.inr ⟨q.F,q.new⟩,q.at_,q.its.mono (λ_ g=>up he g) λ_ _ _ e=>e⟩
  cases rm with
  | v e =>
   cases e with
   | fl=>exact r
   | sn=>exact Rep.weak r λ_ g=>up (by intro z;cases z) g
   | sh=>cases hr
  | o e =>
   cases e with
   | fl=>exact own (by intro z;cases z) r
   | sn=>exact own (by intro z;cases z) r
   | sh=>cases hr
  | z e =>
   cases e with
   | fl=>exact frz (by intro z;cases z) r
   | sn=>exact frz (by intro z;cases z) r
   | sh=>cases hr
  | st=>exact r
  | _=>cases hr
theorem i6 {P:Program} {w:World} {K:PySem.W.Frag} {mg:Str -> Option Value} {base:Heap} {x:Str} {st:Stmt} {N ps:List Str} {k:Nat} {ms mn:List Md} {rm:Md} {p:bP} {d:PN} (hd:∀ xs R,d xs R -> p { nx:=λ_=>bT rm R,rt:=R } (aE N xs)) (D:Df K mg x st) (S:FnScope N ps (a8 st))
  (hb:∀ (kV doc pm:Value) (an:Option Addr) (cdv ct:Value) (us:List Value),us.length = ps.length -> bindArgs (PySem.W.fnOf x x (iS st) (fI st) (a8 st) .none kV doc pm an cdv ct) ⟨us,[]⟩ = pure (ps.zip us))
  (hm:ms.all F3 = true) (hr:LU rm = true)
  (hlen:ms.length = ps.length) (hbody:∀ (f:Addr) (cdv:Value) (A:Around) (outer:List Env) (s:Shared) (H:Hp) (E:XK),Room k (A.deeper (envOfC x (a8 st) s.heap.objs.size f cdv)) ->
   VSs (D9 OE P w K mg base N x (a8 st) f cdv A outer s H E).nox (p5 N ms) mn [] rm (fI st) p) :
  Cal P w K mg base (k + 1) x ps (o9 K ms rm d):=by
 refine D.ok S hb (λvs H Q E h=>?_) (λf cdv A outer s H vs Q E hr' h=>?_)
 ·obtain ⟨xs,W,R,_,_,r,_⟩:=h
  have:=r.len
  omega
 ·obtain ⟨xs,W,R,hk,wk,r,q,kk⟩:=h
  have q:=hd xs R q
  refine ⟨_,(hbody f cdv A outer s H E hr').h,aE N xs,IJ W H,H,IJ W H,{ nx:=λ_=>bT rm R,rt:=R },S5 hk wk r hm,q,?_,?_,λ_ _ _ _ _ _ z=>z.elim,λ_ _ _ _ _ _ z=>z.elim⟩
  ·intro env W' σ H' Rr _ z
   have z':bT rm R:=z
   unfold bT at z'
   cases rm with
   | v e =>
    obtain ⟨W2,g2,r2⟩:=HG (rm:=.v e) wk hr Rr.go (v:=.non) (x:=.non) .non
    exact kk .non .non W2 H' g2 r2 z'
   | _=>exact z'.elim
  ·intro y v W' H' g r1 z
   obtain ⟨W2,g2,r2⟩:=HG wk hr g r1
   exact kk y v W2 H' g2 r2 z
theorem ResE.ret {B H1 H2:Hp} {W0 W1 W2:Wd} {rm:Md} {v:V} {x:PV} (g:Go W0 B W1 H1) (hr:LU rm = true) (r:ResE H1 H1 W2 H2 rm v x):ResE B H1 W2 H2 rm v x:=by
 have up:∀ {e:El} {a:Addr},e.G W2.F H1 a -> e.G W2.F B a:=λq=>El.up (λ_ h=>h) (λ_ z=>g.free z) q
 cases rm with
 | v e=>exact Rep.weak r λ_ q=>up q
 | o e=>obtain ⟨a,o,rfl,q⟩:=r;exact ⟨a,o,rfl,q.new,q.nF,q.nS,q.at_,q.its.mono (λ_ q=>up q) λ_ _ _ e=>e⟩
 | z e=>obtain ⟨a,o,rfl,q⟩:=r;exact ⟨a,o,rfl,g.free q.new,q.F,q.at_,q.its.mono (λ_ q=>up q) λ_ _ _ e=>e⟩
 | st=>exact r
 | _=>cases hr
section
variable {X:Cx} {md:List Md} {e:Expr} {es:List Expr} {pt:tM} {p pos:Pos} {k:Nat} {x:Str} {ps:List Str} {ms:List Md} {rm:Md} {pn:PN}
theorem aI (C:Cal X.prog X.w X.K X.mg X.base k x ps (o9 X.K ms rm pn)) (hr:Room k X.A) (hm:ms.all F3 = true) (hrm:LU rm = true) (ha:VA X md (e :: es) ms pt) (hg:X.env.scope.names.lookup x = some .globalImplicit)
  (hdb:(x == ("__debug__" : Str)) = false) (he:starEach (e :: es) X.env = (false,eval e X.env) :: starEach es X.env:=by rfl) (hpl:(backTo pos (starEach es X.env)).any (·.1) = false:=by rfl) :
  VE X md (.Call (.Name x p) (e :: es) [] pos) rm (pCl pn pt):=⟨(a05 C hr ha.h hg hdb he hpl).imp λσ H K=>by
 rintro ⟨env,W0,H0,W,Q,R,q,k⟩
 refine ⟨env,W0,H0,W,_,R,q,λxs vs W1 H1 g1 r1 q1=>?_⟩
 refine ⟨xs,W1,Q,g1.kk.trans R.kk,g1.ok,by rw [a69];exact r1.arg hm,q1,λy v W2 H2 g2 r2 q2=>?_⟩
 exact k y v W2 H2 (g1.trans g2) (ResE.base g1 (ResE.ret (R.go.trans g1) hrm r2)) q2⟩
end
structure SimM (r:V -> List V -> Hp -> VK -> Prop) (ms:List Md) (el:El) (pm:PV -> List PV -> (PV -> Prop) -> Prop):Prop where
 h:∀ (B Hs:Hp) (W:Wd) (H:Hp) (a:Addr) (o:HO) (x:PV) (vs:List V) (ys:List PV) (R:PV -> Prop) (K:VK),Wok W H -> H a = some o -> ¬ W.F a -> ¬ W.S a -> Body (el.G W.F B) H o x -> ResEs B Hs W H ms vs ys -> pm x ys R ->
  (∀ (o':HO) (x':PV) (v:V),o'.imm = false -> Body (el.G W.F B) H o' x' -> R x' -> K v (c7 H a o')) -> r (.ref a) vs H K
theorem EC {K:PySem.W.Frag} {md:List Md} {W0 W:Wd} {H0 H:Hp} {σ:St} {env:bY} {i:Nat} {el:El} {a:Addr} {o o':HO} {x:PV} (q:OwnL el H0 H0 W H a o x):Ex W H W (c7 H a o'):=⟨λ_ h=>h,λb u f e=>by rw [aG (λz=>by subst z;exact q.nF f)];exact e,λb u im e=>by
 rw [aG (λz=>?_)];exact e
 subst z
 have:=q.its
 rw [q.at_] at e;cases e
 cases this <;> cases im⟩
section
variable {X:Cx} {md lm:List Md} {rm:Md} {e o:Expr} {es:List Expr} {pt:tM} {pe pj:b8} {el:El} {i:Nat} {T id:String} {r:V -> List V -> Hp -> VK -> Prop} {ms:List Md} {pm:PV -> List PV -> (PV -> Prop) -> Prop} {name:Str} {apos cpos pos p:Pos}
theorem a03 {K:PySem.W.Frag} {H:Hp} {a:Addr} {o:HO} {x:PV} {G:Addr -> Prop} (b:Body G H o x) (e:H a = some o) (hT:(∃ xs,x = .lst xs /\ T = "list") \/ ∃ ks xs,x = .dic ks xs /\ T = "dict"):a4C K T (.ref a) H:=by
 rcases hT with ⟨xs,rfl,rfl⟩ | ⟨ks,xs,rfl,rfl⟩
 ·cases b with
  | lst h=>exact .inl ⟨rfl,_,fN.of e⟩
 ·cases b with
  | dic l h=>exact .inr (.inr (.inl ⟨rfl,.inl ⟨_,e⟩⟩))
def tyP (T:String) (x:PV):Prop:=match x with
 | .lst _=>T = "list"
 | .dic _ _=>T = "dict"
 | _=>False
def pMethT (T:String) (i:Nat) (pm:PV -> List PV -> (PV -> Prop) -> Prop) (t:tM):bP:=λE env=>match kL env i with
 | some (some x)=>tyP T x /\ t env λys=>pm x ys λx'=>E.nx (kE env i (some x'))
 | _=>False
theorem a1F {x:PV} (h:tyP T x):(∃ xs,x = .lst xs /\ T = "list") \/ ∃ ks xs,x = .dic ks xs /\ T = "dict" := by
 cases x <;> first | exact .inl ⟨_,rfl,h⟩ | exact .inr ⟨_,_,rfl,h⟩ | exact (show False from h).elim
theorem qJ (pa:PlainAttrs T) (slot:Slot T name id) (hty:typeOf (.builtin id) = pure (.type "method_descriptor")) (hm:QM X id r) (hs:SimM r ms el pm) (ho:QE X o (gH i)) (hi:md.getD i .no = .o el) (ha:VA X md (e :: es) ms pt)
  (hsw:swapsWith (.Call (.Attribute o name apos) (e :: es) [] cpos) none pos.line X.env = pure false:=by rfl)
  (hbase:attributeBase o name X.env (eval o X.env) = eval o X.env:=by rfl)
  (hfew:((backTo cpos (starEach (e :: es) X.env)).all (λx=>!x.1) && (backToKw cpos (keywordEach [] X.env)).all (λx=>x.1.isSome)
   && decide ((e :: es).length + ([]:List Keyword).length + (if ([]:List Keyword).isEmpty then 0 else 1) < 30)) = true:=by rfl)
  (hline:(apos.endLine == cpos.line) = true:=by rfl) (hse:starEach (e :: es) X.env = (false,eval e X.env) :: starEach es X.env:=by rfl) (hplain:(backTo cpos (starEach es X.env)).any (·.1) = false:=by rfl) :
  VS X md md lm rm (.Expr (.Call (.Attribute o name apos) (e :: es) [] cpos) pos) (pMethT T i pm pt):=⟨(VJ (XC pa slot hty hm.h ho.h ha.h hbase hfew hline hse hplain) hsw).imp λD σ H=>by
 rintro ⟨env,W0,H0,W,E,R,q,l⟩
 unfold pMethT at q
 rw [nJ] at q
 cases ev:env[i]? with
 | none=>rw [ev] at q;exact q.elim
 | some ox =>
  cases ox with
  | none=>rw [ev] at q;exact q.elim
  | some x =>
   rw [ev] at q
   obtain ⟨a,ob,sv,oq⟩:=R.ownAt hi ev
   refine ⟨.ref a,sv,a03 oq.its oq.at_ (a1F q.1),env,W0,H0,W,_,R,q.2,λys vs W1 H1 g1 r1 q1=>?_⟩
   have R1:=R.step g1
   obtain ⟨a1,o1,sv1,oq1⟩:=R1.ownAt hi ev
   rw [sv] at sv1;cases sv1
   refine hs.h H0 H W1 H1 a o1 x vs ys _ _ g1.ok oq1.at_ oq1.nF oq1.nS oq1.its r1 q1 λo' x' v im b z=>?_
   rw [fX] at z
   exact l.nx _ W1 σ _ (R1.put hi ev sv b im) ((g1.ex R.ok).trans (EC (K:=X.K) (md:=md) (W0:=W0) (σ:=σ) (env:=env) (i:=i) oq1)) z⟩
def pmAppend:PV -> List PV -> (PV -> Prop) -> Prop:=λx ys R=>match x,ys with
 | .lst xs,[y]=>xs.length < sizeLine /\ R (.lst (xs ++ [y]))
 | _,_=>False
theorem gR:SimM EH [.v el] el pmAppend:=⟨λB Hs W H a o x vs ys R K w e nF nS b r q k=>by
 obtain ⟨v,y,rfl,rfl,r1⟩:=r.one
 cases b with
 | lst h=>exact ⟨a,_,v,rfl,rfl,e,by rw [h.len];exact q.1,k _ _ _ rfl (.lst (h.append (.cons r1 .nil))) q.2⟩
 | dic l h=>exact q.elim⟩
def pPut (i:Nat) (pe pj:b8):bP:=λE env=>pe env λy=>match kL env i with
 | some (some (.lst xs))=>pj env λj=>(match j with
  | .int k=>(match yR xs.length k with
   | some n=>E.nx (kE env i (some (.lst (xs.set n y))))
   | none=>False)
  | _=>False)
 | _=>False
theorem a1O {j:Expr} (ho:QE X o (gH i)) (hi:md.getD i .no = .o el) (he:VE X md e (.v el) pe) (hj:VE X md j .bw pj)
  (ha:∀ v,assign (.Subscript o j p) X.env v = (do
   let ov <- holding [v] (eval o X.env)
   let iv <- holding [v,ov] (eval j X.env)
   standAt p
   holding [v,ov,iv] (setItem ov iv v)
   release [v,ov,iv] []):=by intro _;rfl)
  (hs:swapsWithSole [.Subscript o j p] e pos.line X.env = pure false:=by rfl) (hw:swappedStores [.Subscript o j p] e X.env = pure none:=by rfl)
  (h1:(assignEach [.Subscript o j p] X.env).map (·.2) = [assign (.Subscript o j p) X.env]:=by rfl):VS X md md lm rm (.Assign [.Subscript o j p] e pos) (pPut i pe pj):=⟨(EB he.h (E9 ho.h hj.h vC ha) hs hw h1).imp λD σ H=>by
 rintro ⟨env,W0,H0,W,E,R,q,l⟩
 refine ⟨env,W0,H0,W,_,R,q,λy v W1 H1 g1 r1 q1=>?_⟩
 have R1:=R.step g1
 rw [nJ] at q1
 cases ev:env[i]? with
 | none=>rw [ev] at q1;exact q1.elim
 | some ox =>
  cases ox with
  | none=>rw [ev] at q1;exact q1.elim
  | some x =>
   rw [ev] at q1
   cases x with
   | lst xs =>
    obtain ⟨a,ob,sv,oq⟩:=R1.ownAt hi ev
    refine ⟨.ref a,sv,env,W0,H0,W1,_,R1,q1,λjv u W2 H2 g2 r2 q2=>?_⟩
    have R2:=R1.step g2
    obtain ⟨a2,o2,sv2,oq2⟩:=R2.ownAt hi ev
    rw [sv] at sv2;cases sv2
    cases jv with
    | int k =>
     dsimp only at q2
     cases hn:yR xs.length k with
     | none=>rw [hn] at q2;exact q2.elim
     | some n =>
      rw [hn] at q2
      have b:=oq2.its
      have oq3:=oq2
      have hat:=oq2.at_
      generalize o2 = oo at b hat oq3
      cases b with
      | @lst us _ h =>
       have r1':Rep (el.G W2.F H0) H2 v y:=ResE.go (m:=.v el) r1 g1.ok g2
       refine ⟨a,us,k,n,rfl,Rep.ofInt r2,hat,by rw [h.len];exact hn,?_⟩
       have q2:E.nx (kE env i (some (PV.lst (xs.set n y)))):=q2
       rw [fX] at q2
       exact l.nx _ W2 σ _ (R2.put hi ev sv (.lst (h.set r1' n)) rfl) (((g1.trans g2).ex R.ok).trans (EC (K:=X.K) (md:=md) (W0:=W0) (σ:=σ) (env:=env) (i:=i) oq3)) q2
    | _=>exact q2.elim
   | _=>exact q1.elim⟩
end
def a4M:Md -> Md
 | .o e=>.c e
 | .v e=>.v e
 | .z e=>.z e
 | .c e=>.c e
 | .st=>.st
 | .scr=>.scr
 | _=>.no
def kA (n:Nat) (cap:List Nat) (md:List Md):List Md:=List.replicate n .no ++ cap.map λi=>a4M (md.getD i .no)
abbrev jn:Option (Option PV) -> Option PV
 | some o=>o
 | none=>none
def AE (n:Nat) (cap:List Nat) (env:bY):bY:=List.replicate n none ++ cap.map λi=>jn (kL env i)
def qU (md:List Md):Bool:=md.all λm=>match m with
 | .o _=>false
 | .bw=>false
 | .p _=>false
 | _=>true
theorem OO {md:List Md} (h:qU md = true) (i:Nat):(∀ e,md.getD i .no ≠ .o e) /\ md.getD i .no ≠ .bw /\ ∀ e,md.getD i .no ≠ .p e:=by
 unfold qU at h
 rw [a1k] at h
 rw [a0g]
 cases e:md[i]? with
 | none=>exact ⟨λ_ z=>(by cases z),λz=>(by cases z),λ_ z=>(by cases z)⟩
 | some m =>
  have:=h m (a0x e)
  cases m <;> first | (cases this;done) | exact ⟨λ_ z=>(by cases z),λz=>(by cases z),λ_ z=>(by cases z)⟩
section
variable {K:PySem.W.Frag} {md:List Md} {W W0 W1 W2:Wd} {H H0 H1 H2:Hp} {σ:St} {env:bY} {a:Addr}
theorem Wok.tmp (w:Wok W H) (nF:¬ W.F a) (nS:¬ W.S a) {o':HO}:Wok W (c7 H a o'):=⟨λb hb=>by
 rw [aG (λz=>by subst z;exact nF hb)];exact w.fF b hb,λb hb=>by
 obtain ⟨x1,x2,x3,e1,e2⟩:=w.sS b hb
 exact ⟨x1,x2,x3,by rw [aG (λz=>by subst z;exact nS hb)];exact e1,e2⟩,w.dj⟩
theorem Go.tmp (g:Go W H W2 H2) (ha:H a = none) (nF:¬ W2.F a) (nS:¬ W2.S a) {o':HO}:Go W H W2 (c7 H2 a o') :=
 ⟨g.lF,g.lS,g.nF,g.nS,λb o e s=>by rw [aG (λz=>by subst z;rw [ha] at e;cases e)];exact g.kp b o e s,g.ok.tmp nF nS,g.kk,g.kl⟩
theorem Rl.tmp (R:Rl K md W0 H0 W σ env H) (hb:qU md = true) (h0:H0 a = none) (nF:¬ W.F a) (nS:¬ W.S a) (nL:¬ W.L a) {o o':HO} (e:H a = some o) (hi:o.imm = false) (hz:∀ u q,o ≠ .frz u q):Rl K md W0 H0 W σ env (c7 H a o'):=by
 have ni:∀ b u,H b = some u -> u.imm = true -> b ≠ a:=λb u e2 hu z=>by subst z;rw [e] at e2;cases e2;rw [hi] at hu;cases hu
 have nf:∀ b,W.F b -> b ≠ a:=λb f z=>by subst z;exact nF f
 have keep:∀ {G:Addr -> Prop} {u:V} {y:PV},(∀ a,G a -> W.F a) -> Rep G H u y -> Rep G (c7 H a o') u y:=λhG r=>r.mono (λ_ h=>h) λb u h e=>by
  rw [aG (h.elim (λg=>nf b (hG b g)) (ni b u e))];exact e
 have keepB:∀ {G:Addr -> Prop} {u:HO} {y:PV},(∀ a,G a -> W.F a) -> Body G H u y -> Body G (c7 H a o') u y:=λhG r=>r.mono (λ_ h=>h) λb u h e=>by
  rw [aG (h.elim (λg=>nf b (hG b g)) (ni b u e))];exact e
 refine ⟨R.ok0,R.go.tmp h0 nF nS,R.len,λj y ej=>?_,R.sep,R.bws,R.kk⟩
 obtain ⟨u,su,ru⟩:=R.slot j y ej
 refine ⟨u,su,?_⟩
 obtain ⟨b1,b2,b3⟩:=OO hb j
 cases hmd:md.getD j .no with
 | no=>trivial
 | bw=>exact absurd hmd b2
 | p e'=>exact absurd hmd (b3 e')
 | o e'=>exact absurd hmd (b1 e')
 | v e'=>rw [hmd] at ru;exact keep (λ_ g=>El.GF g) ru
 | st=>rw [hmd] at ru;exact ru
 | scr =>
  rw [hmd] at ru
  obtain ⟨b,ns,e1,e2,z⟩:=ru
  refine ⟨b,ns,e1,e2,?_⟩
  rcases z with ⟨oo,z⟩ | z
  ·refine .inl ⟨oo,?_⟩
   rw [aG (λy=>?_)];exact z
   subst y
   rw [e] at z;cases z;exact hz _ _ rfl
  ·exact .inr z
 | z e' =>
  rw [hmd] at ru;obtain ⟨b,ob,z1,qb⟩:=ru
  exact ⟨b,ob,z1,qb.new,qb.F,by rw [aG (nf b qb.F)];exact qb.at_,keepB (λ_ g=>El.GF g) qb.its⟩
 | c e' =>
  rw [hmd] at ru;obtain ⟨b,ob,z1,l,s,h,bd⟩:=ru
  exact ⟨b,ob,z1,l,s,by rw [aG (λz=>by subst z;exact nL l)];exact h,keepB (λ_ g=>El.GF g) bd⟩
end
theorem FX {α:Type} (n:Nat) (cap:List Nat) (f:Nat -> α) (d0 d:α) (i:Nat):(List.replicate n d0 ++ cap.map f).getD i d = if i < n then d0 else match cap[i - n]? with | some c=>f c | none=>d:=by
 rw [a0g]
 by_cases h:i < n
 ·rw [if_pos h,a1p (by simpa using h),a2q,if_pos h];rfl
 ·rw [if_neg h,a1n (by simpa using h),a1t,a0h]
  cases cap[i - n]? <;> rfl
theorem JX {K:PySem.W.Frag} {md:List Md} {W0 W:Wd} {H0 H:Hp} {σ:St} {env:bY} {n:Nat} {cap:List Nat} (R:Rl K md W0 H0 W σ env H) (L:Addr -> Prop) (hL:∀ a o,H a = some o -> L a):Rl K (kA n cap md) { W0 with L:=L } H0 { W with L:=L } (JB n cap σ) (AE n cap env) H:=by
 have nown:∀ i,((kA n cap md).getD i .no).own = false:=λi=>by
  unfold kA
  rw [FX]
  split
  ·rfl
  ·cases cap[i - n]? with
   | none=>rfl
   | some c=>dsimp only;cases md.getD c .no <;> rfl
 refine ⟨⟨R.ok0.fF,R.ok0.sS,R.ok0.dj⟩,⟨R.go.lF,R.go.lS,R.go.nF,R.go.nS,R.go.kp,⟨R.go.ok.fF,R.go.ok.sS,R.go.ok.dj⟩,R.go.kk,rfl⟩,by simp [JB,AE],λi x e=>?_,λi j x y a hij oi=>(by rw [nown i] at oi;cases oi),?_,R.kk⟩
 ·unfold AE at e
  by_cases hi:i < n
  ·rw [a1p (by simpa using hi),a2q] at e
   split at e <;> cases e
  ·rw [a1n (by simpa using hi),a1t,a0h] at e
   cases hc:cap[i - n]? with
   | none=>rw [hc] at e;cases e
   | some c =>
    rw [hc] at e
    have e':jn (kL env c) = some x:=a1i e
    rw [nJ] at e'
    have ev:env[c]? = some (some x):=by
     cases q:env[c]? with
     | none=>rw [q] at e';cases e'
     | some o=>rw [q] at e';exact congrArg some e'
    obtain ⟨v,sv,r⟩:=R.slot c x ev
    refine ⟨v,?_,?_⟩
    ·unfold JB
     rw [a1n (by simpa using hi),a1t,a0h,hc,Option.map_some,a0g,sv];rfl
    ·unfold kA
     rw [FX,if_neg hi,hc]
     dsimp only
     cases hm:md.getD c .no with
     | o e=>rw [hm] at r;obtain ⟨a,o,rfl,q⟩:=r;exact ⟨a,o,rfl,hL a o q.at_,q.nS,q.at_,q.its⟩
     | v e=>rw [hm] at r;exact r
     | z e=>rw [hm] at r;obtain ⟨a,o,rfl,q⟩:=r;exact ⟨a,o,rfl,q.new,q.F,q.at_,q.its⟩
     | c e=>rw [hm] at r;obtain ⟨a,o,rfl,_,q2,q3,q4⟩:=r;exact ⟨a,o,rfl,hL a o q3,q2,q3,q4⟩
     | st=>rw [hm] at r;exact r
     | scr=>rw [hm] at r;exact r
     | _=>trivial
 ·unfold m4
  rw [a3n,a1k,a1k]
  refine .inr λm hm=>?_
  unfold kA at hm
  rcases a1g.mp hm with z | z
  ·rw [(List.mem_replicate.mp z).2];rfl
  ·obtain ⟨c,_,rfl⟩:=a0p.mp z
   cases md.getD c .no <;> rfl
def pK (g:lC) (tt:jB) (te:b8) (Q:PV -> Prop):List PV -> List PV -> bY -> Prop
 | [],acc,_=>Q (.lst acc)
 | x :: xs,acc,env=>g x env λenv1=>tt env1 λk=>Br k (te env1 λv=>pK g tt te Q xs (acc ++ [v]) env1) (pK g tt te Q xs acc env1)
def pLc (s:rT) (g:lC) (tt:jB) (te:b8) (cp:bY -> bY):b8:=λenv Q=>s env λitems=>items.length <= sizeLine /\ pK g tt te Q items [] (cp env)
def pTrue:jB:=λ_ Q=>Q true
structure VTs (X:Cx) (md:List Md) (ifs:List Expr) (p:jB):Prop where
 h:O7 X ifs (xJ X.K md p)
theorem O7.imp {X:Cx} {e:List Expr} {t t':TT} (h:O7 X e t) (k:∀ σ H K,t' σ H K -> t σ H K):O7 X e t':=λpins s σ H Q I q=>h pins s σ H Q I (k σ H Q q)
theorem eE {X:Cx} {md:List Md}:VTs X md [] pTrue:=⟨VL.imp λσ H K=>by
 rintro ⟨env,W0,H0,W,Q,R,q,k⟩
 exact k true W H (Go.refl R.ok) q⟩
theorem vL {X:Cx} {md:List Md} {c:Expr} {p:jB} (h:VT X md c p):VTs X md [c] p:=⟨VM h.h⟩
theorem L5 {K:PySem.W.Frag} {md mb:List Md} {el eli:El} {s:rT} {g:lC} {tt:jB} {te:b8} {n:Nat} {cap:List Nat} {σ:St} {H:Hp} {Q:VK} {cp:bY -> bY} (hcp:∀ env,cp env = AE n cap env) (hle:n0 mb (kA n cap md) = true) (hbl:qU mb = true)
  (h:i9 K md (.o el) (pLc s g tt te cp) σ H Q):a58 (CJ K md eli s) (A0 K (kA n cap md) mb eli g) (xJ K mb tt) (i9 K mb (.v el) te) n cap σ H Q:=by
 obtain ⟨env,W0,H0,W,Q',R,q,k⟩:=h
 refine ⟨env,W0,H0,W,_,R,q,λitems W1 H1 J g1 sr q1=>?_⟩
 intro acc hacc
 obtain ⟨hsz,q1⟩:=q1
 rw [hcp] at q1
 have h0acc:H0 acc = none:=R.go.free (g1.free hacc)
 have R1:=R.step g1
 have Rb:=JX (n:=n) (cap:=cap) R1 (λa=>∃ o,H1 a = some o) (λa o e=>⟨o,e⟩)
 generalize hW1b:({ W1 with L:=λa=>∃ o,H1 a = some o }:Wd) = W1b at Rb
 generalize hW0b:({ W0 with L:=λa=>∃ o,H1 a = some o }:Wd) = W0b at Rb
 have f1:W1b.F = W1.F:=by rw [<- hW1b]
 have s1:W1b.S = W1.S:=by rw [<- hW1b]
 have l1:¬ W1b.L acc:=by rw [<- hW1b];rintro ⟨o,e⟩;rw [hacc] at e;cases e
 have okb:Wok W1b H1:=Rb.ok
 have nF1:¬ W1b.F acc:=λz=>okb.offF hacc z
 have nS1:¬ W1b.S acc:=λz=>okb.offS hacc z
 have gl:Go W1b H1 W1b (c7 H1 acc (.lst [])):=Go.laid okb hacc
 have exW:∀ {Wb:Wd} {Hb:Hp},Go W1b H1 Wb Hb -> Ex W1 H1 Wb Hb:=λgb=>by
  have x:=gb.ex okb
  exact ⟨λa h=>x.lF a (by rw [f1];exact h),λa o h e=>x.kp a o (by rw [f1];exact h) e,x.im⟩
 refine ⟨λi m σb Hb=>m = items.length - i /\ i <= items.length /\ ∃ (envb:bY) (Wb:Wd) (vs:List V) (accx:List PV),Rl K (kA n cap md) W0b H0 Wb σb envb Hb /\ Go W1b H1 Wb Hb /\ Hb acc = some (.lst vs) /\ ¬ Wb.F acc /\ ¬ Wb.S acc /\ Reps (el.G Wb.F H0) Hb vs accx /\ accx.length <= i /\ pK g tt te Q' (items.drop i) accx envb,
  ⟨items.length,by simp,a2u _,AE n cap env,W1b,[],[],Rb.step gl,gl,bK,nF1,nS1,.nil,a2u _,by simpa using q1⟩,?_⟩
 rintro i m σb Hb ⟨rfl,hi,envb,Wb,vs,accx,Rr,gb,hat,nF,nS,rs,hal,qb⟩
 by_cases hlt:i < items.length
 ·rw [a3k hlt] at qb
  refine .inr ⟨sr.go i Wb Hb (exW gb) hlt,λσ' H'=>i + 1 <= items.length /\ ∃ (envb:bY) (Wb:Wd) (vs:List V) (accx:List PV),Rl K (kA n cap md) W0b H0 Wb σ' envb H' /\ Go W1b H1 Wb H' /\ H' acc = some (.lst vs) /\ ¬ Wb.F acc /\ ¬ Wb.S acc /\ Reps (el.G Wb.F H0) H' vs accx /\ accx.length <= i + 1 /\ pK g tt te Q' (items.drop (i + 1)) accx envb,
   λσ' H' z=>⟨items.length - (i + 1),by omega,rfl,z.1,z.2⟩,λv H3 y=>?_⟩
  obtain ⟨g3,x,ex,rx⟩:=sr.yld i Wb Hb v H3 (exW gb) Rr.ok hlt y
  rw [a0b hlt] at ex
  cases ex
  refine ⟨envb,W0b,H0,Wb,_,_,Rr.step g3,rx,qb,λenv' σ' R' z=>?_⟩
  refine ⟨env',W0b,H0,Wb,_,R',z,λkk W4 H4 g4 q4=>?_⟩
  have g34:=g3.trans g4
  have hat4:=g34.kp acc _ hat nS
  have nF4:=g34.nFF hat nF
  have nS4:=g34.nSS hat nS
  have rs4:Reps (el.G W4.F H0) H4 vs accx:=g34.reps Rr.ok (λ_ h=>El.nS Rr.ok h) (λ_ h=>El.up g34.lF (λ_ z=>z) h) rs
  cases kk with
  | false =>
   dsimp only
   rw [if_neg a0j]
   exact ⟨hlt,env',W4,vs,accx,(R'.step g4).less hle,gb.trans g34,hat4,nF4,nS4,rs4,by omega,q4⟩
  | true =>
   dsimp only
   rw [if_pos rfl]
   refine ⟨env',W0b,H0,W4,_,R'.step g4,q4,λw u W5 H5 g5 r5 q5=>?_⟩
   have hat5:=g5.kp acc _ hat4 nS4
   have nF5:=g5.nFF hat4 nF4
   have nS5:=g5.nSS hat4 nS4
   have rs5:Reps (el.G W5.F H0) H5 vs accx:=g5.reps g4.ok (λ_ h=>El.nS g4.ok h) (λ_ h=>El.up g5.lF (λ_ z=>z) h) rs4
   have gb5:=gb.trans (g34.trans g5)
   have nL5:¬ W5.L acc:=by rw [gb5.kl];exact l1
   refine ⟨vs,hat5,?_,hlt,env',W5,vs ++ [u],accx ++ [w],?_,gb5.tmp hacc nF5 nS5,bK,nF5,nS5,?_,?_,q5⟩
   ·have:=rs5.len;omega
   ·exact (((R'.step g4).step g5).tmp hbl h0acc nF5 nS5 nL5 hat5 rfl (λ_ _ z=>by cases z)).less hle
   ·have:=rs5.append (.cons r5 .nil)
    refine this.mono (λ_ h=>h) λb o hh e=>?_
    rw [aG (λz=>?_)];exact e
    subst z
    rcases hh with hh | hh
    ·exact nF5 (El.GF hh)
    ·rw [hat5] at e;cases e;cases hh
   ·simp;omega
 ·have e:i = items.length:=by omega
  subst e
  rw [a5y] at qb
  refine .inl ⟨sr.stop Wb Hb (exW gb),?_⟩
  have gf:Go W H { Wb with L:=W.L } Hb:=by
   have a:=g1
   refine ⟨λb h=>gb.lF b (by rw [f1];exact a.lF b h),λb h=>gb.lS b (by rw [s1];exact a.lS b h),λb h=>?_,λb h=>?_,λb o e s=>?_,⟨gb.ok.fF,gb.ok.sS,gb.ok.dj⟩,?_,rfl⟩
   ·rcases gb.nF b h with z | z
    ·exact a.nF b (by rw [<- f1];exact z)
    ·exact .inr (a.free z)
   ·rcases gb.nS b h with z | z
    ·exact a.nS b (by rw [<- s1];exact z)
    ·exact .inr (a.free z)
   ·refine gb.kp b o (a.kp b o e s) ?_
    rw [s1];exact a.nSS e s
   ·show Wb.K = W.K
    rw [gb.kk,<- hW1b];exact a.kk
  exact k (.lst accx) (.ref acc) _ Hb gf ⟨acc,_,rfl,g1.free hacc,nF,nS,hat,.lst rs⟩ qb
section
variable {X:Cx} {elt target iter:Expr} {ifs:List Expr} {scope:Scope} {pos:Pos} {N':List Str} {n:Nat} {cap:List Nat} {md mb:List Md} {el eli:El} {s:rT} {g:lC} {tt:jB} {te:b8}
theorem o5 {cp:bY -> bY} (hcp:∀ env,cp env = AE n cap env) (hc:X.calm = true) (S:LcOk X.N X.env.scope scope N' n cap) (hle:n0 mb (kA n cap md) = true) (hbl:qU mb = true) (hi:VI X md eli target iter s) (hg:∀ C s H fp,VG (bJ X N' scope C s H fp) (kA n cap md) mb eli target g)
  (ht:∀ C s H fp,VTs (bJ X N' scope C s H fp) mb ifs tt) (he:∀ C s H fp,VE (bJ X N' scope C s H fp) mb elt (.v el) te) (hs:∀ x,foldedSetIterable iter X.env x = pure x:=by intro _;rfl) :
  VE X md (.ListComp elt [⟨target,iter,ifs,0⟩] scope pos) (.o el) (pLc s g tt te cp) :=
 ⟨(a33 hc S hi.h (λC s H fp=>(hg C s H fp).h) (λC s H fp=>(ht C s H fp).h) (λC s H fp=>(he C s H fp).h) hs).imp λσ H Q h=>L5 hcp hle hbl h⟩
end
theorem Cal.imp {P:Program} {w:World} {K:PySem.W.Frag} {mg:Str -> Option Value} {base:Heap} {k:Nat} {x:Str} {ps:List Str} {sp sp':Sp} (C:Cal P w K mg base k x ps sp) (h:∀ vs H Q E,sp' vs H Q E -> sp vs H Q E):Cal P w K mg base k x ps sp':=by
 obtain ⟨f,fd,a,b,c,l,d⟩:=C.ex
 exact ⟨f,fd,a,b,c,l,d.imp h⟩
def LG:PN:=λxs R=>match xs with
 | [.st,.int m]=>0 < m /\ m < 2 ^ 250 /\ ∀ r:Int,0 <= r -> r < m -> R (.int r)
 | _=>False
def JQ:PN:=λxs R=>match xs with
 | [.scr _,.int k]=>0 <= k /\ k < 1000000 /\ R .st
 | _=>False
theorem Go.state {W:Wd} {H:Hp} {p:Addr} {a b c:Int} (w:Wok W H) (hs:W.S p) (ok:StOk a b c):Go W H W (c7 H p (T4 a b c)) where
 lF:=λ_ h=>h
 lS:=λ_ h=>h
 nF:=λ_ h=>.inl h
 nS:=λ_ h=>.inl h
 kp:=λq o e s=>by rw [aG (λz=>by subst z;exact s hs)];exact e
 ok:=⟨λq f=>by rw [aG (λz=>by subst z;exact w.dj q f hs)];exact w.fF q f,λq f=>by
  by_cases h:q = p
  ·subst h;exact ⟨a,b,c,bK,ok⟩
  ·obtain ⟨x1,x2,x3,e,z⟩:=w.sS q f
   exact ⟨x1,x2,x3,by rw [aG h];exact e,z⟩,w.dj⟩
 kk:=rfl
 kl:=rfl
section
variable {P:Program} {w:World} {K:PySem.W.Frag} {mg:Str -> Option Value} {base:Heap} {k:Nat} {x:Str} {ps:List Str}
theorem OX (C:Cal P w K mg base k x ps SC):Cal P w K mg base k x ps (o9 K [.st,.bw] (.v .fl) LG):=C.imp λvs H Q E h=>by
 obtain ⟨xs,W,R,hk,wk,r,q,kk⟩:=h
 obtain ⟨v,x,u,y,rfl,rfl,r1,r2⟩:=r.two
 obtain ⟨p,rfl,rfl,hs⟩:=r1
 unfold LG at q
 cases y with
 | int m =>
  obtain ⟨a,b,c,e,ok⟩:=wk.sS p hs
  rw [Rep.ofInt r2]
  exact ⟨p,m,a,b,c,rfl,e,ok,q.1,q.2.1,λr a' b' c' h0 h1 ok'=>kk _ _ W _ (Go.state wk hs ok') (.int _) (q.2.2 r h0 h1)⟩
 | _=>exact q.elim
theorem MJ (C:Cal P w K mg base k x ps (LW K)):Cal P w K mg base k x ps (o9 K [.scr,.bw] .st JQ):=C.imp λvs H Q E h=>by
 obtain ⟨xs,W,R,hk,wk,r,q,kk⟩:=h
 obtain ⟨v,x,u,y,rfl,rfl,r1,r2⟩:=r.two
 obtain ⟨p,ns,rfl,rfl,hs⟩:=r1
 unfold JQ at q
 cases y with
 | int m =>
  rw [Rep.ofInt r2]
  rw [hk] at hs
  refine ⟨p,m,ns,rfl,hs.sq,q.1,q.2.1,λs a b c hn ok=>?_⟩
  have g0:Go W H W (c7 H s (T4 a b c)):=Go.laid wk hn
  refine kk .st (.ref s) { W with S:=λb=>W.S b \/ b = s } _ ⟨λ_ h=>h,λ_ h=>.inl h,λ_ h=>.inl h,λb h=>h.elim .inl λz=>.inr (by rw [z];exact hn),λb o e hb=>g0.kp b o e hb,⟨g0.ok.fF,λz h=>?_,λb f h=>?_⟩,rfl,rfl⟩ ⟨s,rfl,rfl,.inr rfl⟩ q.2.2
  ·rcases h with h | h
   ·exact g0.ok.sS z h
   ·subst h;exact ⟨a,b,c,bK,ok⟩
  ·rcases h with h | h
   ·exact wk.dj b f h
   ·subst h;exact wk.offF hn f
 | _=>exact q.elim
def ES (K:PySem.W.Frag):Sp:=λvs H Q _=>∃ (a:Addr) (ns:List Int),vs = [.ref a] /\ ScrAt K H a ns /\ ns.length <= 63 /\ ∀ H',Q (.bl true) H'
theorem S8 {H:Hp} {a:Addr} {ns:List Int} (h:fN K H a (ns.map V.int)) (o:T7 H):ScrAt K H a ns:=by
 rcases h with (h | h) | h
 ·rcases o a with z | ⟨u,q,z⟩
  ·rw [z] at h;cases h
  ·rw [z] at h;cases h
 ·exact .inl h
 ·exact .inr h
theorem TQ {p:PN} (C:Cal P w K mg base k x ps (o9 K [.scr] (.v .fl) p)) (h:∀ ns:List Int,ns.length <= 63 -> p [.scr ns] λr=>r = .bl true):Cal P w K mg base k x ps (ES K):=C.imp λvs H Q E z=>by
 obtain ⟨a,ns,rfl,hs,hl,q⟩:=z
 refine ⟨[.scr ns],⟨K,λ_=>False,λ_=>False,λ_=>False⟩,_,rfl,⟨λ_ z=>z.elim,λ_ z=>z.elim,λ_ z=>z.elim⟩,.cons ⟨a,ns,rfl,rfl,hs⟩ .nil,h ns hl,λx v W' H' _ r e=>?_⟩
 subst e
 rw [Rep.ofBl r]
 exact q H'
end
section
variable {X:Cx} {md:List Md} {el:El} {i:Nat} {tg:Expr}
theorem aU (h:QG X tg (nY i)) (hm:m4 (md.set i (.v el)) = true) (hl:i < md.length):VG X md (md.set i (.v el)) el tg (pgName i):=⟨h.h.imp λv σ H Q=>by
 rintro ⟨env,W0,H0,W,x,R,Rr,r,q,k⟩
 unfold pgName at q
 rw [fX] at q
 exact k _ _ (Rr.set (Go.refl Rr.ok) (m:=.v el) r hm hl) q⟩
end
def pEqI:P2:=pI0 λi j=>.bl (decide (i = j))
def pNeI:P2:=pI0 λi j=>.bl (!decide (i = j))
theorem FM {i j:Int}:decide (V.int i = V.int j) = decide (i = j):=by
 by_cases h:i = j
 ·subst h;simp
 ·rw [a1f h,a1f (λz=>h (V.int.inj z))]
theorem WB:SimOp a50 (.v .fl) pEqI:=⟨λB W H x y px py Q K w rx ry q k=>by
 cases px with
 | int i=>cases py with
  | int j=>refine ⟨by rw [rx.ofInt,ry.ofInt];rfl,?_⟩;rw [rx.ofInt,ry.ofInt,FM];exact k.atom w (.bl _) q
  | _=>exact q.elim
 | _=>exact q.elim⟩
theorem LV:SimOp a52 (.v .fl) pNeI:=⟨λB W H x y px py Q K w rx ry q k=>by
 cases px with
 | int i=>cases py with
  | int j=>refine ⟨by rw [rx.ofInt,ry.ofInt];rfl,?_⟩;rw [rx.ofInt,ry.ofInt,FM];exact k.atom w (.bl _) q
  | _=>exact q.elim
 | _=>exact q.elim⟩
def pAddI:P2:=pI0 λi j=>.int (i + j)
def pSubI:P2:=pI0 λi j=>.int (i - j)
def pMulI:P2:=pI B6 λi j=>.int (i * j)
def pPowI:P2:=pI B7 λi j=>.int (i ^ j.toNat)
def pLtI:P2:=pI0 λi j=>.bl (decide (i < j))
def pLeI:P2:=pI0 λi j=>.bl (decide (i <= j))
def pGtI:P2:=pI0 λi j=>.bl (decide (j < i))
def pNegI:PV -> (PV -> Prop) -> Prop:=pU λi=>.int (-i)
section
variable {X:Cx} {md:List Md} {a:Expr} {pa:b8} {pos:Pos}
theorem pX (ha:VE X md a .bw pa):VE X md (.UnaryOp .USub a pos) (.v .fl) (pUn pNegI pa):=a40 LQ (λB W H x px Q K w r q k=>by
 cases px with
 | int i=>exact ⟨i,r.ofInt,k.atom w (.int _) q⟩
 | _=>exact q.elim) ha
theorem nT:SimOp (BN λi j=>.int (i + j)) (.v .fl) pAddI:=S9
theorem HN:SimOp (BN λi j=>.int (i - j)) (.v .fl) pSubI:=S9
theorem NU:SimOp (rI B6 λi j=>.int (i * j)) (.v .fl) pMulI:=XI
theorem K5:SimOp (rI B7 λi j=>.int (i ^ j.toNat)) (.v .fl) pPowI:=XI
theorem a5O:SimOp (BN λi j=>.bl (decide (i < j))) (.v .fl) pLtI:=K6
theorem a5N:SimOp (BN λi j=>.bl (decide (i <= j))) (.v .fl) pLeI:=K6
theorem a1T:SimOp (BN λi j=>.bl (decide (j < i))) (.v .fl) pGtI:=K6
end
theorem N7 {G:Addr -> Prop} {H:Hp} (m:Nat):Reps G H (xH m) (dQ 0 m):=by
 have:xH m = ((List.range m).map λ(i:Nat)=>(i:Int)).map V.int:=by simp [xH]
 have h2:dQ 0 m = ((List.range m).map λ(i:Nat)=>(i:Int)).map PV.int:=by simp [dQ]
 rw [this,h2];exact qF _
def pListR (a:b8):b8:=λenv Q=>a env λx=>match x with
 | .int j=>0 <= j /\ j <= 1000 /\ Q (.lst (dQ 0 j.toNat))
 | _=>False
section
variable {X:Cx} {md:List Md} {a:Expr} {pa:b8} {p1 p2 pos1 pos2:Pos}
theorem ST (hc:X.calm = true) (hg:X.env.scope.names.lookup ("list" : Str) = some .globalImplicit) (hm:X.mg "list" = none) (hg2:X.env.scope.names.lookup ("range" : Str) = some .globalImplicit) (hm2:X.mg "range" = none) (ha:VE X md a .bw pa)
  (he:starEach [a] X.env = (false,eval a X.env) :: starEach [] X.env:=by rfl) (hpl:(backTo pos2 (starEach [] X.env)).any (·.1) = false:=by rfl)
  (he1:starEach [.Call (.Name "range" p2) [a] [] pos2] X.env = (false,eval (.Call (.Name "range" p2) [a] [] pos2) X.env) :: starEach [] X.env:=by rfl) (hpl1:(backTo pos1 (starEach [] X.env)).any (·.1) = false:=by rfl) :
  VE X md (.Call (.Name "list" p1) [.Call (.Name "range" p2) [a] [] pos2] [] pos1) (.o .fl) (pListR pa) :=
 ⟨(m7 (TK hc) hg hm TJ (iV (m7 TL hg2 hm2 OU (iV ha.h nM he) (by decide) (by decide) he hpl) nM he1) (by decide) (by decide) he1 hpl1).imp λσ H K=>by
  rintro ⟨env,W0,H0,W,Q,R,q,k⟩
  refine ⟨env,W0,H0,W,_,R,q,λx v W1 H1 g1 r1 q1=>?_⟩
  cases x with
  | int j =>
   have hv:=Rep.ofInt r1
   subst hv
   refine ⟨j,rfl,λp hp=>⟨p,j,rfl,bK,⟨q1.1,q1.2.1⟩,λl hl=>?_⟩⟩
   have g2:Go W1 H1 W1 (c7 H1 p (.rng 0 j)):=Go.laid g1.ok hp
   exact (k.after (g1.trans g2)).newL g2.ok hl (N7 _) q1.2.2
  | _=>exact q1.elim⟩
end
open PySem
def CW (xs:Array Nat):Prop:=xs.toList.Pairwise (· < ·)
theorem CW.lt {xs:Array Nat} (h:CW xs) {i k:Nat} {a b:Nat} (hik:i < k) (ha:xs[i]? = some a) (hb:xs[k]? = some b):a < b:=by
 unfold CW at h
 rw [a2y] at h
 rw [<- a2n] at ha hb
 obtain ⟨h1,rfl⟩:=a0k.mp ha
 obtain ⟨h2,rfl⟩:=a0k.mp hb
 exact h i k h1 h2 hik
theorem z8 (xs:Array Nat) (j:Nat) (hr:CW xs):∀ (fuel lo hi:Nat),lo <= hi -> hi <= xs.size -> hi - lo <= fuel -> (∀ i a,i < lo -> xs[i]? = some a -> a < j) -> (∀ i a,hi <= i -> xs[i]? = some a -> j <= a) ->
  SetTable.below.go xs j fuel lo hi <= xs.size /\ (∀ i a,i < SetTable.below.go xs j fuel lo hi -> xs[i]? = some a -> a < j) /\ ∀ i a,SetTable.below.go xs j fuel lo hi <= i -> xs[i]? = some a -> j <= a
 | 0,lo,hi,h1,h2,h3,h4,h5=>by
  have:lo = hi:=by omega
  subst this
  rw [SetTable.below.go]
  exact ⟨h2,h4,h5⟩
 | fuel + 1,lo,hi,h1,h2,h3,h4,h5=>by
  rw [SetTable.below.go]
  by_cases hlt:lo < hi
  ·rw [if_pos hlt]
   dsimp only
   have hm:(lo + hi) / 2 < xs.size:=by omega
   have hg:xs.getD ((lo + hi) / 2) j = xs[(lo + hi) / 2]:=by simp [Array.getD,hm]
   rw [hg]
   by_cases hc:xs[(lo + hi) / 2] < j
   ·rw [if_pos hc]
    refine z8 xs j hr fuel ((lo + hi) / 2 + 1) hi (by omega) h2 (by omega) (λi a hi' ha=>?_) h5
    by_cases hi2:i = (lo + hi) / 2
    ·subst hi2
     rw [a0v hm] at ha
     cases ha;exact hc
    ·exact a2h (hr.lt (by omega:i < (lo + hi) / 2) ha (a0v hm)) hc
   ·rw [if_neg hc]
    refine z8 xs j hr fuel lo ((lo + hi) / 2) (by omega) (by omega) (by omega) h4 (λi a hi' ha=>?_)
    by_cases hi2:i = (lo + hi) / 2
    ·subst hi2
     rw [a0v hm] at ha
     cases ha;omega
    ·have:=hr.lt (by omega:(lo + hi) / 2 < i) (a0v hm) ha
     omega
  ·rw [if_neg hlt]
   have:lo = hi:=by omega
   subst this
   exact ⟨h2,h4,h5⟩
theorem zA {xs:Array Nat} (hr:CW xs) (j:Nat):SetTable.below xs j <= xs.size /\ (∀ i a,i < SetTable.below xs j -> xs[i]? = some a -> a < j) /\ ∀ i a,SetTable.below xs j <= i -> xs[i]? = some a -> j <= a :=
 z8 xs j hr xs.size 0 xs.size (a2u _) (a0l _) (by omega) (λi a h=>by omega) λi a h ha=>by
  have:=(Array.getElem?_eq_some_iff.mp ha).1
  omega
theorem zB {xs:Array Nat} (hr:CW xs):SetTable.below xs 0 = 0:=by
 obtain ⟨h1,h2,_⟩:=zA hr 0
 refine Nat.eq_zero_of_not_pos λh=>?_
 have:=h2 0 xs[0] h (a0v (by omega))
 omega
theorem z9 {xs:Array Nat} (hr:CW xs) {i j:Nat} (h:xs[i]? = some j):SetTable.below xs (j + 1) = i + 1:=by
 obtain ⟨h1,h2,h3⟩:=zA hr (j + 1)
 have hi:i < xs.size:=(Array.getElem?_eq_some_iff.mp h).1
 refine Nat.le_antisymm (a4j λhlt=>?_) (a4j λhlt=>?_)
 ·have hs:i + 1 < xs.size:=by omega
  have a1:=h2 (i + 1) _ hlt (a0v hs)
  have a2:=hr.lt (a2z i) h (a0v hs)
  omega
 ·have:=h3 i j (by omega) h
  omega
theorem JW {xs:Array Nat} (hr:CW xs) {j:Nat} (hj:xs[SetTable.below xs j]? ≠ some j):CW (SetTable.insertAt xs (SetTable.below xs j) j):=by
 obtain ⟨h1,h2,h3⟩:=zA hr j
 unfold CW SetTable.insertAt
 have e1:(xs.extract 0 (SetTable.below xs j)).toList = xs.toList.take (SetTable.below xs j):=by simp
 have e2:(xs.extract (SetTable.below xs j) xs.size).toList = xs.toList.drop (SetTable.below xs j):=by
  simp [Array.toList_extract]
  apply a5o
  simp
 rw [a4n,a6k,e1,e2]
 have hp:xs.toList.Pairwise (· < ·):=hr
 have ha:∀ a ∈ xs.toList.take (SetTable.below xs j),a < j:=λa ha=>by
  obtain ⟨i,hi,rfl⟩:=a1v ha
  rw [a2f] at hi
  refine h2 i _ (by omega) ?_
  rw [List.getElem_take,<- a2n]
  exact a0b _
 have hb:∀ b ∈ xs.toList.drop (SetTable.below xs j),j < b:=λb hb=>by
  obtain ⟨i,hi,rfl⟩:=a1v hb
  rw [List.length_drop] at hi
  rw [List.getElem_drop]
  have hlt:SetTable.below xs j + i < xs.toList.length:=by omega
  have g:xs[SetTable.below xs j + i]? = some (xs.toList[SetTable.below xs j + i]):=by rw [<- a2n];exact a0b _
  have a1:=h3 _ _ (Nat.le_add_right _ _) g
  refine Nat.lt_of_le_of_ne a1 λz=>?_
  cases i with
  | zero=>exact hj ((show xs[SetTable.below xs j]? = _ from g).trans (congrArg some z.symm))
  | succ i =>
   have hs:SetTable.below xs j < xs.size:=by simp at hlt;omega
   have a2:=h3 _ _ (a0l _) (a0v hs)
   have a3:=hr.lt (by omega:SetTable.below xs j < SetTable.below xs j + (i + 1)) (a0v hs) g
   omega
 rw [a5e,a5e]
 refine ⟨⟨hp.sublist (List.take_sublist _ _),by simp,λa h b hb'=>by simp at hb';subst hb';exact ha a h⟩,hp.sublist (List.drop_sublist _ _),λa h b hb'=>?_⟩
 rcases a1g.mp h with z | z
 ·exact a2h (ha a z) (hb b hb')
 ·simp at z;subst z;exact hb b hb'
def O8 (bt:Bool) (t:SetTable):Prop:=bt = true \/ (t.led = true /\ (t.plain = true -> CW t.place))
theorem HU {t:SetTable} {j:Nat} (h:∀ i,t.slot j ≠ .live i):t.place[SetTable.below t.place j]? ≠ some j:=λe=>by
 refine h (SetTable.below t.place j) ?_
 unfold SetTable.slot
 dsimp only
 rw [if_pos (by rw [e];simp)]
theorem AI {t:SetTable} {f:Nat -> Int} {h:Int}:∀ (fuel:Nat) (p:SetTable.Probe) (j:Nat) (d:Option Nat),SetTable.probe.go t f h fuel p = some (.empty j d) -> (∀ x,p.dummy = some x -> ∀ i,t.slot x ≠ .live i) ->
  (∀ i,t.slot j ≠ .live i) /\ ∀ x,d = some x -> ∀ i,t.slot x ≠ .live i
 | 0,p,j,d,e,_=>by rw [SetTable.probe.go] at e;cases e
 | fuel + 1,p,j,d,e,hp=>by
  rw [SetTable.probe.go] at e
  cases hs:t.slot p.j with
  | empty =>
   rw [hs] at e
   simp only [a6l,SetTable.Met.empty.injEq] at e
   obtain ⟨e1,e2⟩:=e
   subst e1 e2
   exact ⟨λi z=>(by rw [hs] at z;cases z),hp⟩
  | dummy =>
   rw [hs] at e
   refine AI fuel _ j d e λx hx i=>?_
   have:(t.advance { p with dummy:=some p.j }).dummy = some p.j:=by
    unfold SetTable.advance
    split <;> rfl
   rw [this] at hx
   cases hx
   rw [hs];intro z;cases z
  | live k =>
   rw [hs] at e
   dsimp only at e
   split at e
   ·cases e
   ·refine AI fuel _ j d e λx hx=>hp x ?_
    have:(t.advance p).dummy = p.dummy:=by
     unfold SetTable.advance
     split <;> rfl
    rw [this] at hx;exact hx
theorem DK {t:SetTable} {h:Int} {j:Nat} {b:Bool} (e:t.freeSlot h = some (j,b)):t.place[SetTable.below t.place j]? ≠ some j:=by
 unfold SetTable.freeSlot at e
 split at e
 ·rename_i j' d hp
  have:=AI _ _ _ _ (show SetTable.probe.go t _ h _ _ = _ from hp) (λx hx=>by cases hx)
  simp only [a6l,Prod.mk.injEq] at e
  obtain ⟨e1,e2⟩:=e
  cases d with
  | none=>simp at e1;subst e1;exact HU this.1
  | some x=>simp at e1;subst e1;exact HU (this.2 _ rfl)
 ·cases e
theorem ND {bt:Bool} {t:SetTable} {es:Array (Int × Value)} {h:Int} {x:Value} (hw:O8 bt t):O8 bt (layNew t es h x).2.1:=by
 rcases hw with hw | ⟨hl,hp⟩
 ·exact .inl hw
 ·refine .inr ?_
  unfold layNew
  cases e:t.freeSlot h with
  | none=>exact ⟨hl,λz=>by cases z⟩
  | some q =>
   obtain ⟨j,b⟩:=q
   dsimp only
   unfold SetTable.orStandIn
   split
   ·exact ⟨hl,λz=>JW (hp z) (DK e)⟩
   ·exact ⟨hl,λz=>by cases z⟩
theorem G3 {mask finger moves:Nat} {led plain:Bool} {hs:Array Int} {t:SetTable} {o:Array Nat} (e:SetTable.laid mask finger moves led plain hs = some (t,o)):t.led = led /\ t.plain = plain /\ CW t.place:=by
 unfold SetTable.laid at e
 cases h:SetTable.layClean mask hs with
 | none=>rw [h] at e;cases e
 | some owner =>
  rw [h] at e
  simp only [Option.pure_def,Option.bind_eq_bind,Option.bind_some,a6l,Prod.mk.injEq] at e
  obtain ⟨e1,e2⟩:=e
  subst e1
  refine ⟨rfl,rfl,?_⟩
  unfold CW
  dsimp only
  show ((_:List Nat)).Pairwise _
  rw [a3q]
  rw [List.pairwise_filterMap]
  refine List.pairwise_lt_range.imp fun {a b} hab x hx y hy=>?_
  simp only [a0u] at hx hy
  obtain ⟨_,_,rfl⟩:=hx
  obtain ⟨_,_,rfl⟩:=hy
  exact hab
theorem HD {bt:Bool} {t:SetTable} {es:Array (Int × Value)} {n:Nat} (hw:O8 bt t):O8 bt (relayAll t es n).2.1:=by
 rcases hw with hw | ⟨hl,hp⟩
 ·exact .inl hw
 ·refine .inr ?_
  unfold relayAll
  cases e:t.relaid (es.map (·.1)) n with
  | none=>exact ⟨hl,λz=>by cases z⟩
  | some q =>
   obtain ⟨t',order⟩:=q
   dsimp only
   obtain ⟨a1,a2,a3⟩:=G3 (show SetTable.laid _ _ _ _ _ _ = _ from e)
   split
   ·exact ⟨a1.trans hl,λ_=>a3⟩
   ·exact ⟨hl,λz=>by cases z⟩
def dP:Value -> Int
 | .int k _=>k
 | _=>0
def c6 (P:Program) (w:World) (a:Addr) (S:Int -> Bool) (n:Nat) (h:Heap):Prop :=
 ∃ o es ep t,h.get? a = some o /\ o.ExactSet /\ o.data = .set es ep t /\ ElemsOf (intKind P w) es.toList /\ (∀ k,S k = true ↔ ∃ e ∈ es.toList,(intKind P w).is k e.2 = true) /\ es.size < scanBound /\ t.fits es.size = true /\ es.size = n /\
  O8 (w.params.followText "set-order") t /\ (es.toList.map λe=>dP e.2).Nodup
section
variable {prog:Program} {w:World} {A:Around} {E:Value -> Shared -> Prop} {s:Shared}
theorem d8 {k:Int} {v:Value} (h:(intKind prog w).is k v = true):∃ t,v = .int k t:=Value.isInt_shape (k:=k) (v:=v) h
theorem C0 {g:Bool -> Sem Unit} (hg:∀ (b:Bool) (s₁:Shared) (Q':Unit -> Shared -> Prop),Q' () s₁ -> wpAny (model prog w) A (g b) Q' E s₁)
  {a:Addr} {o:Obj} {es:Array (Int × Value)} {ep:Nat} {t:SetTable} (ho:s.heap.get? a = some o) (hex:o.ExactSet) (hd:o.data = .set es ep t)
  {es1:Array (Int × Value)} {t2:SetTable} {S':Int -> Bool} (hel1:ElemsOf (intKind prog w) es1.toList) (hmem1:∀ k',S' k' = true ↔ ∃ e ∈ es1.toList,(intKind prog w).is k' e.2 = true)
  (hb1:es1.size < scanBound) (hf2:t2.fits es1.size = true) (hw2:O8 (w.params.followText "set-order") t2) (hnd:(es1.toList.map λe=>dP e.2).Nodup) {wasDummy:Bool} {R:Option Bool -> Shared -> Prop}
  (h:∀ h',Heap.SameBut a s.heap h' -> c6 prog w a S' es1.size h' -> R (some true) { s with heap:=h' }) :
  wpAny (model prog w) A (do
    storeSet a es1 t2
    if (!wasDummy && t2.tooFull) = true then do
      g (relayAll t2 es1 (SetTable.grown es1.size)).2.2
      storeSet a (relayAll t2 es1 (SetTable.grown es1.size)).1 (relayAll t2 es1 (SetTable.grown es1.size)).2.1
      pure (some true)
     else pure (some true)) R E s:=by
 refine a0a (a4g ho hd ?_ (a4x hb1))
 obtain ⟨ho1,hS1⟩:=a5p (knd:=intKind prog w) ho hex hd hel1 hmem1 hb1 hf2
 have hsb1:=a2l s.heap a (Obj.putSet es1 t2)
 split
 ·have hp:=relayAll_perm t2 es1 (SetTable.grown es1.size)
  have hfr:=relayAll_fits t2 es1 (SetTable.grown es1.size)
  have hwr:O8 (w.params.followText "set-order") (relayAll t2 es1 (SetTable.grown es1.size)).2.1:=HD hw2
  generalize hRl:relayAll t2 es1 (SetTable.grown es1.size) = Rl at hp hfr hwr ⊢
  obtain ⟨es2,t3,gave2⟩:=Rl
  dsimp only at hp hfr hwr ⊢
  have hel2:ElemsOf (intKind prog w) es2.toList:=hel1.perm hp
  have hmem2:∀ k',S' k' = true ↔ ∃ e ∈ es2.toList,(intKind prog w).is k' e.2 = true:=λk'=>(hmem1 k').trans ⟨λ⟨e,he,q⟩=>⟨e,hp.mem_iff.mpr he,q⟩,λ⟨e,he,q⟩=>⟨e,hp.mem_iff.mp he,q⟩⟩
  have hsz:es2.size = es1.size:=by rw [<- a0s,hp.length_eq,a0s]
  have hb2:es2.size < scanBound:=by rw [hsz];exact hb1
  refine a0a (hg _ _ _ ?_)
  refine a0a (a4g ho1 rfl ?_ (a4x hb2))
  obtain ⟨ho2,_⟩:=a5p (knd:=intKind prog w) ho1 hex rfl hel2 hmem2 hb2 hfr
  exact a0c (h _ (hsb1.trans (a2l _ a _)) ⟨_,es2,_,t3,ho2,hex,rfl,hel2,hmem2,hb2,hfr,hsz,hwr,(hp.map _).nodup_iff.mpr hnd⟩)
 ·exact a0c (h _ hsb1 ⟨_,es1,_,t2,ho1,hex,rfl,hel1,hmem1,hb1,hf2,rfl,hw2,hnd⟩)
theorem oG {a:Addr} {S:Int -> Bool} {n:Nat} {k:Int} {x:Value} {Q:Bool -> Shared -> Prop} (hkey:(intKind prog w).is k x = true) (hsc:x.scannable = true) (hS:c6 prog w a S n s.heap)
  (hroom:n + 1 < scanBound)
  (h:∀ h',Heap.SameBut a s.heap h' -> c6 prog w a (λk'=>S k' || decide (k' = k)) (if S k then n else n + 1) h' -> Q (!S k) { s with heap:=h' }) :
  wpAny (model prog w) A (setAddHashed a x ((intKind prog w).hash k)) Q E s:=by
 obtain ⟨o,es,ep,t,ho,hex,hd,hel,hmem,hb,hf,hn,hwk,hnd⟩:=hS
 have hb1:es.size + 1 < scanBound:=by rw [hn];exact hroom
 unfold setAddHashed setAddHashedIn
 refine a1s (a0a (a3f ho hd hf ?_))
 dsimp only
 rw [byScan_of hsc hb hel]
 simp only [↓reduceIte]
 unfold setAddByScan
 refine a0a ?_
 refine a0a (a4r ?_)
 refine a0a (wpAny_setScan_of hkey ho hd hf hel ?_)
 cases hr:List.findIdx? (λe=>(intKind prog w).is k e.2) es.toList with
 | some j =>
  dsimp only
  obtain ⟨hj,hpj,_⟩:=a5q.mp hr
  have hSk:S k = true:=(hmem k).mpr ⟨es.toList[j],a1x hj,hpj⟩
  refine a0c (a0c ?_)
  have e:s = { s with heap:=s.heap }:=by cases s;rfl
  have:=h s.heap (a4h a s.heap) ⟨o,es,ep,t,ho,hex,hd,hel,λk'=>by
   rw [a3n,a4y,<- hmem k']
   exact ⟨λhk=>hk.elim id (λe=>e ▸ hSk),.inl⟩,hb,hf,by rw [hSk];exact hn,hwk,hnd⟩
  rw [hSk] at this;rw [e];exact this
 | none =>
  dsimp only
  have hSk:S k = false:=by
   cases hk:S k with
   | false=>rfl
   | true=>obtain ⟨e,he,hp⟩:=(hmem k).mp hk;have:=List.findIdx?_eq_none_iff.mp hr e he;rw [hp] at this;exact Bool.noConfusion this
  have hgw:∀ (b:Bool) {s₁:Shared} {Q':Unit -> Shared -> Prop},Q' () s₁ -> wpAny (model prog w) A (match b with | true=>rule "set.scan.the-table-gave-way" | false=>pure ()) Q' E s₁ :=
   λb s₁ Q' hq=>by cases b <;> first | exact a0c hq | exact a4r hq
  have hperm:=layNew_perm t es ((intKind prog w).hash k) x
  have hfits:=layNew_fits t es ((intKind prog w).hash k) x
  have hwk1:O8 (w.params.followText "set-order") (layNew t es ((intKind prog w).hash k) x).2.1:=ND hwk
  generalize hL:layNew t es ((intKind prog w).hash k) x = L at hperm hfits hwk1 ⊢
  obtain ⟨es1,t1,wasDummy,gave⟩:=L
  dsimp only at hperm hfits hwk1 ⊢
  rw [a6k] at hperm
  have hel1:ElemsOf (intKind prog w) es1.toList:=(hel.push hkey hsc).perm hperm
  have hmem1:∀ k',(S k' || decide (k' = k)) = true ↔ ∃ e ∈ es1.toList,(intKind prog w).is k' e.2 = true:=mem_push_iff hkey hmem hperm
  have hb1':es1.size < scanBound:=by rw [<- a0s,hperm.length_eq,a1d,a0s];simpa using hb1
  have hnd1:(es1.toList.map λe=>dP e.2).Nodup:=by
   rw [(hperm.map λe=>dP e.2).nodup_iff,a1c,a6m]
   refine ⟨hnd,by simp,λa ha b hb'=>?_⟩
   simp only [a0f,a5i,a5k] at hb'
   subst hb'
   obtain ⟨tx,rfl⟩:=d8 hkey
   obtain ⟨e,he,rfl⟩:=a0p.mp ha
   obtain ⟨⟨k2,hk2,_⟩,_⟩:=hel e he
   obtain ⟨t2,e2⟩:=d8 hk2
   rw [e2]
   intro z
   have z':k2 = k:=z
   subst z'
   have:=(hmem k2).mpr ⟨e,he,hk2⟩
   rw [hSk] at this;cases this
  refine a0a (hgw _ ?_)
  have hsz1:es1.size = n + 1:=by rw [<- a0s,hperm.length_eq,a1d,a0s,hn];rfl
  have hend:∀ h',Heap.SameBut a s.heap h' -> c6 prog w a (λk'=>S k' || decide (k' = k)) es1.size h' -> Q true { s with heap:=h' }:=by
   intro h' hsb hS';have:=h h' hsb;rw [hSk] at this;rw [hsz1] at hS';exact this hS'
  split
  ·refine a0a ?_
   rw [hashByValue_scannable 8 hsc]
   refine a0c ?_
   refine C0 ?_ ho hex hd hel1 hmem1 hb1' ?_ ?_ hnd1 ?_
   ·intro b s₁ Q' hq;cases b <;> first | exact a0c hq | exact a4r hq
   ·split
    ·exact hfits
    ·exact SetTable.fits_plain_off hfits
   ·split
    ·exact hwk1
    ·exact hwk1.imp id λz=>⟨z.1,λq=>by cases q⟩
   ·intro h' hsb hS';dsimp only;exact a0c (hend h' hsb hS')
  ·refine a0a (a0c ?_)
   simp only [↓reduceIte]
   refine C0 ?_ ho hex hd hel1 hmem1 hb1' hfits hwk1 hnd1 ?_
   ·intro b s₁ Q' hq;cases b <;> first | exact a0c hq | exact a4r hq
   ·intro h' hsb hS';dsimp only;exact a0c (hend h' hsb hS')
theorem QQ {Q:Value -> Shared -> Prop}
  (h:∀ o:Obj,c6 prog w s.heap.objs.size (λ_=>false) 0 (s.heap.push o) -> Q (.ref s.heap.objs.size) { s with heap:=s.heap.push o }) :
  wpAny (model prog w) A (newSet (.type "set")) Q E s:=by
 unfold newSet setsByText
 refine a0a (a0a (a3t (a0c ?_)))
 dsimp only
 simp only [newObj]
 refine a0a (wpAny_alloc (a0c (h _ ⟨_,#[],0,_,a0y _ rfl,⟨rfl,rfl,rfl⟩,rfl,λe he=>by simp at he,λk=>by simp,by decide,by rfl,rfl,?_,by simp⟩)))
 show O8 (w.params.followText "set-order") (SetTable.fresh 0 0 (!w.params.followText "set-order"))
 cases w.params.followText "set-order" with
 | true=>exact .inl rfl
 | false=>exact .inr ⟨rfl,λ_=>List.Pairwise.nil⟩
end
open PySem
theorem aV:Slot "set_iterator" "__next__" "set_iterator.__next__" :=
 .of (owner := "set_iterator") (n := "__next__") (by rw [typeLookup_type,a65];kernel_rfl) (by decide +kernel) (by decide +kernel) (by decide +kernel)
  (by first | exact .inl (by decide +kernel) | exact .inr (by decide +kernel)) (by rw [a6e];kernel_rfl)
theorem e7:entryFor table "set_iterator.__next__" = some Builtin.«set_iterator.__next__»:=entryFor_of_fast (by kernel_rfl)
theorem eQ (a:Value):argsOk "set_iterator.__next__" ⟨[a],[]⟩:=by unfold argsOk;kernel_rfl
theorem zK:entryFor table "set.__iter__" = some Builtin.«frozenset.__iter__»:=entryFor_alias (id' := "frozenset.__iter__") (by kernel_rfl) rfl (by decide +kernel) (by kernel_rfl)
section
variable {prog:Program} {w:World} {A:Around} {E:Value -> Shared -> Prop} {s:Shared}
theorem q0 {it:Addr} {o:Obj} {vs:Array Value} {Q:Array Value -> Shared -> Prop} (ho:s.heap.get? it = some o) (hd:o.data = .fields vs) (h:Q vs s):wpAny (model prog w) A (fieldsOf (.ref it)) Q E s:=by
 unfold fieldsOf
 refine a0a (wpAny_load ho ?_)
 rw [hd]
 exact a0c h
structure SetAt (h:Heap) (a:Addr) (es:Array (Int × Value)) (ep:Nat) (t:SetTable):Prop where
 ex:∃ o,h.get? a = some o /\ o.ExactSet /\ o.data = .set es ep t
 fit:t.fits es.size = true
theorem SetAt.state {a:Addr} {es:Array (Int × Value)} {ep:Nat} {t:SetTable} {Q:(Array (Int × Value) × Nat × SetTable) -> Shared -> Prop} (x:SetAt s.heap a es ep t) (h:Q (es,ep,t) s):wpAny (model prog w) A (setState a) Q E s:=by
 obtain ⟨o,ho,_,hd⟩:=x.ex
 exact a3f ho hd x.fit h
theorem SetAt.keeps {h h':Heap} {a:Addr} {es:Array (Int × Value)} {ep:Nat} {t:SetTable} (x:SetAt h a es ep t) (k:∀ o,h.get? a = some o -> h'.get? a = some o):SetAt h' a es ep t:=by
 obtain ⟨o,ho,q⟩:=x.ex
 exact ⟨⟨o,k o ho,q⟩,x.fit⟩
def F1 (first:Value) (i:Nat) (a:Addr) (n ep:Nat):Obj:={ cls:=.type "set_iterator",data:=.fields #[first,.int i 0,.ref a,.int n 0,.int ep 0] }
theorem vD {it a:Addr} {es:Array (Int × Value)} {ep slot nx i:Nat} {t:SetTable} {x:Value} {Q:Option Value -> Shared -> Prop} (ho:s.heap.get? it = some (F1 (.int slot 0) i a es.size ep)) (hS:SetAt s.heap a es ep t)
  (hn:∀ (E':Value -> Shared -> Prop) (Q:Option (Value × Nat) -> Shared -> Prop),Q (some (x,nx)) s -> wpAny (model prog w) A.in1 (setNext a slot i ep) Q E' s)
  (hQ:∀ h',Heap.SameBut it s.heap h' -> h'.get? it = some (F1 (.int nx 0) (i + 1) a es.size ep) -> Q (some x) { s with heap:=h' }):wpAny (model prog w) A (pyNext (.ref it)) Q E s:=by
 unfold pyNext
 have hT:s.TypeIs (.ref it) "set_iterator" := ⟨_,ho,rfl⟩
 refine a0a (wpAny_attempt (a3r (name:=Str.ofString "__next__") hT aV
  (a2j aV hT e7 ?_ (eQ _))))
 unfold Builtin.«set_iterator.__next__»
 show wpAny _ A.in1 (fieldsOf (.ref it) >>= _) _ _ s
 refine a0a (q0 ho rfl ?_)
 show wpAny _ A.in1 (setEntries a >>= _) _ _ s
 unfold setEntries
 refine a0a (a0a (hS.state (a0c ?_)))
 dsimp only
 rw [if_neg (by simp)]
 show wpAny _ A.in1 (setNext a _ _ _ >>= _) _ _ s
 refine a0a (hn _ _ ?_)
 dsimp only
 refine a0a (a5b ho rfl (by simp) ?_)
 have ho1:=a1u (Obj.mapFields (·.setIfInBounds 0 (rawInt nx))) ho (a5c (a3j (o:=F1 (.int slot 0) i a es.size ep) rfl _))
 refine a0a (a5b ho1 (a3j (o:=F1 (.int slot 0) i a es.size ep) rfl _) (by simp) ?_)
 have ho2:=a1u (Obj.mapFields (·.setIfInBounds 1 (rawInt (i + 1)))) ho1 (a5c (a3j (a3j (o:=F1 (.int slot 0) i a es.size ep) rfl _) _))
 exact a0c ⟨x,rfl,a0c (hQ _ ((a2l ..).trans (a2l ..)) (ho2.trans rfl))⟩
theorem AQ {it:Addr} {s0:Shared} {Q:Option Value -> Shared -> Prop} (hh:A.handled = none) (hQ:∀ h',(∀ b o,s.heap.get? b = some o -> h'.get? b = some o) -> Q none { s with heap:=h' }) :
  wpAny (model prog w) A.in1 (newExc (.type "StopIteration") [] >>= λe=>raiseNew e) (λ(fin:Fin) s'=>∃ v,fin = .done (.ret v) /\ wpAny (model prog w) A (pure (some v)) Q E s')
   (λe s'=>wpAny (model prog w) A (do if <- isInstance e (.type "StopIteration") then pure none else throw e) Q E s') s:=by
 refine a0a ?_
 simp only [newExc,newTuple]
 refine a0a (a1m ?_ (by size_fits))
 refine a0a (m:=firstArgMember _ _) (a5r (a:=Value.none) (by first | rfl | (simp only [firstArgMember];rfl)) ?_)
 refine a1m ?_ (by size_fits)
 simp only [raiseNew]
 refine a0a (wpAny_handled ?_)
 rw [show A.in1.handled = none from hh]
 refine a0a (a0c (wpAny_throw ?_))
 refine a0a (a5z (T := "StopIteration") (b:=true) ⟨_,a0y _ rfl,rfl⟩ isSubtype_stop ?_)
 exact a0c (hQ _ λb o e=>a0e _ (a0e _ e))
theorem y3 {it a:Addr} {es:Array (Int × Value)} {ep slot i:Nat} {t:SetTable} {Q:Option Value -> Shared -> Prop} (hh:A.handled = none) (ho:s.heap.get? it = some (F1 (.int slot 0) i a es.size ep)) (hS:SetAt s.heap a es ep t)
  (hn:∀ (E':Value -> Shared -> Prop) (Q:Option (Value × Nat) -> Shared -> Prop),Q none s -> wpAny (model prog w) A.in1 (setNext a slot i ep) Q E' s)
  (hQ:∀ h',(∀ b o,b ≠ it -> s.heap.get? b = some o -> h'.get? b = some o) -> Q none { s with heap:=h' }):wpAny (model prog w) A (pyNext (.ref it)) Q E s:=by
 unfold pyNext
 have hT:s.TypeIs (.ref it) "set_iterator" := ⟨_,ho,rfl⟩
 refine a0a (wpAny_attempt (a3r (name:=Str.ofString "__next__") hT aV
  (a2j aV hT e7 ?_ (eQ _))))
 unfold Builtin.«set_iterator.__next__»
 show wpAny _ A.in1 (fieldsOf (.ref it) >>= _) _ _ s
 refine a0a (q0 ho rfl ?_)
 show wpAny _ A.in1 (setEntries a >>= _) _ _ s
 unfold setEntries
 refine a0a (a0a (hS.state (a0c ?_)))
 dsimp only
 rw [if_neg (by simp)]
 show wpAny _ A.in1 (setNext a _ _ _ >>= _) _ _ s
 refine a0a (hn _ _ ?_)
 dsimp only
 refine a0a (a5b ho rfl (by simp) ?_)
 refine AQ (it:=it) (s0:=s) hh λh' k=>hQ h' λb o hb e=>k b o ((a1q _ _ (a2d hb)).trans e)
theorem BV {it a tp:Addr} {es:Array (Int × Value)} {ep i pl:Nat} {t:SetTable} {hx:Int} {x:Value} {ps:Array Value} {tk:Tok} {Q:Option Value -> Shared -> Prop} (ho:s.heap.get? it = some (F1 (.ref tp) i a es.size ep)) (hS:SetAt s.heap a es ep t)
  (htp:∃ o n,s.heap.get? tp = some o /\ o.data = .seq ps n) (hp:ps[i]? = some (.int pl tk)) (hx':es[pl]? = some (hx,x))
  (hQ:∀ h',Heap.SameBut it s.heap h' -> h'.get? it = some (F1 (.ref tp) (i + 1) a es.size ep) -> Q (some x) { s with heap:=h' }):wpAny (model prog w) A (pyNext (.ref it)) Q E s:=by
 unfold pyNext
 have hT:s.TypeIs (.ref it) "set_iterator" := ⟨_,ho,rfl⟩
 refine a0a (wpAny_attempt (a3r (name:=Str.ofString "__next__") hT aV
  (a2j aV hT e7 ?_ (eQ _))))
 unfold Builtin.«set_iterator.__next__»
 show wpAny _ A.in1 (fieldsOf (.ref it) >>= _) _ _ s
 refine a0a (q0 ho rfl ?_)
 show wpAny _ A.in1 (setEntries a >>= _) _ _ s
 unfold setEntries
 refine a0a (a0a (hS.state (a0c ?_)))
 dsimp only
 rw [if_neg (by simp)]
 obtain ⟨otp,ntp,h1,h2⟩:=htp
 show wpAny _ A.in1 (seqItems? (.ref tp) >>= _) _ _ s
 refine a0a (wpAny_seqItems h1 h2 ?_)
 simp only [a1j,hp]
 show wpAny _ A.in1 (setNextDrawn a _ _ >>= _) _ _ s
 unfold setNextDrawn
 refine a0a (a0a (hS.state ?_))
 dsimp only
 rw [if_neg (by simp)]
 simp only [a1j,hx']
 refine a0c ?_
 refine a0a (a5b ho rfl (by simp) ?_)
 have ho1:=a1u (Obj.mapFields (·.setIfInBounds 1 (rawInt (i + 1)))) ho (a5c (a3j (o:=F1 (.ref tp) i a es.size ep) rfl _))
 exact a0c ⟨x,rfl,a0c (hQ _ (a2l ..) (ho1.trans rfl))⟩
theorem EO {it a tp:Addr} {es:Array (Int × Value)} {ep i:Nat} {t:SetTable} {ps:Array Value} {Q:Option Value -> Shared -> Prop} (hh:A.handled = none) (ho:s.heap.get? it = some (F1 (.ref tp) i a es.size ep)) (hS:SetAt s.heap a es ep t)
  (htp:∃ o n,s.heap.get? tp = some o /\ o.data = .seq ps n) (hp:ps[i]? = none)
  (hQ:∀ h',(∀ b o,b ≠ it -> s.heap.get? b = some o -> h'.get? b = some o) -> Q none { s with heap:=h' }):wpAny (model prog w) A (pyNext (.ref it)) Q E s:=by
 unfold pyNext
 have hT:s.TypeIs (.ref it) "set_iterator" := ⟨_,ho,rfl⟩
 refine a0a (wpAny_attempt (a3r (name:=Str.ofString "__next__") hT aV
  (a2j aV hT e7 ?_ (eQ _))))
 unfold Builtin.«set_iterator.__next__»
 show wpAny _ A.in1 (fieldsOf (.ref it) >>= _) _ _ s
 refine a0a (q0 ho rfl ?_)
 show wpAny _ A.in1 (setEntries a >>= _) _ _ s
 unfold setEntries
 refine a0a (a0a (hS.state (a0c ?_)))
 dsimp only
 rw [if_neg (by simp)]
 obtain ⟨otp,ntp,h1,h2⟩:=htp
 show wpAny _ A.in1 (seqItems? (.ref tp) >>= _) _ _ s
 refine a0a (wpAny_seqItems h1 h2 ?_)
 simp only [a1j,hp]
 refine a0a (a5b ho rfl (by simp) ?_)
 have ho1:=a1u (Obj.mapFields (·.setIfInBounds 0 (rawInt 0))) ho (a5c (a3j (o:=F1 (.ref tp) i a es.size ep) rfl _))
 refine a0a (a5b ho1 (a3j (o:=F1 (.ref tp) i a es.size ep) rfl _) (by simp) ?_)
 refine AQ (it:=it) (s0:=s) hh λh' k=>hQ h' λb o hb e=>k b o ((a1q _ _ (a2d hb)).trans ((a1q _ _ (a2d hb)).trans e))
end
open PySem
theorem k7 {α:Type}:∀ {l:List α} {i:Nat} (h:i < l.length),(l[i] :: l.eraseIdx i).Perm l
 | x :: xs,0,h=>.refl _
 | x :: xs,i + 1,h=>by
  have:=k7 (l:=xs) (i:=i) (by simpa using h)
  simp only [List.getElem_cons_succ,List.eraseIdx_cons_succ]
  exact (List.Perm.swap _ _ _).trans (this.cons x)
section
variable {prog:Program} {w:World} {A:Around} {E:Value -> Shared -> Prop} {s:Shared}
theorem jT {Q:Bool -> Shared -> Prop} (h:Q (w.params.followText "set-order") s):wpAny (model prog w) A setsByText Q E s:=by
 unfold setsByText
 exact a0a (a3t (a0c h))
theorem rF {a:Addr} {es:Array (Int × Value)} {ep slot i:Nat} {t:SetTable} {Q:Option (Value × Nat) -> Shared -> Prop} (hS:SetAt s.heap a es ep t) (hb:w.params.followText "set-order" = false) (hd:(!t.plain && decide (es.size > 1)) = false) (hl:t.led = true)
  (h:Q (match es[SetTable.below t.place slot]?,t.place[SetTable.below t.place slot]? with | some (_,x),some j=>some (x,j + 1) | _,_=>none) s):wpAny (model prog w) A (setNext a slot i ep) Q E s:=by
 unfold setNext
 refine a0a (hS.state ?_)
 dsimp only
 refine a0a (jT ?_)
 rw [hb]
 rw [if_neg a0j]
 rw [if_neg (by show ¬ ((!t.plain && decide (es.size > 1)) = true);rw [hd];exact a0j)]
 refine a0a ?_
 show wpAny _ _ (if (!t.led && !es.isEmpty) = true then unsupported "set:maker-not-led" else pure ()) _ _ _
 rw [if_neg (by rw [hl];simp)]
 exact a0c (a0c h)
theorem vB {a:Addr} {es:Array (Int × Value)} {ep slot i:Nat} {t:SetTable} {Q:Option (Value × Nat) -> Shared -> Prop} (hS:SetAt s.heap a es ep t) (hb:w.params.followText "set-order" = true)
  (h:Q (((pickOrder (w.params.setOrder a ep) es)[i]?).map λe=>(e.2,slot)) s):wpAny (model prog w) A (setNext a slot i ep) Q E s:=by
 unfold setNext
 refine a0a (hS.state ?_)
 dsimp only
 refine a0a (jT ?_)
 rw [hb]
 rw [if_pos rfl,if_neg (by simp)]
 unfold setWalk
 refine a0a (a0a (hS.state ?_))
 dsimp only
 refine a0a (jT ?_)
 rw [hb]
 rw [if_pos rfl]
 refine a0a (a3t (a0c (a0c h)))
theorem EZ {src:Source} {n:Nat} {Q:Nat -> Shared -> Prop} (hn:n ≠ 0) (h:∀ (i:Nat) (d:Drawn),i < n -> Q i { s with drawn:=d }):wpAny (model prog w) A (choose src n) Q E s:=λΓ p hΓ=>by
 show Sem.wp _ Γ (.choose src n .pure) _ _ p s
 rw [Sem.wp]
 exact ⟨hn,h _ _ (Nat.mod_lt _ (Nat.pos_of_ne_zero hn))⟩
theorem tY {α:Type}:∀ (n:Nat) (xs:List α) {Q:List α -> Shared -> Prop} {s:Shared},xs.length = n -> (∀ (ys:List α) (d:Drawn),ys.Perm xs -> Q ys { s with drawn:=d }) -> wpAny (model prog w) A (drawOrder n xs) Q E s
 | 0,xs,Q,s,hl,h=>by
  have:xs = []:=a3d.mp hl
  subst this
  unfold drawOrder
  exact a0c (h [] s.drawn (.refl _))
 | n + 1,[],Q,s,hl,h=>by cases hl
 | n + 1,x :: xs,Q,s,hl,h=>by
  unfold drawOrder
  refine a0a (EZ (by simp) λi d hi=>?_)
  have e:(x :: xs)[i]? = some (x :: xs)[i]:=a0b hi
  rw [e]
  refine a0a (tY n _ (by rw [List.length_eraseIdx_of_lt hi,hl];rfl) λys d' hp=>a0c (h _ d' ?_))
  exact (hp.cons _).trans (k7 hi)
end
theorem LJ {α:Type} (next:Nat -> Nat):∀ (fuel k:Nat) (oY:List α) (out:Array α),oY.length = fuel -> (pickOrder.go next fuel k oY out).toList.Perm (out.toList ++ oY)
 | 0,k,oY,out,h=>by
  have:oY = []:=a3d.mp h
  subst this
  rw [pickOrder.go];simp
 | fuel + 1,k,oY,out,h=>by
  rw [pickOrder.go]
  have hi:next k % oY.length < oY.length:=Nat.mod_lt _ (by omega)
  rw [a0b hi]
  dsimp only
  refine (LJ next fuel (k + 1) _ _ (by rw [List.length_eraseIdx_of_lt hi];omega)).trans ?_
  rw [a6k,a6j]
  exact List.Perm.append_left _ (by simpa using k7 hi)
theorem i5 {α:Type} (next:Nat -> Nat) (xs:Array α):(pickOrder next xs).toList.Perm xs.toList:=by
 unfold pickOrder
 simpa using LJ next xs.size 0 xs.toList #[] (by simp)
def lO (t:SetTable) (i:Nat):Nat:=if i = 0 then 0 else t.place.getD (i - 1) 0 + 1
inductive WMode (w:World) (a:Addr) (es:Array (Int × Value)) (ep:Nat) (t:SetTable) (vs:List Value):(Nat -> Value) -> Heap -> Prop where
 | plain {h:Heap}:w.params.followText "set-order" = false -> (!t.plain && decide (es.size > 1)) = false -> t.led = true -> CW t.place -> vs = es.toList.map (·.2) -> WMode w a es ep t vs (λi=>.int (lO t i) 0) h
 | text {h:Heap}:w.params.followText "set-order" = true -> vs = (pickOrder (w.params.setOrder a ep) es).toList.map (·.2) -> WMode w a es ep t vs (λ_=>.int 0 0) h
 | drawn {h:Heap} {tp:Addr} {o:Obj} {m:Nat} {ks:List Nat}:h.get? tp = some o -> o.data = .seq (ks.map λ(k:Nat)=>Value.int k 0).toArray m -> ks.length = es.size -> vs = ks.map (λk=>(es.getD k (0,.none)).2) -> (∀ k ∈ ks,k < es.size) -> WMode w a es ep t vs (λ_=>.ref tp) h
theorem WMode.keeps {w:World} {a:Addr} {es:Array (Int × Value)} {ep:Nat} {t:SetTable} {vs:List Value} {f:Nat -> Value} {h h':Heap} (m:WMode w a es ep t vs f h) (k:∀ tp o,f 0 = .ref tp -> h.get? tp = some o -> h'.get? tp = some o):WMode w a es ep t vs f h':=by
 cases m with
 | plain a1 a2 a3 a4 a5=>exact .plain a1 a2 a3 a4 a5
 | text a1 a2=>exact .text a1 a2
 | drawn a1 a2 a3 a4 a5=>exact .drawn (k _ _ rfl a1) a2 a3 a4 a5
structure WSt (w:World) (I a:Addr) (es:Array (Int × Value)) (ep:Nat) (t:SetTable) (vs:List Value) (f:Nat -> Value) (i:Nat) (h:Heap):Prop where
 set:SetAt h a es ep t
 ne:a ≠ I
 ne2:∀ tp,f 0 = .ref tp -> tp ≠ I
 mode:WMode w a es ep t vs f h
 it:h.get? I = some (F1 (f i) i a es.size ep)
theorem WMode.len {w:World} {a:Addr} {es:Array (Int × Value)} {ep:Nat} {t:SetTable} {vs:List Value} {f:Nat -> Value} {h:Heap} (m:WMode w a es ep t vs f h):vs.length = es.size:=by
 cases m with
 | plain a1 a2 a3 a4 a5=>rw [a5];simp
 | text a1 a2=>rw [a2,a0d,(i5 _ _).length_eq,a0s]
 | drawn a1 a2 a3 a4 a5=>rw [a4,a0d,a3]
section
variable {prog:Program} {w:World} {A:Around} {E:Value -> Shared -> Prop} {s:Shared} {I a:Addr} {es:Array (Int × Value)} {ep:Nat} {t:SetTable} {vs:List Value} {f:Nat -> Value}
theorem WSt.item {i:Nat} {x:Value} {Q:Option Value -> Shared -> Prop} (st:WSt w I a es ep t vs f i s.heap) (hx:vs[i]? = some x)
  (hQ:∀ h',Heap.SameBut I s.heap h' -> WSt w I a es ep t vs f (i + 1) h' -> Q (some x) { s with heap:=h' }):wpAny (model prog w) A (pyNext (.ref I)) Q E s:=by
 have next:∀ h',Heap.SameBut I s.heap h' -> h'.get? I = some (F1 (f (i + 1)) (i + 1) a es.size ep) -> WSt w I a es ep t vs f (i + 1) h':=λh' sb e =>
  ⟨st.set.keeps λo ho=>(sb.2 a st.ne).trans ho,st.ne,st.ne2,st.mode.keeps λtp o e ho=>(sb.2 tp (st.ne2 tp e)).trans ho,e⟩
 have hi:i < es.size:=by rw [<- st.mode.len];exact (a0k.mp hx).1
 cases m:st.mode with
 | plain a1 a2 a3 a4 a5 =>
  rw [a5,a0h] at hx
  have hes:es.toList[i]? = some es[i]:=by rw [a2n];exact a0v hi
  rw [hes] at hx
  have hx:es[i].2 = x:=a1i hx
  have hps:t.place.size = es.size:=by
   have:=st.set.fit
   simp only [SetTable.fits,a1e,a4i] at this
   exact this.1
  have hbe:SetTable.below t.place (lO t i) = i:=by
   unfold lO
   by_cases h0:i = 0
   ·subst h0;rw [if_pos rfl];exact zB a4
   ·rw [if_neg h0]
    have hj:t.place[i - 1]? = some (t.place.getD (i - 1) 0):=by
     have:i - 1 < t.place.size:=by omega
     simp [Array.getD,this]
    rw [z9 a4 hj];omega
  have hsl:lO t (i + 1) = t.place[i]'(by omega) + 1:=by
   unfold lO
   rw [if_neg (by omega)]
   have:i < t.place.size:=by omega
   simp [Array.getD,this]
  refine vD (nx:=lO t (i + 1)) (x:=x) st.it st.set (λE' Q' q=>rF st.set a1 a2 a3 ?_) λh' sb e=>hQ h' sb (next h' sb e)
  rw [hbe,a0v hi,a0v (by omega:i < t.place.size)]
  dsimp only
  rw [<- hsl,hx];exact q
 | text a1 a2 =>
  rw [a2,a0h] at hx
  refine vD (nx:=0) (x:=x) st.it st.set (λE' Q' q=>vB st.set a1 ?_) λh' sb e=>hQ h' sb (next h' sb e)
  rw [<- a2n]
  cases hp:(pickOrder (w.params.setOrder a ep) es).toList[i]? with
  | none=>rw [hp] at hx;cases hx
  | some y=>rw [hp] at hx;cases hx;exact q
 | @drawn _ tp o mm ks a1 a2 a3 a4 a5 =>
  rw [a4,a0h] at hx
  cases hk:ks[i]? with
  | none=>rw [hk] at hx;cases hx
  | some k =>
   rw [hk] at hx
   have hx:(es.getD k (0,.none)).2 = x:=a1i hx
   have hkl:=a5 k (a0x hk)
   refine BV (pl:=k) (tk:=0) (hx:=es[k].1) (x:=x) st.it st.set ⟨o,mm,a1,a2⟩ ?_ ?_ λh' sb e=>hQ h' sb (next h' sb e)
   ·rw [List.getElem?_toArray,a0h,hk];rfl
   ·rw [a0v hkl]
    rw [<- hx]
    simp [Array.getD,hkl]
theorem WSt.done {Q:Option Value -> Shared -> Prop} (hh:A.handled = none) (st:WSt w I a es ep t vs f vs.length s.heap)
  (hQ:∀ h',(∀ b o,b ≠ I -> s.heap.get? b = some o -> h'.get? b = some o) -> Q none { s with heap:=h' }):wpAny (model prog w) A (pyNext (.ref I)) Q E s:=by
 have hl:=st.mode.len
 have hit:=st.it
 have hset:=st.set
 cases m:st.mode with
 | plain a1 a2 a3 a4 a5 =>
  have hps:t.place.size = es.size:=by
   have:=st.set.fit
   simp only [SetTable.fits,a1e,a4i] at this
   exact this.1
  have hbe:es[SetTable.below t.place (lO t vs.length)]? = none:=by
   have:SetTable.below t.place (lO t vs.length) = vs.length:=by
    unfold lO
    by_cases h0:vs.length = 0
    ·rw [if_pos h0,h0];exact zB a4
    ·rw [if_neg h0]
     have hj:t.place[vs.length - 1]? = some (t.place.getD (vs.length - 1) 0):=by
      have:vs.length - 1 < t.place.size:=by omega
      simp [Array.getD,this]
     rw [z9 a4 hj];omega
   rw [this];exact a5s (by omega)
  refine y3 hh hit hset (λE' Q' q=>rF hset a1 a2 a3 ?_) hQ
  rw [hbe];exact q
 | text a1 a2 =>
  refine y3 hh hit hset (λE' Q' q=>vB hset a1 ?_) hQ
  rw [a5s (by rw [<- a0s,(i5 _ _).length_eq,a0s];omega)]
  exact q
 | @drawn _ tp o mm ks a1 a2 a3 a4 a5 =>
  refine EO hh hit hset ⟨o,mm,a1,a2⟩ ?_ hQ
  rw [List.getElem?_toArray,a0h,a2a (by omega)];rfl
end
open PySem PyProof.Rows
theorem l7:Slot "set_iterator" "__iter__" "set_iterator.__iter__" :=
 .of (owner := "set_iterator") (n := "__iter__") (by rw [typeLookup_type,a65];kernel_rfl) (by decide +kernel) (by decide +kernel) (by decide +kernel)
  (by first | exact .inl (by decide +kernel) | exact .inr (by decide +kernel)) (by rw [a6e];kernel_rfl)
theorem sG:entryFor table "set_iterator.__iter__" = some Builtin.«dict_keyiterator.__iter__»:=entryFor_alias (id' := "dict_keyiterator.__iter__") (by kernel_rfl) rfl (by decide +kernel) (by kernel_rfl)
theorem tO (a:Value):argsOk "set_iterator.__iter__" ⟨[a],[]⟩:=by unfold argsOk;kernel_rfl
theorem ER:Slot "set" "__len__" "set.__len__" :=
 .of (owner := "set") (n := "__len__") (by rw [typeLookup_type,a65];kernel_rfl) (by decide +kernel) (by decide +kernel) (by decide +kernel)
  (by first | exact .inl (by decide +kernel) | exact .inr (by decide +kernel)) (by rw [a6e];kernel_rfl)
theorem xI:∀ {vs:List Value},(∀ v ∈ vs,∃ t,v = .int (dP v) t) -> IntsAre vs (vs.map dP)
 | [],_=>.nil
 | v :: vs,h=>by
  obtain ⟨t,e⟩:=h v a0n
  have ih:=xI λu hu=>h u (a0i _ hu)
  rw [a0f]
  generalize dP v = k at e ⊢
  subst e
  exact .cons _ _ ih
section
variable {prog:Program} {w:World} {A:Around} {E:Value -> Shared -> Prop} {s:Shared} {I a:Addr} {es:Array (Int × Value)} {ep:Nat} {t:SetTable} {vs:List Value} {f:Nat -> Value}
theorem N9 {Q:Value -> Shared -> Prop} {x:Value} {i n:Nat} (ho:s.heap.get? I = some (F1 x i a n ep)) (h:Q (.ref I) s):wpAny (model prog w) A (pyIter (.ref I)) Q E s:=by
 have hT:s.TypeIs (.ref I) "set_iterator" := ⟨_,ho,rfl⟩
 refine wpAny_pyIter_slot hT l7 (a2j l7 hT sG ?_ (tO _))
 show wpAny _ _ (ret (.ref I)) _ _ s
 exact a0c ⟨_,rfl, "set_iterator",_,hT,aV.lookup,h⟩
def J3 (I a:Addr) (f:Nat -> Value):List Addr:=I :: a :: (match f 0 with | .ref tp=>[tp] | _=>[])
theorem O4 (hh:A.handled = none):WalksS prog w A I (J3 I a f) [I] (λg g'=>g' = g) vs.length (λi v=>vs[i]? = some v) (λi s=>WSt w I a es ep t vs f i s.heap) where
 sub:=λb hb=>by simp at hb;subst hb;simp [J3]
 grefl:=λ_=>rfl
 gtrans:=λ_ _ _ h1 h2=>h2.trans h1
 frame:=λi s h' tk st _ k=>⟨st.set.keeps λo=>k a (by simp [J3]) o,st.ne,st.ne2,st.mode.keeps λtp o e=>k tp (by simp [J3,e]) o,k I (by simp [J3]) _ st.it⟩
 item:=λi s Q E hi st h=>st.item (a0b hi) λh' sb st'=>h _ _ (a0b hi) st' ⟨λb o hb e=>(sb.2 b (by simpa using hb)).trans e,rfl,rfl,rfl,a0l _⟩
 done:=λs Q E st h=>st.done hh λh' k=>h _ ⟨λb o hb e=>k b o (by simpa using hb) e,rfl,rfl,rfl,a0l _⟩
 self:=λi s Q E st h=>N9 st.it h
theorem Q4 {S:Int -> Bool} {n:Nat} {Q:Value -> Shared -> Prop} (hX:c6 prog w a S n s.heap)
  (h:∀ (I:Addr) (es:Array (Int × Value)) (ep:Nat) (t:SetTable) (vs:List Value) (f:Nat -> Value) (s':Shared),s'.gens = s.gens -> s'.os = s.os -> s'.toks = s.toks -> s.heap.objs.size <= I -> (∀ tp,f 0 = .ref tp -> s.heap.objs.size <= tp /\ tp < I) -> I < s'.heap.objs.size -> (∀ b o,s.heap.get? b = some o -> s'.heap.get? b = some o) -> WSt w I a es ep t vs f 0 s'.heap ->
   vs.Perm (es.toList.map (·.2)) -> ElemsOf (intKind prog w) es.toList -> (∀ k,S k = true ↔ ∃ e ∈ es.toList,(intKind prog w).is k e.2 = true) -> (es.toList.map λe=>dP e.2).Nodup -> es.size = n -> Q (.ref I) s'):wpAny (model prog w) A (pyIter (.ref a)) Q E s:=by
 obtain ⟨o,es,ep,t,ho,hex,hd,hel,hmem,hb,hf,hn,hwk,hnd⟩:=hX
 have hS:SetAt s.heap a es ep t:=⟨⟨o,ho,hex,hd⟩,hf⟩
 have hT:s.TypeIs (.ref a) "set" := ⟨o,ho,hex.1⟩
 refine wpAny_pyIter_slot hT F.slot_set_iter (a2j F.slot_set_iter hT zK ?_ (F.args_set_iter_1 _))
 unfold Builtin.«frozenset.__iter__»
 show wpAny _ A.in1 (Builtin.Frozenset.sizeOf a >>= _) _ _ s
 unfold Builtin.Frozenset.sizeOf setEntries
 refine a0a (a0a (a0a (hS.state (a0c (a0c ?_)))))
 dsimp only
 refine a0a ?_
 unfold setDrawn
 refine a0a (hS.state ?_)
 dsimp only
 refine a0a (jT (a0c ?_))
 show wpAny _ _ (if (!w.params.followText "set-order" && (!t.plain && decide (es.size > 1))) = true then _ else _) _ _ _
 have fin:∀ (s1:Shared) (x:Value),s1.gens = s.gens -> s1.os = s.os -> s1.toks = s.toks -> s.heap.objs.size <= s1.heap.objs.size -> (∀ b o,s.heap.get? b = some o -> s1.heap.get? b = some o) -> ∀ (vs:List Value) (f:Nat -> Value),f 0 = x -> (∀ tp,f 0 = .ref tp -> s.heap.objs.size <= tp /\ tp < s1.heap.objs.size) ->
   (∀ h',(∀ b o,s1.heap.get? b = some o -> h'.get? b = some o) -> WMode w a es ep t vs f h') -> vs.Perm (es.toList.map (·.2)) ->
   wpAny (model prog w) A.in1 (setEpoch a >>= λe=>newFields "set_iterator" [x,rawInt 0,.ref a,rawInt es.size,rawInt e] >>= λr=>ret r) (λ(fin:Fin) s'=>∃ v,fin = .done (.ret v) /\ ∃ T' r,s'.TypeIs v T' /\ typeLookup (.type T') "__next__" = pure (some r) /\ Q v s') E s1:=by
  intro s1 x g1 g2 g3 g4 g5 vs f hf0 htp hm hp
  have hS1:=hS.keeps λo=>g5 a o
  unfold setEpoch
  refine a0a (a0a (hS1.state (a0c ?_)))
  dsimp only
  refine a0a (a1m ?_)
  have hI:(s1.heap.push (F1 x 0 a es.size ep)).get? s1.heap.objs.size = some (F1 x 0 a es.size ep):=a0y _ rfl
  refine a0c ⟨_,rfl, "set_iterator",_,⟨_,hI,rfl⟩,aV.lookup,?_⟩
  refine h s1.heap.objs.size es ep t vs f { s1 with heap:=s1.heap.push (F1 x 0 a es.size ep) } g1 g2 g3 g4 htp (by show _ < (s1.heap.push _).objs.size;rw [a2v];exact a2z _) (λb o e=>a0e _ (g5 b o e)) ⟨hS1.keeps λo e=>a0e _ e,?_,λtp e=>a0r (htp tp e).2,hm _ λb o e=>a0e _ e,?_⟩ hp hel hmem hnd hn
  ·exact a0r (a0z (a0m ho) g4)
  ·rw [hf0];exact hI
 by_cases hc:(!w.params.followText "set-order" && (!t.plain && decide (es.size > 1))) = true
 ·rw [if_pos hc]
  refine a0a (tY es.size _ (by simp) λks d hp=>?_)
  have hkl:ks.length = es.size:=by rw [hp.length_eq];simp
  unfold newTuple
  refine a0a (a1m ?_ (by show (List.map (λ(i:Nat)=>rawInt i) ks).toArray.size <= sizeLine;rw [a0t,a0d,hkl];exact a1b (a2t hb) (by decide)))
  have hkm:∀ k ∈ ks,k < es.size:=λk hk=>by simpa using hp.mem_iff.mp hk
  refine fin _ (.ref s.heap.objs.size) rfl rfl rfl (by show _ <= (s.heap.push _).objs.size;rw [a2v];exact Nat.le_succ _) (λb o e=>a0e _ e) (ks.map λk=>(es.getD k (0,.none)).2) (λ_=>.ref s.heap.objs.size) rfl (λtp e=>?_) (λh' k=>?_) ?_
  ·cases e
   exact ⟨a0l _,by show _ < (s.heap.push _).objs.size;rw [a2v];exact a2z _⟩
  ·exact .drawn (k _ _ (a0y _ rfl)) rfl hkl rfl hkm
  ·have:(List.range es.size).map (λk=>(es.getD k (0,.none)).2) = es.toList.map (·.2):=by
    refine a3s (by simp) λi h1 h2=>?_
    have hi:i < es.size:=by simpa using h1
    simp [Array.getD,hi]
   rw [<- this]
   exact hp.map _
 ·rw [if_neg hc]
  refine a0a (a0c ?_)
  have e:s = { s with heap:=s.heap }:=by cases s;rfl
  cases hbt:w.params.followText "set-order" with
  | true =>
   refine fin s (rawInt 0) rfl rfl rfl (a0l _) (λ_ _ e=>e) ((pickOrder (w.params.setOrder a ep) es).toList.map (·.2)) (λ_=>.int 0 0) rfl (λtp e=>by cases e) (λh' k=>.text hbt rfl) ((i5 _ _).map _)
  | false =>
   have hc':(!t.plain && decide (es.size > 1)) = false:=by
    cases hq:(!t.plain && decide (es.size > 1)) with
    | false=>rfl
    | true=>rw [hbt,hq] at hc;exact absurd rfl hc
   rcases hwk with z | ⟨hled,hris⟩
   ·rw [hbt] at z;cases z
   ·have hr:CW t.place:=by
     cases hp:t.plain with
     | true=>exact hris hp
     | false =>
      rw [hp] at hc'
      have hsz:¬ es.size > 1:=by simpa using hc'
      have hps:t.place.size = es.size:=by
       have:=hf
       simp only [SetTable.fits,a1e,a4i] at this
       exact this.1
      unfold CW
      have:t.place.toList.length <= 1:=by rw [a0s];omega
      match hl:t.place.toList,this with
      | [],_=>exact .nil
      | [x],_=>simp
    refine fin s (rawInt 0) rfl rfl rfl (a0l _) (λ_ _ e=>e) (es.toList.map (·.2)) (λi=>.int (lO t i) 0) rfl (λtp e=>by cases e) (λh' k=>.plain hbt hc' hled hr rfl) (.refl _)
theorem FC {S:Int -> Bool} {n:Nat} {Q:List Value -> Shared -> Prop} (hh:A.handled = none) (hX:c6 prog w a S n s.heap)
  (h:∀ (us:List Value) (ks:List Int) (s':Shared),s'.gens = s.gens -> s'.os = s.os -> s.toks <= s'.toks -> (∀ b o,s.heap.get? b = some o -> s'.heap.get? b = some o) -> IntsAre us ks -> ks.Nodup -> (∀ k,S k = true ↔ k ∈ ks) -> ks.length = n -> s.heap.objs.size <= s'.heap.objs.size -> Q us s'):wpAny (model prog w) A (collect (.ref a)) Q E s:=by
 have hX0:=hX
 obtain ⟨o,es,ep,t,ho,hex,hd,hel,hmem,hb,hf,hn,hwk,hnd⟩:=hX
 have hSI:s.heap.objs.size ≠ a:=a2d (a0r (a0m ho))
 have hk1:∀ b o,s.heap.get? b = some o -> (s.heap.push { cls:=.type "list",data:=.seq ([]:List Value).toArray }).get? b = some o:=λb o e=>a0e _ e
 unfold collect
 refine a0a (wpAny_runValue (a3o F.entry_proto_collect ?_))
 rw [a3c F.plain_proto_collect _]
 show wpAny _ A.in1 (newList [] >>= λl=>again (.builtin "list.__iadd__" ⟨[l,.ref a],[]⟩)) _ _ s
 refine a0a (a1m ?_)
 refine a0c ⟨a5u a5n _,a3o F.entry_list_iadd ?_⟩
 rw [a3c a5n _]
 show wpAny _ A.in1 (Builtin.List.listExtendWith (.ref s.heap.objs.size) (.ref a) (.ref s.heap.objs.size)) _ _ _
 unfold Builtin.List.listExtendWith
 have hT1:({ s with heap:=s.heap.push { cls:=.type "list",data:=.seq ([]:List Value).toArray } }:Shared).TypeIs (.ref a) "set" := ⟨o,hk1 a o ho,hex.1⟩
 refine a0a (wpAny_typeOf hT1 ?_)
 have h1:Builtin.List.listSameRef (.ref s.heap.objs.size) (.ref a) = false:=by simp [Builtin.List.listSameRef,hSI]
 have h2:(Value.type "set" == Value.type "list") = false:=by decide
 have h3:(Value.type "set" == Value.type "tuple") = false:=by decide
 simp only [h1,h2,h3,Bool.or_false,Bool.false_eq_true,if_false]
 have hX1:c6 prog w a S n (s.heap.push { cls:=.type "list",data:=.seq ([]:List Value).toArray }):=⟨o,es,ep,t,hk1 a o ho,hex,hd,hel,hmem,hb,hf,hn,hwk,hnd⟩
 refine a0a (Q4 (s:={ s with heap:=s.heap.push { cls:=.type "list",data:=.seq ([]:List Value).toArray } }) hX1 λI es2 ep2 t2 vs f s2 g1 g2 g3 g4 g5 g6 g7 st hperm hel2 hmem2 hnd2 hn2=>?_)
 refine a0a (a1s ?_)
 unfold Builtin.List.listLengthHint
 have hT2:s2.TypeIs (.ref a) "set" := ⟨o,g7 a o (hk1 a o ho),hex.1⟩
 refine a0a (wpAny_specialOf hT2 ER.lookup ?_)
 wp_delta
 refine a0a (a5z (T := "set") (b:=true) hT2 (by rw [a6e];kernel_rfl) ?_)
 show wpAny _ A.in1 (typeOf (Value.ref a) >>= _) _ _ _
 refine a0a (wpAny_typeOf hT2 ?_)
 refine a0c ?_
 rw [if_pos (by decide)]
 refine a0a (a4r ?_)
 have hS₁:s2.heap.get? s.heap.objs.size = some { cls:=.type "list",data:=.seq ([]:List Value).toArray }:=g7 _ _ (a0y _ rfl)
 refine a0a ?_
 show wpAny _ A.in1 (updateSeq s.heap.objs.size (·.push .none) >>= λ_=>updateSeq s.heap.objs.size (·.pop)) _ _ _
 refine a0a (wpAny_updateSeq hS₁ rfl ?_)
 have hS₂:=a1u (Obj.mapSeq (·.push Value.none)) hS₁ rfl
 refine wpAny_updateSeq hS₂ rfl ?_
 have hS₃:=a1u (Obj.mapSeq (·.pop)) hS₂ rfl
 have hlt:s.heap.objs.size < (s.heap.push { cls:=.type "list",data:=.seq ([]:List Value).toArray }).objs.size:=by rw [a2v];exact a2z _
 have oth:∀ b o,b ≠ s.heap.objs.size -> s2.heap.get? b = some o ->
   ((s2.heap.update s.heap.objs.size (Obj.mapSeq (·.push Value.none))).update s.heap.objs.size (Obj.mapSeq (·.pop))).get? b = some o :=
  λb o hb e=>(a1q _ _ (a2d hb)).trans ((a1q _ _ (a2d hb)).trans e)
 have hSf:s.heap.objs.size ∉ J3 I a f:=by
  unfold J3
  intro hm
  rcases a0q.mp hm with z | z
  ·exact a0r (a0z hlt g4) z
  ·rcases a0q.mp z with z | z
   ·exact hSI z
   ·cases hf0:f 0 with
    | ref tp =>
     rw [hf0] at z
     have:s.heap.objs.size = tp:=by simpa using z
     exact a0r (a0z hlt (g5 tp hf0).1) this
    | _=>rw [hf0] at z;cases z
 have hvl:vs.length = n:=by rw [hperm.length_eq,a0d,a0s,hn2]
 have hbn:n < scanBound:=by rw [<- hn];exact hb
 have W:=O4 (prog:=prog) (w:=w) (A:=A.in1) (I:=I) (a:=a) (es:=es2) (ep:=ep2) (t:=t2) (vs:=vs) (f:=f) hh
 refine a0c ⟨a5u F.plain_extend_loop _,codeAny_extend_loopS W (by rw [hvl];exact a1b (a2t hbn) (by decide)) _ hSf _ vs.length 0 _ _ _ rfl (a2u _)
  (W.frame 0 s2 _ s2.toks st (a0l _) λb hb o e=>oth b o (λz=>hSf (z ▸ hb)) e) hS₃ (ItemsOf.nil _) λs' acc' c' hm hS' hacc=>?_⟩
 show wpAny _ A (load s.heap.objs.size >>= _) _ _ s'
 refine a0a (wpAny_load hS' ?_)
 refine a0c (h acc'.toList (vs.map dP) s' (hm.gens.trans g1) (hm.os.trans g2) (a1b (Nat.le_of_eq g3.symm) hm.toks) (λb o e=>?_) ?_ ?_ (λk=>?_) (by rw [a0d,hvl]) (a2t (a0m hS')))
 ·have hb':b < s.heap.objs.size:=a0m e
  refine hm.heap b o (λz=>?_) (oth b o (a0r hb') (g7 b o (hk1 b o e)))
  rcases a0q.mp z with z | z
  ·exact a0r hb' z
  ·have:b = I:=by simpa using z
   exact a0r (a0z (a2h hb' hlt) g4) this
 ·have hav:acc'.toList = vs:=by
   refine List.ext_getElem? λi=>?_
   by_cases hi:i < acc'.size
   ·have:=hacc.2 i acc'[i] (a0v hi)
    rw [this,a2n];exact a0v hi
   ·rw [a2a (by rw [a0s];omega),a2a (by have:=hacc.1;omega)]
  rw [hav]
  have all:∀ v ∈ vs,∃ t,v = .int (dP v) t:=λv hv=>by
   obtain ⟨e,he,rfl⟩:=a0p.mp (hperm.mem_iff.mp hv)
   obtain ⟨⟨k,hk,_⟩,_⟩:=hel2 e he
   obtain ⟨tk,e2⟩:=d8 hk
   rw [e2];exact ⟨tk,rfl⟩
  exact xI all
 ·have:(vs.map dP).Perm (es2.toList.map λe=>dP e.2):=by
   have:=hperm.map dP
   rwa [a2i] at this
  exact this.nodup_iff.mpr hnd2
 ·rw [hmem2 k]
  constructor
  ·rintro ⟨e,he,hk⟩
   obtain ⟨tk,e2⟩:=d8 hk
   exact a0p.mpr ⟨e.2,hperm.mem_iff.mpr (a0p.mpr ⟨e,he,rfl⟩),by rw [e2];rfl⟩
  ·intro hk
   obtain ⟨v,hv,rfl⟩:=a0p.mp hk
   obtain ⟨e,he,rfl⟩:=a0p.mp (hperm.mem_iff.mp hv)
   obtain ⟨⟨k,hk,_⟩,_⟩:=hel2 e he
   obtain ⟨tk,e2⟩:=d8 hk
   refine ⟨e,he,?_⟩
   rw [e2] at hk ⊢;exact hk
theorem K8 {S:Int -> Bool} {n:Nat} {Q:Value -> Shared -> Prop} (hh:A.handled = none) (hX:c6 prog w a S n s.heap) (h64:n < 64)
  (h:∀ (out:Array Value) (ns:List Int) (l:Addr) (m:Nat) (s':Shared),s'.gens = s.gens -> s'.os = s.os -> s.toks <= s'.toks -> (∀ b o,s.heap.get? b = some o -> s'.heap.get? b = some o) -> s.heap.objs.size <= l -> s'.heap.get? l = some { cls:=.type "list",data:=.seq out m } -> IntsAre out.toList ns -> ns.Pairwise (· < ·) -> (∀ k,S k = true ↔ k ∈ ns) -> ns.length = n -> Q (.ref l) s') :
  wpAny (model prog w) A (call (.builtin "sorted") [.ref a]) Q E s:=by
 refine Calls.call_function_entry kind_sorted plain_sorted entry_sorted (args_sorted1 _) ?_
 unfold Builtin.«sorted»
 refine a0a (m:=checkCount "sorted" 1 1 _) (a0c ?_)
 refine a0a (FC hh hX λus ks s1 g1 g2 g3 g4 hI hnd hmem hkn hsz=>?_)
 have hul:us.length = n:=by rw [<- hkn];exact hI.length
 refine a0a (a1m ?_ ?_)
 ·have hoL:(s1.heap.push (seqObj "list" us.toArray 0)).get? s1.heap.objs.size = some (seqObj "list" us.toArray 0):=a0y _ rfl
  refine a0a (a1s (a2j slot_list_sort ⟨_,hoL,rfl⟩ entry_list_sort (list_sort_tree hoL hI (by omega) λout ns' a1 a2 a3=>⟨_,rfl,?_⟩) (args_list_sort _)))
  have e1:=a1u (Obj.mapSeq λ_=>#[]) hoL rfl
  have e2:=a0e (seqObj "list" #[] 0) (a0e (seqObj "tuple" us.toArray 0) e1)
  have e3:=a1u (Obj.mapSeq λ_=>out) e2 rfl
  have hlt:ks.Nodup -> ns'.Pairwise (· < ·):=λhn=>by
   have hn':ns'.Nodup:=a2.nodup_iff.mpr hn
   exact (a3.and hn').imp fun {x y} ⟨h1,h2⟩=>by omega
  refine a0c ⟨_,rfl,h out ns' s1.heap.objs.size _ _ g1 g2 g3 (λb o e=>?_) hsz (e3.trans rfl) a1 (hlt hnd) (λk=>(hmem k).trans a2.mem_iff.symm) (a2.length_eq.trans hkn)⟩
  have hb:b ≠ s1.heap.objs.size:=a0r (a0m (g4 b o e))
  unfold sortedHeap
  refine (a1q _ _ (a2d hb)).trans (a0e _ (a0e _ ((a1q _ _ (a2d hb)).trans (a0e _ (g4 b o e)))))
 ·show us.toArray.size <= sizeLine
  rw [a0t,hul];exact a1b (a2t h64) (by decide)
end
def fP (P:Program) (w:World) (a:Addr) (S:Int -> Bool) (n:Nat):HO:=.ext (c6 P w a S n)
theorem c6.mono {P:Program} {w:World} {a:Addr} {S:Int -> Bool} {n:Nat} {h1 h2:Heap} (x:c6 P w a S n h1) (k:∀ o,h1.get? a = some o -> h2.get? a = some o):c6 P w a S n h2:=by
 obtain ⟨o,es,ep,t,ho,r⟩:=x
 exact ⟨o,es,ep,t,k o ho,r⟩
theorem c6.ok {P:Program} {w:World} {H:Hp} {h:Heap} {a:Addr} {S:Int -> Bool} {n:Nat} (x:c6 P w a S n h):eV P w H h a (fP P w a S n):=by
 refine ⟨x,?_,λh1 h2 x1 k=>x1.mono k⟩
 obtain ⟨o,es,ep,t,ho,r⟩:=x
 exact ⟨o,ho⟩
section
variable {X:Cx}
theorem Inv.laidS {pins:List (Addr × Obj)} {σ:St} {H:Hp} {s s':Shared} {a:Addr} {o:HO} (I:Inv X pins σ H s) (hos:s'.os = s.os) (hg:s'.gens = s.gens) (k:∀ b u,s.heap.get? b = some u -> s'.heap.get? b = some u) (hp:s.heap.objs.size <= a) (new:eV X.prog X.w (c7 H a o) s'.heap a o):Inv X pins σ (c7 H a o) s' :=
 I.call' (s':=s') (ch:=[]) hos (Un.laid k hp (I.hok.fresh hp)) (I.hok.laid k hp new) (by rw [hg];exact I.bare) (by simp)
def HC (P:Program) (w:World):List V -> Hp -> VK -> Prop:=λxs H Q=>∃ a S n,xs = [.ref a] /\ H a = some (fP P w a S n) /\ n < 64 /\
 ∀ (l:Addr) (ms:List Int),H l = none -> ms.Pairwise (· < ·) -> (∀ k,S k = true ↔ k ∈ ms) -> Q (.ref l) (c7 H l (.lst (List.map V.int ms)))
theorem CB (hc:X.calm = true):i8 X (.builtin "sorted") (HC X.prog X.w):=by
 intro pins s σ H xs us Q I r h
 obtain ⟨p,S,n,rfl,hp,h64,q⟩:=h
 obtain ⟨u,rfl,ru⟩:=rH r
 cases ru
 obtain ⟨hX,_,_⟩ : c6 X.prog X.w p S n s.heap /\ (∃ o,s.heap.get? p = some o) /\ (∀ h1 h2:Heap,c6 X.prog X.w p S n h1 -> (∀ o,h1.get? p = some o -> h2.get? p = some o) -> c6 X.prog X.w p S n h2):=I.hok p _ hp
 refine K8 (I.ok.hd hc) hX h64 λout ns l m s' g1 g2 g3 g4 g5 g6 hI hlt hmem hl=>?_
 refine ⟨.ref l,c7 H l (.lst (List.map V.int ns)),I.laidS g2 g1 g4 g5 ⟨?_,out.toList,m,qH hI,by simpa using g6⟩,rfl,q l ns (I.hok.fresh g5) hlt hmem⟩
 rw [a0d,hl]
 exact a1b (a2t h64) (by decide)
end
def iF (p0:Pos) (target:Expr) (ifs:List Expr) (act:Sem Unit) (e:Expr) (d:Nat) (it acc:Value) (env:Env):Sem Fin:=do
 standAt p0
 match <- pyNext it with
 | none=>pure (.done .next)
 | some v =>
  letOwnedTupleGo target it v
  assign target env v
  let mut ok:=true
  for c in ifs do
   if ok then ok <- isTrue c env (eval c env)
  if ok then
   act
  again (.compLoop e d it acc env)
def PB (Y:Cx) (m:Sem Unit) (t:TS):Prop:=∀ (pins:List (Addr × Obj)) (s:Shared) (σ:St) (H:Hp) (D:Ends),Inv Y pins σ H s -> t D σ H ->
 wpAny (model Y.prog Y.w) Y.A m (λ_ s'=>∃ σ' H',Inv Y pins σ' H' s' /\ D.nx σ' H') (λ_ _=>False) s
def O0 (tt:TT) (ta:TS):TS:=λD σ H=>tt σ H λb H1=>if b = true then ta D σ H1 else D.nx σ H1
inductive CompKind:Expr -> Prop where
 | list (elt:Expr) (gens:List Comprehension) (scope:Scope) (pos:Pos):CompKind (.ListComp elt gens scope pos)
 | set (elt:Expr) (gens:List Comprehension) (scope:Scope) (pos:Pos):CompKind (.SetComp elt gens scope pos)
 | dict (k v:Expr) (gens:List Comprehension) (scope:Scope) (pos:Pos):CompKind (.DictComp k v gens scope pos)
theorem MO {prog:Program} {w:World} {A:Around} {R:Result -> Shared -> Prop} {s:Shared} {e:Expr} {d:Nat} {it acc:Value} {env:Env} {p0:Pos} {target:Expr} {ifs:List Expr} {act:Sem Unit} (heq:compTurn e d it acc env = iF p0 target ifs act e d it acc env) (hk:CompKind e) (I:Nat -> Shared -> Prop)
  (turn:∀ n s,I n s -> wpAny (model prog w) A (pyNext it) (λr s1=>match r with
   | none=>R (.ok .next) s1
   | some v=>wpAny (model prog w) A (letOwnedTupleGo target it v) (λ_ s2=>wpAny (model prog w) A (assign target env v) (λ_ s3 =>
     wpAny (model prog w) A (forIn ifs true λc r=>if r = true then do let ok <- isTrue c env (eval c env);pure (ForInStep.yield ok) else pure (ForInStep.yield r)) (λok s4 =>
      if ok = true then wpAny (model prog w) A act (λ_ s5=>∃ m,m < n /\ I m s5) (λ_ _=>False) s4
      else ∃ m,m < n /\ I m s4) (λ_ _=>False) s3) (λ_ _=>False) s2) (λ_ _=>False) s1) (λ_ _=>False) s)
  (n:Nat) (h:I n s):codeAny (model prog w) A (.compLoop e d it acc env) R s:=by
 refine codeAny_loop (by cases hk <;> rfl) I (λn s hI=>?_) n h
 have go:wpAny (model prog w) A ((compTurn e d it acc env).onRaise λx=>do noteFrame x env;theTreesLotGoes x) (λfin s'=>match fin with | .done f=>R (.ok f) s' | .again c'=>c' = .compLoop e d it acc env /\ ∃ m,m < n /\ I m s') (λe s'=>R (.error e) s') s:=?_
 ·cases hk <;> exact go
 refine wpAny_noted (env:=env) (m:=compTurn e d it acc env) ?_
 rw [heq]
 unfold iF
 refine a0a (a3h (a0a (a1a (turn n s hI) (λr s1 h1=>?_) λ_ _ z=>z.elim)))
 cases r with
 | none=>exact a0c h1
 | some v =>
  refine a0a (a1a h1 (λ_ s2 h2=>?_) λ_ _ z=>z.elim)
  refine a0a (a1a h2 (λ_ s3 h3=>?_) λ_ _ z=>z.elim)
  refine a0a (a1a h3 (λok s4 h4=>?_) λ_ _ z=>z.elim)
  cases ok with
  | false=>exact a0c ⟨rfl,h4⟩
  | true=>exact a0a (a1a h4 (λ_ s5 h5=>a0c ⟨rfl,h5⟩) λ_ _ z=>z.elim)
theorem zF {Y:Cx} {e:Expr} (hk:CompKind e) (hc:Y.calm = true) (hx:Y.xe = λ_ _=>False) {d:Nat} {acc:Value} {p0:Pos} {target:Expr} {ifs:List Expr} {act:Sem Unit} {it:Addr} (heq:compTurn e d (.ref it) acc Y.env = iF p0 target ifs act e d (.ref it) acc Y.env)
  {g:TG} {tt:TT} {ta:TS} (hg:PG Y target g) (ht:O7 Y ifs tt) (ha:PB Y act ta) {pins:List (Addr × Obj)} {fp:List Addr} {tn:Nat -> Heap -> Prop} {J:It} {σ:St} {H:Hp} {s:Shared} {D:Ends} {R:Result -> Shared -> Prop}
  (T:Turn Y.prog Y.w Y.K target J fp it tn) (I:Inv Y pins σ H s) (st:tn 0 s.heap) (hf:∀ b ∈ fp,lB Y pins H b) (body:tK J g (O0 tt ta) D σ H)
  (hR:∀ (i:Nat) (σ':St) (H':Hp) (s':Shared),Inv Y pins σ' H' s' -> D.nx σ' H' -> R (.ok .next) s'):codeAny (model Y.prog Y.w) Y.A (.compLoop e d (.ref it) acc Y.env) R s:=by
 obtain ⟨W,⟨m0,w0⟩,turn⟩:=body
 have stat:∀ {H':Hp},(∀ b ∈ fp,H' b = none) -> ∀ b ∈ fp,lB Y pins H' b:=λhn b hb=>⟨hn b hb,(hf b hb).2⟩
 refine MO heq hk (λk s'=>∃ i σ' H',Inv Y pins σ' H' s' /\ tn i s'.heap /\ (∀ b ∈ fp,H' b = none) /\ W i k σ' H') ?_ m0 ⟨0,_,_,I,st,λb hb=>(hf b hb).1,w0⟩
 rintro k s5 ⟨i,σ5,H5,I5,st5,fr5,w5⟩
 rcases turn i k σ5 H5 w5 with ⟨stop,qn⟩ | ⟨go,Nn,hN,step⟩
 ·refine a1a (T.done Y rfl rfl rfl hc i pins s5 σ5 H5 (λ_ _=>False) I5 (stat fr5) st5 stop) (λr s6 hr=>?_) (λ_ _ z=>z)
  obtain ⟨rfl,I6⟩:=hr
  exact hR i σ5 H5 s6 I6 qn
 ·refine a1a (T.item Y rfl rfl rfl hc i pins s5 σ5 H5 (λ_ _=>False) I5 (stat fr5) st5 go) (λr s6 h6=>?_) (λ_ _ z=>z)
  obtain ⟨u,rfl,h6⟩:=h6
  refine a1a h6 (λ_ s7 h7=>?_) (λ_ _ z=>z)
  obtain ⟨x,H7,I7,r7,y7,st7,fr7⟩:=h7
  have I7':=I7.pinned (stat fr7) (T.obj _ _ st7)
  have again:∀ {σ':St} {H':Hp} {s':Shared},Inv Y (pins ++ sX fp s7.heap) σ' H' s' -> Nn σ' H' -> ∃ m,m < k /\ ∃ i σ' H',Inv Y pins σ' H' s' /\ tn i s'.heap /\ (∀ b ∈ fp,H' b = none) /\ W i m σ' H':=fun {σ' H' s'} J7 n7=>by
   obtain ⟨m',hm,w7⟩:=hN σ' H' n7
   have pin:∀ b ∈ fp,∀ o,s7.heap.get? b = some o -> s'.heap.get? b = some o /\ H' b = none:=λb hb o e=>by
    have z:=J7.pin (b,o) (a0w _ (a0w _ (g9 hb e)))
    exact ⟨z.1,z.2.1⟩
   refine ⟨m',hm,i + 1,σ',H',J7.unpinned,T.keep _ _ _ st7 λb hb o e=>(pin b hb o e).1,λb hb=>?_,w7⟩
   obtain ⟨o,e,_⟩:=T.obj _ _ st7 b hb
   exact (pin b hb o e).2
  have hg':=hg _ s7 σ5 H7 x u _ I7' r7 (step x H7 y7)
  rw [hx] at hg'
  refine a1a hg' (λ_ s8 h8=>?_) λ_ _ z=>z
  obtain ⟨σ8,H8,I8,q8⟩:=h8
  have ht':=ht _ s8 σ8 H8 _ I8 q8
  rw [hx] at ht'
  refine a1a ht' (λok s9 h9=>?_) λ_ _ z=>z
  obtain ⟨H9,I9,q9⟩:=h9
  cases ok with
  | false =>
   rw [if_neg a0j] at q9 ⊢
   exact again I9 q9
  | true =>
   rw [if_pos rfl] at q9 ⊢
   refine a1a (ha _ s9 σ8 H9 _ I9 q9) (λ_ s10 h10=>?_) λ_ _ z=>z
   obtain ⟨σ10,H10,I10,q10⟩:=h10
   exact again I10 q10
theorem lH {prog:Program} {w:World} {A:Around} {R:Result -> Shared -> Prop} {s:Shared} {e:Expr} {d:Nat} {it acc:Value} {env:Env} {target iter:Expr} {ifs:List Expr} (hk:CompKind e) (hcl:(clausesOf e)[d]? = some ⟨target,iter,ifs,0⟩)
  (h0:codeAny (model prog w) A (.compLoop e d it acc env) R s) (h:wpAny (model prog w) A (pyIter it) (λit' s'=>codeAny (model prog w) A (.compLoop e d it' acc env) R s') (λ_ _=>False) s):codeAny (model prog w) A (.compStart e d it acc env) R s:=by
 have hq:(Code.compLoop e d it acc env).quiet = true:=by cases hk <;> rfl
 have hq':∀ it',(Code.compLoop e d it' acc env).quiet = true:=λit'=>by cases hk <;> rfl
 have go:wpAny (model prog w) A ((compStart e d it acc env).onRaise λx=>do noteFrame x env;standAt theWindowsPlace) (λfin s'=>match fin with | .done f=>R (.ok f) s' | .again c'=>c'.quiet = true /\ codeAny (model prog w) A c' R s') (λe s'=>R (.error e) s') s:=?_
 ·refine codeAny_of_tree ?_
  cases hk <;> exact go
 refine wpAny_notedAt ?_
 unfold compStart
 rw [hcl]
 rw [if_neg (by show ¬ ((0:Nat) != 0) = true;decide)]
 show wpAny _ _ (ask >>= _) _ _ s
 refine a0a (a3t (wpAny_ite ?_))
 split
 ·first
   | exact a0a (a0c (a0c (And.intro hq h0)))
   | exact a0c (And.intro hq h0)
 ·refine a0a (a4r ?_)
  show wpAny _ _ (standAt iter.pos >>= _) _ _ s
  exact a0a (a3h (a0a (a1a h (λit' s' h'=>a0c (And.intro (hq' it') h')) λ_ _ x=>x.elim)))
def a60 (wi:TI) (g:TG) (tt:TT) (ta:TS):TS:=λD σ H=>wi σ H λJ H1=>tK J g (O0 tt ta) D σ H1
theorem a31 {Y:Cx} {e:Expr} (hk:CompKind e) (hc:Y.calm = true) (hx:Y.xe = λ_ _=>False) {acc:Value} {g0:Comprehension} {target iter:Expr} {ifs:List Expr} {act:Sem Unit} (hcl:clausesOf e = [g0,⟨target,iter,ifs,0⟩]) (heq:∀ it:Value,compTurn e 1 it acc Y.env = iF iter.pos target ifs act e 1 it acc Y.env)
  {wi:TI} {g:TG} {tt:TT} {ta:TS} (hi:PI Y target iter wi) (hg:PG Y target g) (ht:O7 Y ifs tt) (ha:PB Y act ta) (hs:∀ x,foldedSetIterable iter Y.env x = pure x) :
  PB Y (do let x <- eval iter Y.env;standAt iter.pos;let x <- foldedSetIterable iter Y.env x;let _ <- runOwn (.compStart e 1 (<- holding [x] (pyIter x)) acc Y.env) Y.env) (a60 wi g tt ta):=by
 intro pins s σ H D I h
 have h0:=hi pins s σ H _ I h
 rw [hx] at h0
 refine a0a (a1a h0 (λv s1 h1=>?_) λ_ _ z=>z)
 refine a0a (a3h (a0a (a5r (hs v) ?_)))
 refine a0a (a1s (a1a h1 (λitv s2 h2=>?_) λ_ _ z=>z))
 obtain ⟨it,fp,tn,J,H2,rfl,I2,T,st2,f2,body⟩:=h2
 have run:∀ (R:Result -> Shared -> Prop),(∀ (i:Nat) (σ':St) (H':Hp) (s':Shared),Inv Y pins σ' H' s' -> D.nx σ' H' -> R (.ok .next) s') -> codeAny (model Y.prog Y.w) Y.A (.compLoop e 1 (.ref it) acc Y.env) R s2:=λR hR=>zF hk hc hx (heq _) hg ht ha T I2 st2 f2 body hR
 refine a0a (wpAny_runOwn (h:=none) ?_)
 refine lH (A:=Y.A) hk (by rw [hcl];rfl) (run _ λi σ' H' s' I' q=>?_) (T.self _ 0 _ _ _ st2 (run _ λi σ' H' s' I' q=>?_))
 ·exact a0c ⟨σ',H',I',q⟩
 ·exact a0c ⟨σ',H',I',q⟩
theorem IT {prog:Program} {w:World} {A:Around} {E:Value -> Shared -> Prop} {s:Shared} {a:Addr} {S:Int -> Bool} {n:Nat} {k:Int} {key:Value} {Q:Value -> Shared -> Prop} (hkey:(intKind prog w).is k key = true) (hsc:key.scannable = true) (hS:c6 prog w a S n s.heap) (hroom:n + 1 < scanBound)
  (h:∀ h',Heap.SameBut a s.heap h' -> c6 prog w a (λk'=>S k' || decide (k' = k)) (if S k then n else n + 1) h' -> Q .none { s with heap:=h',toks:=s.toks + 1 }) :
  wpAny (model prog w) A (call (.builtin "set.add") [.ref a,key]) Q E s:=by
 have hT:s.TypeIs (.ref a) "set" := by
  obtain ⟨o,es,ep,t,ho,hex,_⟩:=hS
  exact ⟨o,ho,hex.1⟩
 refine a2j F.slot_set_add hT F.entry_set_add ?_ (F.args_set_add_2 _ _)
 unfold Builtin.«set.add» Builtin.Frozenset.oneOther
 simp only [List.isEmpty_nil,bind_assoc]
 unfold Builtin.Frozenset.addrOf setAdd
 refine a0a (a0c ?_)
 try dsimp only
 refine a0a (a0c ?_)
 try dsimp only
 refine a0a ?_
 refine a1s ?_
 refine a0a ((intKind prog w).pyHash hkey ?_)
 refine oG (s:={ s with toks:=s.toks + 1 }) hkey hsc hS hroom λh' hsb hS'=>?_
 show wpAny _ _ (ret Value.none) _ _ _
 exact a0c ⟨_,rfl,h h' hsb hS'⟩
def a3O (P:Program) (w:World) (te:TE) (acc:Addr):TS:=λD σ H=>te σ H λv H1=>∃ i S n,v = .int i /\ H1 acc = some (fP P w acc S n) /\ n < 1000 /\ D.nx σ (c7 H1 acc (fP P w acc (λk=>S k || decide (k = i)) (if S i then n else n + 1)))
theorem a04 {Y:Cx} (hx:Y.xe = λ_ _=>False) {elt:Expr} {te:TE} {acc:Addr} (he:PE Y elt te):PB Y (do let v <- eval elt Y.env;standAt elt.pos;let _ <- call (.builtin "set.add") [.ref acc,v]) (a3O Y.prog Y.w te acc):=by
 intro pins s σ H D I h
 have h0:=he pins s σ H _ I h
 rw [hx] at h0
 refine a0a (a1a h0 (λv s1 h1=>?_) λ_ _ z=>z)
 obtain ⟨x,H1,I1,r1,i,S,n,rfl,ha,hn,q⟩:=h1
 obtain ⟨tk,rfl⟩:=r1
 obtain ⟨hX,_,_⟩ : c6 Y.prog Y.w acc S n s1.heap /\ (∃ o,s1.heap.get? acc = some o) /\ (∀ h1 h2:Heap,c6 Y.prog Y.w acc S n h1 -> (∀ o,h1.get? acc = some o -> h2.get? acc = some o) -> c6 Y.prog Y.w acc S n h2):=I1.hok acc _ ha
 refine a0a (a3h (a0a (IT (k:=i) (by simp [intKind,Value.isInt]) rfl hX (a5j (Nat.succ_le_of_lt hn) (by decide)) λh' sb hX'=>a0c ⟨σ,_,?_,q⟩)))
 refine I1.write (t':=s1.toks + 1) (x:=acc) (e:=acc) (by rw [ha];trivial) (.inl rfl) (λb u hb e=>(sb.2 b hb).trans e) ?_ hX'.ok
 obtain ⟨o,_,_,_,ho,_⟩:=hX'
 exact ⟨o,ho⟩
def a5R (P:Program) (w:World) (wi:TI) (g:TG) (tt:TT) (ta:Addr -> TS) (n:Nat) (cap:List Nat):TE:=λσ H Q=>wi σ H λJ H1=>∀ acc,H1 acc = none ->
 tK J g (O0 tt (ta acc)) { nx:=λ_ H'=>Q (.ref acc) H',rt:=λ_ _=>False } (JB n cap σ) (c7 H1 acc (fP P w acc (λ_=>false) 0))
section
variable {X:Cx} {elt target iter:Expr} {ifs:List Expr} {scope:Scope} {pos:Pos} {N':List Str} {n:Nat} {cap:List Nat} {wi:TI} {g:TG} {tt:TT} {ta:Addr -> TS} {gs:List Comprehension} {act:Value -> Env -> Sem Unit}
theorem a34 (hc:X.calm = true) (S:LcOk X.N X.env.scope scope N' n cap) (heq:∀ it acc env,compTurn (.SetComp elt (⟨target,iter,ifs,0⟩ :: gs) scope pos) 0 it acc env = iF iter.pos target ifs (act acc env) (.SetComp elt (⟨target,iter,ifs,0⟩ :: gs) scope pos) 0 it acc env)
  (hi:PI X target iter wi) (hg:∀ C s H fp,PG (bJ X N' scope C s H fp) target g)
  (ht:∀ C s H fp,O7 (bJ X N' scope C s H fp) ifs tt) (ha:∀ acc C s H fp,PB (bJ X N' scope C s H fp) (act (.ref acc) (bJ X N' scope C s H fp).env) (ta acc)) (hs:∀ x,foldedSetIterable iter X.env x = pure x:=by intro _;rfl) :
  PE X (.SetComp elt (⟨target,iter,ifs,0⟩ :: gs) scope pos) (a5R X.prog X.w wi g tt ta n cap):=by
 intro pins s σ H Q I h
 have hfree:∀ y ∈ scope.names,y.2 = .free -> ∃ c,X.env.cells.lookup y.1 = some c:=λy hy e=>I.ok.has y.1 (.inl (S.frees y hy e))
 show wpAny _ _ (comprehension (.SetComp elt (⟨target,iter,ifs,0⟩ :: gs) scope pos) scope X.env (firstIterPos (⟨target,iter,ifs,0⟩ :: gs) pos) (newSet (.type "set")) (firstAsync (⟨target,iter,ifs,0⟩ :: gs)) (firstIter (⟨target,iter,ifs,0⟩ :: gs) X.env)) _ _ s
 refine a4k (use:=none) rfl hs (mN hfree) S.kind S.names ?_
 refine dX (hi pins s σ H _ I h) λv s1 h1=>dX h1 λitv s2 h2=>?_
 obtain ⟨it,fp,tn,J,H2,rfl,I2,T,st2,f2,body⟩:=h2
 refine QQ λo hX=>?_
 have hacc:H2 s2.heap.objs.size = none:=I2.fresh
 have kp:∀ b u,s2.heap.get? b = some u -> (s2.heap.push o).get? b = some u:=λb u e=>a0e _ e
 have I3:Inv X pins σ (c7 H2 s2.heap.objs.size (fP X.prog X.w s2.heap.objs.size (λ_=>false) 0)) { s2 with heap:=s2.heap.push o }:=I2.laid (t':=s2.toks) kp (a0l _) hX.ok
 have body:=body _ hacc
 have hlt:∀ b ∈ fp,b < s2.heap.objs.size:=λb hb=>by
  obtain ⟨o,e,_⟩:=T.obj 0 _ st2 b hb
  exact a0m e
 have hf3:∀ b ∈ fp,lB X pins (c7 H2 s2.heap.objs.size (fP X.prog X.w s2.heap.objs.size (λ_=>false) 0)) b:=λb hb =>
  ⟨by rw [aG (a0r (hlt b hb))];exact (f2 b hb).1,(f2 b hb).2⟩
 refine a5d S.nocell (by intro y hy;cases hy) (λh4 ns4 sb4=>?_) S.kind
 generalize hs3:({ s2 with heap:=s2.heap.push o }:Shared) = s3 at *
 have hsz:s2.heap.objs.size < s3.heap.objs.size:=by rw [<- hs3,a2v];exact a2z _
 have k4:∀ b o,s3.heap.get? b = some o -> h4.get? b = some o:=λb o e=>(sb4.2 b (a0r (a0m e))).trans (a0e _ e)
 generalize hH3:c7 H2 s2.heap.objs.size (fP X.prog X.w s2.heap.objs.size (λ_=>false) 0) = H3 at *
 have IY:=uD (tk:=s3.toks + ([]:List (Str × Value)).length) S I3 hf3 (λb hb=>a2h (hlt b hb) hsz) ns4 k4
 have fpY:∀ b ∈ fp,lB (bJ X N' scope s3.heap.objs.size s3 H3 fp) [] H3 b:=λb hb=>by
  obtain ⟨f0,f1,f2',f3,f4,f5⟩:=hf3 b hb
  refine ⟨f0,a0r (a2h (hlt b hb) hsz),λz=>?_,.inl hb,λx c e=>f4 x c (oH hfree e),λp hp=>absurd hp (by simp [bJ])⟩
  rcases a0q.mp (I3.stkSub b z) with z | z
  ·exact f1 z
  ·exact f2' z
 have tn4:tn 0 h4:=T.keep 0 _ _ st2 λb hb o e=>k4 b o (by rw [<- hs3];exact a0e _ e)
 have loop:codeAny (model X.prog X.w) X.A (.compLoop (.SetComp elt (⟨target,iter,ifs,0⟩ :: gs) scope pos) 0 (.ref it) (.ref s2.heap.objs.size) (bJ X N' scope s3.heap.objs.size s3 H3 fp).env)
   (compPost (model X.prog X.w) X.A X.xe none (EP X pins σ Q) (.ref s2.heap.objs.size) s3.heap.objs.size) { s3 with heap:=h4,toks:=s3.toks + ([]:List (Str × Value)).length }:=by
  refine zF (Y:=bJ X N' scope s3.heap.objs.size s3 H3 fp) (.set _ _ _ _) hc rfl (heq _ _ _) (hg _ _ _ _) (ht _ _ _ _) (ha _ _ _ _ _) T IY tn4 fpY body λi σ5 H5 s6 I6 qn=>?_
  obtain ⟨m,hn,_⟩:=I6.loc
  refine ⟨m,hn,λh' hs'=>⟨.ref s2.heap.objs.size,H5,?_,rfl,qn⟩⟩
  have ub:=I6.base
  have ne:∀ b o,s3.heap.get? b = some o -> b ≠ s3.heap.objs.size:=λb o e=>a0r (a0m e)
  refine I3.call' (s':={ s6 with heap:=h' }) (ch:=fp) I6.os ⟨λb o e z1 z2 z3=>(hs'.2 b (ne b o e)).trans (ub.keep b o e z1 z2 z3),λb o e z1 z2 z3=>?_,ub.free,λb o e z=>?_,ub.tups,ub.frzs,ub.tbls⟩ (yQ I6.hok I6.free hs') I6.bare λb hb=>⟨(hf3 b hb).2.2.2.1,(hf3 b hb).2.1,(hf3 b hb).2.2.2.2.1,(hf3 b hb).2.2.2.2.2⟩
  ·obtain ⟨sl,e'⟩:=ub.slot b o e z1 z2 z3
   exact ⟨sl,(hs'.2 b (ne b o e)).trans e'⟩
  ·obtain ⟨o',e'⟩:=ub.there b o e z
   exact ⟨o',(hs'.2 b (ne b o e)).trans e'⟩
 exact lH (.set _ _ _ _) rfl loop (T.self _ 0 _ _ _ tn4 loop)
end
def aS (ks:List Int):List Int:=nZ ks.eraseDups
theorem c8 {ks:List Int} {k:Int}:k ∈ aS ks ↔ k ∈ ks:=by
 unfold aS
 rw [(cT _).mem_iff,List.mem_eraseDups]
theorem SQ (ks:List Int):(aS ks).Pairwise (· <= ·):=mZ _
theorem o3:∀ (n:Nat) (ks:List Int),ks.length <= n -> ks.eraseDups.Nodup
 | 0,ks,h=>by
  have:ks = []:=a3d.mp (by omega)
  subst this;simp
 | n + 1,[],h=>by simp
 | n + 1,k :: ks,h=>by
  rw [List.eraseDups_cons,a1w]
  refine ⟨λz=>?_,o3 n _ ?_⟩
  ·rw [List.mem_eraseDups,a2e] at z
   simp at z
  ·have:=a4a (λb=>!b == k) ks
   simp at h;omega
theorem jA (ks:List Int):(aS ks).Pairwise (· < ·):=by
 have h2:(aS ks).Nodup:=(cT _).nodup_iff.mpr (o3 _ ks (a0l _))
 exact ((SQ ks).and h2).imp fun {x y} ⟨h1,h2⟩=>by omega
theorem NG {as bs:List Int} (ha:as.Pairwise (· < ·)) (hb:bs.Pairwise (· < ·)) (h:∀ k,k ∈ as ↔ k ∈ bs):as = bs:=by
 refine rG ?_ (ha.imp λh=>by omega) (hb.imp λh=>by omega)
 exact (List.perm_ext_iff_of_nodup (ha.imp λh=>by omega) (hb.imp λh=>by omega)).mpr h
theorem IA {ks ms:List Int} (hm:ms.Pairwise (· < ·)) (h:∀ k,k ∈ ms ↔ k ∈ ks):ms = aS ks:=NG hm (jA ks) λk=>(h k).trans c8.symm
abbrev ID:=List Int -> bY -> (List Int -> bY -> Prop) -> Prop
def pEmAdd (te:b8):ID:=λacc env K=>te env λv=>match v with
 | .int i=>acc.length < 63 /\ K (acc ++ [i]) env
 | _=>False
def o8 (g:lC) (tt:jB) (a:ID) (K:List Int -> bY -> Prop):List PV -> List Int -> bY -> Prop
 | [],acc,env=>K acc env
 | x :: xs,acc,env=>g x env λenv1=>tt env1 λk=>Br k (a acc env1 λacc' env2=>o8 g tt a K xs acc' env2) (o8 g tt a K xs acc env1)
def pEmIn (s:rT) (g:lC) (tt:jB) (a:ID):ID:=λacc env K=>s env λitems=>o8 g tt a K items acc env
def pSortSc (s:rT) (g:lC) (tt:jB) (a:ID) (cp:bY -> bY):b8:=λenv Q=>s env λitems=>o8 g tt a (λacc _=>Q (.lst ((aS acc).map PV.int))) items [] (cp env)
structure SetIn (P:Program) (w:World) (acc:Addr) (H0:Hp) (W:Wd) (H:Hp) (ks:List Int):Prop where
 ex:∃ S n,H acc = some (fP P w acc S n) /\ (∀ k,S k = true ↔ k ∈ ks) /\ n <= ks.length
 few:ks.length <= 63
 new:H0 acc = none
 nF:¬ W.F acc
 nS:¬ W.S acc
 nL:¬ W.L acc
structure Ga (acc:Addr) (W:Wd) (H:Hp) (W':Wd) (H':Hp):Prop where
 ga:∀ W1 H1,H1 acc = none -> Go W1 H1 W H -> Go W1 H1 W' H'
 ex:Ex W H W' H'
theorem Ga.refl {acc:Addr} {W:Wd} {H:Hp}:Ga acc W H W H:=⟨λ_ _ _ g=>g,.refl⟩
theorem Ga.trans {acc:Addr} {W W1 W2:Wd} {H H1 H2:Hp} (a:Ga acc W H W1 H1) (b:Ga acc W1 H1 W2 H2):Ga acc W H W2 H2:=⟨λV G h g=>b.ga V G h (a.ga V G h g),a.ex.trans b.ex⟩
theorem Go.toGa {acc:Addr} {W W':Wd} {H H':Hp} (g:Go W H W' H') (w:Wok W H):Ga acc W H W' H':=⟨λ_ _ _ k=>k.trans g,g.ex w⟩
theorem SetIn.go {P:Program} {w:World} {acc:Addr} {H0:Hp} {W W':Wd} {H H':Hp} {ks:List Int} (x:SetIn P w acc H0 W H ks) (g:Go W H W' H'):SetIn P w acc H0 W' H' ks:=by
 obtain ⟨S,n,h1,h2,h3⟩:=x.ex
 exact ⟨⟨S,n,g.kp acc _ h1 x.nS,h2,h3⟩,x.few,x.new,g.nFF h1 x.nF,g.nSS h1 x.nS,by rw [g.kl];exact x.nL⟩
def QF (P:Program) (w:World) (K:PySem.W.Frag) (mb mn:List Md) (a:ID) (acc:Addr):TS:=λD σ H=>∃ (env:bY) (W0:Wd) (H0:Hp) (W:Wd) (ks:List Int) (Kp:List Int -> bY -> Prop),Rl K mb W0 H0 W σ env H /\ SetIn P w acc H0 W H ks /\ a ks env Kp /\
 ∀ (env':bY) (W':Wd) (σ':St) (H':Hp) (ks':List Int),Rl K mn W0 H0 W' σ' env' H' -> Ga acc W H W' H' -> SetIn P w acc H0 W' H' ks' -> Kp ks' env' -> D.nx σ' H'
structure VB (Y:Cx) (mb mn:List Md) (m:Addr -> Sem Unit) (a:ID):Prop where
 h:∀ acc,PB Y (m acc) (QF Y.prog Y.w Y.K mb mn a acc)
theorem PB.imp {Y:Cx} {m:Sem Unit} {t t':TS} (h:PB Y m t) (k:∀ D σ H,t' D σ H -> t D σ H):PB Y m t':=λpins s σ H D I q=>h pins s σ H D I (k D σ H q)
theorem a1I {Y:Cx} (hx:Y.xe = λ_ _=>False) {mb:List Md} {elt:Expr} {te:b8} (hb:qU mb = true) (he:VE Y mb elt .bw te):VB Y mb mb (λacc=>do let v <- eval elt Y.env;standAt elt.pos;let _ <- call (.builtin "set.add") [.ref acc,v]) (pEmAdd te):=⟨λacc=>(a04 hx he.h).imp λD σ H h=>by
 obtain ⟨env,W0,H0,W,ks,Kp,R,x,q,k⟩:=h
 refine ⟨env,W0,H0,W,_,R,q,λv u W1 H1 g1 r1 q1=>?_⟩
 have x1:=x.go g1
 obtain ⟨S,n,h1,h2,h3⟩:=x1.ex
 cases v with
 | int i =>
  have:=Rep.ofInt r1
  subst this
  have hfew:=x1.few
  refine ⟨i,S,n,rfl,h1,by omega,?_⟩
  refine k env W1 σ _ (ks ++ [i]) ((R.step g1).tmp hb x1.new x1.nF x1.nS x1.nL h1 rfl (λ_ _ z=>by cases z)) ?_ ⟨⟨_,_,bK,λj=>?_,?_⟩,by have:=q1.1;simp;omega,x1.new,x1.nF,x1.nS,x1.nL⟩ q1.2
  ·refine (g1.toGa R.ok).trans ⟨λV G hG g=>g.tmp hG x1.nF x1.nS,⟨λ_ h=>h,λb o f e=>by rw [aG (λz=>by subst z;exact x1.nF f)];exact e,λb o im e=>by rw [aG (λz=>by subst z;rw [h1] at e;cases e;cases im)];exact e⟩⟩
  ·rw [a3n,h2 j,a4y,a1g,a5k]
  ·rw [a1d]
   split
   ·exact a1b h3 (Nat.le_add_right _ _)
   ·exact Nat.succ_le_succ h3
 | _=>exact q1.elim⟩
theorem KR {P:Program} {w:World} {K:PySem.W.Frag} {mb m1 m2:List Md} {eli:El} {g:lC} {tt:jB} {a:ID} {acc:Addr} {J:It} {items:List PV} {W0 W1:Wd} {H0 H1:Hp} {Kp:List Int -> bY -> Prop} {D:Ends} (hle:n0 m1 mb = true) (hle2:n0 m2 mb = true) (sr:Src J eli H0 W1 H1 items)
  {σ:St} {env:bY} {ks:List Int} (q:o8 g tt a Kp items ks env) {W2:Wd} {H2:Hp} (R:Rl K mb W0 H0 W2 σ env H2) (x12:Ex W1 H1 W2 H2) (x:SetIn P w acc H0 W2 H2 ks)
  (k:∀ (env':bY) (W':Wd) (σ':St) (H':Hp) (ks':List Int),Rl K mb W0 H0 W' σ' env' H' -> Ga acc W2 H2 W' H' -> SetIn P w acc H0 W' H' ks' -> Kp ks' env' -> D.nx σ' H') :
  tK J (A0 K mb m1 eli g) (O0 (xJ K m1 tt) (QF P w K m1 m2 a acc)) D σ H2:=by
 refine ⟨λi m σb Hb=>m = items.length - i /\ i <= items.length /\ ∃ (envb:bY) (Wb:Wd) (kb:List Int),Rl K mb W0 H0 Wb σb envb Hb /\ Ga acc W2 H2 Wb Hb /\ SetIn P w acc H0 Wb Hb kb /\ o8 g tt a Kp (items.drop i) kb envb,
  ⟨items.length,by simp,a2u _,env,W2,ks,R,.refl,x,by simpa using q⟩,?_⟩
 rintro i m σb Hb ⟨rfl,hi,envb,Wb,kb,Rb,gab,xb,qb⟩
 have exb:Ex W1 H1 Wb Hb:=x12.trans gab.ex
 by_cases hlt:i < items.length
 ·rw [a3k hlt] at qb
  refine .inr ⟨sr.go i Wb Hb exb hlt,λσ' H'=>i + 1 <= items.length /\ ∃ (envb:bY) (Wb:Wd) (kb:List Int),Rl K mb W0 H0 Wb σ' envb H' /\ Ga acc W2 H2 Wb H' /\ SetIn P w acc H0 Wb H' kb /\ o8 g tt a Kp (items.drop (i + 1)) kb envb,λσ' H' z=>⟨items.length - (i + 1),by omega,rfl,z.1,z.2⟩,λv H3 y=>?_⟩
  obtain ⟨g3,xx,ex,rx⟩:=sr.yld i Wb Hb v H3 exb Rb.ok hlt y
  rw [a0b hlt] at ex
  cases ex
  refine ⟨envb,W0,H0,Wb,_,_,Rb.step g3,rx,qb,λenv' σ' R' z=>?_⟩
  refine ⟨env',W0,H0,Wb,_,R',z,λkk W4 H4 g4 q4=>?_⟩
  have x4:=(xb.go g3).go g4
  have ga4:Ga acc W2 H2 W4 H4:=(gab.trans (g3.toGa Rb.ok)).trans (g4.toGa g3.ok)
  cases kk with
  | false =>
   dsimp only
   rw [if_neg a0j]
   exact ⟨hlt,env',W4,kb,(R'.step g4).less hle,ga4,x4,q4⟩
  | true =>
   dsimp only
   rw [if_pos rfl]
   exact ⟨env',W0,H0,W4,kb,_,R'.step g4,x4,q4,λenv5 W5 σ5 H5 k5 R5 ga5 x5 q5=>⟨hlt,env5,W5,k5,R5.less hle2,ga4.trans ga5,x5,q5⟩⟩
 ·have e:i = items.length:=by omega
  subst e
  rw [a5y] at qb
  exact .inl ⟨sr.stop Wb Hb exb,k envb Wb σb Hb kb Rb gab xb qb⟩
theorem a3Y {Y:Cx} (hc:Y.calm = true) (hx:Y.xe = λ_ _=>False) {elt target0 iter0 target iter:Expr} {ifs0 ifs:List Expr} {scope:Scope} {pos:Pos} {mb m1 m2:List Md} {eli:El} {s:rT} {g:lC} {tt:jB} {a:ID}
  (hle:n0 m1 mb = true) (hle2:n0 m2 mb = true) (hi:VI Y mb eli target iter s) (hg:VG Y mb m1 eli target g) (ht:VTs Y m1 ifs tt) (ha:VB Y m1 m2 (λacc=>do let v <- eval elt Y.env;standAt elt.pos;let _ <- call (.builtin "set.add") [.ref acc,v]) a)
  (hs:∀ x,foldedSetIterable iter Y.env x = pure x:=by intro _;rfl) :
  VB Y mb mb (λacc=>do let x <- eval iter Y.env;standAt iter.pos;let x <- foldedSetIterable iter Y.env x;let _ <- runOwn (.compStart (.SetComp elt [⟨target0,iter0,ifs0,0⟩,⟨target,iter,ifs,0⟩] scope pos) 1 (<- holding [x] (pyIter x)) (.ref acc) Y.env) Y.env) (pEmIn s g tt a) :=
 ⟨λacc=>(a31 (e:=.SetComp elt [⟨target0,iter0,ifs0,0⟩,⟨target,iter,ifs,0⟩] scope pos) (.set _ _ _ _) hc hx (act:=do let v <- eval elt Y.env;standAt elt.pos;let _ <- call (.builtin "set.add") [.ref acc,v]) rfl (λit=>rfl) hi.h hg.h ht.h (ha.h acc) hs).imp λD σ H h=>by
 obtain ⟨env,W0,H0,W,ks,Kp,R,x,q,k⟩:=h
 refine ⟨env,W0,H0,W,_,R,q,λitems W1 H1 J g1 sr q1=>?_⟩
 exact KR hle hle2 sr q1 (R.step g1) .refl (x.go g1) λenv' W' σ' H' ks' R' ga x' q'=>k env' W' σ' H' ks' R' ((g1.toGa R.ok).trans ga) x' q'⟩
theorem WA {P:Program} {w:World} {K:PySem.W.Frag} {md mb m2:List Md} {eli:El} {s:rT} {g:lC} {tt:jB} {a:ID} {n:Nat} {cap:List Nat} {σ:St} {H:Hp} {Q:VK} {cp:bY -> bY} (hcp:∀ env,cp env = AE n cap env) (hle:n0 mb (kA n cap md) = true) (hle2:n0 m2 (kA n cap md) = true)
  (h:i9 K md (.o .fl) (pSortSc s g tt a cp) σ H Q):XJ (HC P w) (I0 (a5R P w (CJ K md eli s) (A0 K (kA n cap md) mb eli g) (xJ K mb tt) (λacc=>QF P w K mb m2 a acc) n cap) SK) σ H Q:=by
 obtain ⟨env,W0,H0,W,Q',R,q,k⟩:=h
 refine ⟨env,W0,H0,W,_,R,q,λitems W1 H1 J g1 sr q1=>?_⟩
 intro acc hacc
 rw [hcp] at q1
 have h0acc:H0 acc = none:=R.go.free (g1.free hacc)
 have R1:=R.step g1
 have Rb:=JX (n:=n) (cap:=cap) R1 (λa=>∃ o,H1 a = some o) (λa o e=>⟨o,e⟩)
 generalize hW1b:({ W1 with L:=λa=>∃ o,H1 a = some o }:Wd) = W1b at Rb
 generalize hW0b:({ W0 with L:=λa=>∃ o,H1 a = some o }:Wd) = W0b at Rb
 have f1:W1b.F = W1.F:=by rw [<- hW1b]
 have s1:W1b.S = W1.S:=by rw [<- hW1b]
 have l1:¬ W1b.L acc:=by rw [<- hW1b];rintro ⟨o,e⟩;rw [hacc] at e;cases e
 have okb:Wok W1b H1:=Rb.ok
 have nF1:¬ W1b.F acc:=λz=>okb.offF hacc z
 have nS1:¬ W1b.S acc:=λz=>okb.offS hacc z
 have gl:Go W1b H1 W1b (c7 H1 acc (fP P w acc (λ_=>false) 0)):=Go.laid okb hacc
 have exW:Ex W1 H1 W1b (c7 H1 acc (fP P w acc (λ_=>false) 0)):=by
  have x:=gl.ex okb
  exact ⟨λa h=>by rw [f1];exact h,λa o h e=>x.kp a o (by rw [f1];exact h) e,x.im⟩
 refine KR hle hle2 sr q1 (Rb.step gl) exW ⟨⟨_,_,bK,λk=>by simp,a0l 0⟩,a2u _,h0acc,nF1,nS1,l1⟩ λenvb Wb σb Hb kb Rr ga x qb=>?_
 have gb:Go W1b H1 Wb Hb:=ga.ga W1b H1 hacc gl
 have gf:Go W H { Wb with L:=W.L } Hb:=by
  have a:=g1
  refine ⟨λb h=>gb.lF b (by rw [f1];exact a.lF b h),λb h=>gb.lS b (by rw [s1];exact a.lS b h),λb h=>?_,λb h=>?_,λb o e s=>?_,⟨gb.ok.fF,gb.ok.sS,gb.ok.dj⟩,?_,rfl⟩
  ·rcases gb.nF b h with z | z
   ·exact a.nF b (by rw [<- f1];exact z)
   ·exact .inr (a.free z)
  ·rcases gb.nS b h with z | z
   ·exact a.nS b (by rw [<- s1];exact z)
   ·exact .inr (a.free z)
  ·refine gb.kp b o (a.kp b o e s) ?_
   rw [s1];exact a.nSS e s
  ·show Wb.K = W.K
   rw [gb.kk,<- hW1b];exact a.kk
 obtain ⟨S,m,h1,h2,h3⟩:=x.ex
 refine ⟨acc,S,m,rfl,h1,by have:=x.few;omega,λl ms hl hlt hms=>?_⟩
 have:ms = aS kb:=IA hlt λj=>(hms j).symm.trans (h2 j)
 subst this
 exact (k.after gf).newL gf.ok hl (qF _) qb
theorem a3X (elt target iter target2 iter2 : Expr) (ifs ifs2 : List Expr) (scope : Scope) (pos : Pos) (it acc : Value) (env : Env) :
   compTurn (.SetComp elt [⟨target,iter,ifs,0⟩,⟨target2,iter2,ifs2,0⟩] scope pos) 0 it acc env = iF iter.pos target ifs (do let x <- eval iter2 env;standAt iter2.pos;let x <- foldedSetIterable iter2 env x;let _ <- runOwn (.compStart (.SetComp elt [⟨target,iter,ifs,0⟩,⟨target2,iter2,ifs2,0⟩] scope pos) 1 (<- holding [x] (pyIter x)) acc env) env) (.SetComp elt [⟨target,iter,ifs,0⟩,⟨target2,iter2,ifs2,0⟩] scope pos) 0 it acc env:=by
  have e:compTurn (.SetComp elt [⟨target,iter,ifs,0⟩,⟨target2,iter2,ifs2,0⟩] scope pos) 0 it acc env = (do
      standAt iter.pos
      match <- pyNext it with
      | none=>pure (.done .next)
      | some v =>
        letOwnedTupleGo target it v
        assign target env v
        let mut ok:=true
        for c in ifs do
          if ok then ok <- isTrue c env (eval c env)
        if ok then
          let x <- eval iter2 env
          standAt iter2.pos
          let x <- foldedSetIterable iter2 env x
          let _ <- runOwn (.compStart (.SetComp elt [⟨target,iter,ifs,0⟩,⟨target2,iter2,ifs2,0⟩] scope pos) 1 (<- holding [x] (pyIter x)) acc env) env
        again (.compLoop (.SetComp elt [⟨target,iter,ifs,0⟩,⟨target2,iter2,ifs2,0⟩] scope pos) 0 it acc env)):=by rfl
  rw [e]
  unfold iF
  refine a6n λ_=>?_
  refine a6n λo=>?_
  cases o with
  | none=>rfl
  | some v =>
    refine a6n λ_=>?_
    refine a6n λ_=>?_
    refine a6n λok=>?_
    cases ok with
    | false=>rfl
    | true =>
      simp only [a64,bind_assoc,pure_bind]
section
variable {X:Cx} {elt target iter target2 iter2:Expr} {ifs ifs2:List Expr} {scope:Scope} {pos p cpos:Pos} {N':List Str} {n:Nat} {cap:List Nat} {md mb m2:List Md} {el eli:El} {s:rT} {g:lC} {tt:jB} {a:ID}
theorem KD {cp:bY -> bY} (hcp:∀ env,cp env = AE n cap env) (hc:X.calm = true) (S:LcOk X.N X.env.scope scope N' n cap) (hle:n0 mb (kA n cap md) = true) (hle2:n0 m2 (kA n cap md) = true)
  (hg0:X.env.scope.names.lookup ("sorted" : Str) = some .globalImplicit) (hm0:X.mg "sorted" = none) (hi:VI X md eli target iter s) (hg:∀ C s H fp,VG (bJ X N' scope C s H fp) (kA n cap md) mb eli target g)
  (ht:∀ C s H fp,VTs (bJ X N' scope C s H fp) mb ifs tt)
  (ha:∀ C s H fp,VB (bJ X N' scope C s H fp) mb m2 (λacc=>do let x <- eval iter2 (bJ X N' scope C s H fp).env;standAt iter2.pos;let x <- foldedSetIterable iter2 (bJ X N' scope C s H fp).env x;let _ <- runOwn (.compStart (.SetComp elt [⟨target,iter,ifs,0⟩,⟨target2,iter2,ifs2,0⟩] scope pos) 1 (<- holding [x] (pyIter x)) (.ref acc) (bJ X N' scope C s H fp).env) (bJ X N' scope C s H fp).env) a)
  (hs:∀ x,foldedSetIterable iter X.env x = pure x:=by intro _;rfl)
  (he:starEach [.SetComp elt [⟨target,iter,ifs,0⟩,⟨target2,iter2,ifs2,0⟩] scope pos] X.env = (false,eval (.SetComp elt [⟨target,iter,ifs,0⟩,⟨target2,iter2,ifs2,0⟩] scope pos) X.env) :: starEach [] X.env:=by rfl) (hpl:(backTo cpos (starEach [] X.env)).any (·.1) = false:=by rfl) :
  VE X md (.Call (.Name "sorted" p) [.SetComp elt [⟨target,iter,ifs,0⟩,⟨target2,iter2,ifs2,0⟩] scope pos] [] cpos) (.o .fl) (pSortSc s g tt a cp) :=
 ⟨(pL (CB hc) hg0 hm0 pZ (iV (a34 (act:=λacc env=>do let x <- eval iter2 env;standAt iter2.pos;let x <- foldedSetIterable iter2 env x;let _ <- runOwn (.compStart (.SetComp elt [⟨target,iter,ifs,0⟩,⟨target2,iter2,ifs2,0⟩] scope pos) 1 (<- holding [x] (pyIter x)) acc env) env) hc S (λit acc env=>a3X ..) hi.h (λC s H fp=>(hg C s H fp).h) (λC s H fp=>(ht C s H fp).h) (λacc C s H fp=>(ha C s H fp).h acc) hs) nM he) (by decide) (by decide) he hpl).imp λσ H Q h=>WA hcp hle hle2 h⟩
end
section
variable {X:Cx} {pins:List (Addr × Obj)} {σ:St} {H:Hp} {s:Shared} {h':Heap}
theorem Inv.turnL {t':Nat} {fp:List Addr} {a:Addr} {o:HO} (I:Inv X pins σ H s) (hf:∀ b ∈ fp,lB X pins H b) (k:∀ b u,b ∉ fp -> s.heap.get? b = some u -> h'.get? b = some u) (hp:s.heap.objs.size <= a) (new:eV X.prog X.w (c7 H a o) h' a o) :
  Inv X pins σ (c7 H a o) { s with heap:=h',toks:=t' }:=by
 have hn:H a = none:=I.hok.fresh hp
 have na:∀ b u,s.heap.get? b = some u -> b ≠ a:=λb u e=>a0r (a0z (a0m e) hp)
 have nt:∀ b u,H b = some u -> b ≠ a:=λb u e z=>by rw [z,hn] at e;cases e
 have nf:∀ b u,H b = some u -> b ∉ fp:=λb u e z=>by rw [(hf b z).1] at e;cases e
 refine I.step (g':=s.gens) (d':=s.drawn) (ch:=fp) (λb hb=>?_) (λb o _ _ hc e _=>k b o hc e) (λb o _ _ hc e _=>⟨o.slots,k b o hc e⟩) (λb u _ e n=>by rw [aG (na b u e)];exact n)
  (λb o hc e=>⟨o,k b o hc e⟩) (λb _ e=>by rw [aG (nt b _ e)];exact e) (λb _ _ e=>by rw [aG (nt b _ e)];exact e) (λb ps e=>⟨#[],by rw [aG (nt b _ e),e];simp⟩) (λm hm=>?_) (λb u e=>?_) I.bare
 ·obtain ⟨f0,f1,f2,f3,f4,f5⟩:=hf b hb
  exact ⟨f3,f1,f4,f5⟩
 ·obtain ⟨o,es,ep,ho,r⟩:=hm
  exact ⟨o,es,ep,k _ o (λz=>(hf _ z).2.1 rfl) ho,r⟩
 ·by_cases hb:b = a
  ·subst hb;rw [bK] at e;cases e;exact new
  ·rw [aG hb] at e
   refine (I.hok b u e).stay (λc v hc q=>k c v ?_ q) (λc q=>by rw [aG (nt c _ q)];exact q) λc xs q=>by rw [aG (nt c _ q)];exact q
   rcases hc with z | z
   ·rw [z];exact nf b u e
   ·exact nf c _ z
end
def a4D (K:PySem.W.Frag) (a:Addr):It :=
 ⟨λi H=>∃ xs x,fN K H a xs /\ xs[i]? = some x,λi H v H'=>∃ t x,H t = none /\ v = .ref t /\ H' = c7 H t (.tup [.int i,x]) /\ ∀ xs,fN K H a xs -> xs[i]? = some x,λi H=>∃ xs,fN K H a xs /\ xs.length <= i⟩
theorem O1 {P:Program} {w:World} {K:PySem.W.Frag} {elts:List Expr} {x1} {pos:Pos} (a it e:Addr) (hne:e ≠ it) :
  Turn P w K (.Tuple elts x1 pos) (a4D K a) [e,it] e (λi h=>(∃ old,IsEnum h e it i old) /\ h.IsListIter it a i) where
 mem:=by simp
 obj:=λi h st b hb=>by
  obtain ⟨⟨old,he⟩,o,q,c,d⟩:=st
  simp only [a0q,a1y,a3u] at hb
  rcases hb with rfl | rfl
  ·exact ⟨_,he,λv z=>by cases z⟩
  ·exact ⟨o,q,λv z=>by rw [d] at z;cases z⟩
 keep:=λi h h' st k=>by
  obtain ⟨⟨old,he⟩,hi⟩:=st
  exact ⟨⟨old,k e (by simp) _ he⟩,hi.at λo q=>k it (by simp) o q⟩
 item:=by
  intro X hP hw hK hc i pins s σ H E I hf st hg
  subst hP hw hK
  obtain ⟨⟨old,he⟩,hi⟩:=st
  obtain ⟨xs,x,hq,hx⟩:=hg
  obtain ⟨its,rv,p,hz⟩:=I.list hq
  obtain ⟨u,hu,ru⟩:=rv.get hx
  refine wpAny_pyNext_enum_item he hi p.isList (x:=u) (by simpa using hu) hne λh1 heo hi1 ht hsz hk=>?_
  refine ⟨.ref s.heap.objs.size,rfl,wpAny_letOwnedTupleGo_enum (s:={ s with heap:=h1,toks:=s.toks + 1 }) heo λh2 he2 sb=>?_⟩
  have hes:s.heap.objs.size ≠ e:=a4z (a0m he)
  have hfr:H s.heap.objs.size = none:=I.hok.fresh (a0l _)
  have hf2:∀ b ∈ [e,it],(c7 H s.heap.objs.size (.tup [.int i,x])) b = none:=λb hb=>by
   have hb':b ≠ s.heap.objs.size:=by
    obtain ⟨o,q,_⟩:=hi
    simp only [a0q,a1y,a3u] at hb
    rcases hb with rfl | rfl
    ·exact hes.symm
    ·exact a0r (a0m q)
   rw [aG hb'];exact (hf b hb).1
  refine ⟨.ref s.heap.objs.size,c7 H s.heap.objs.size (.tup [.int i,x]),I.turnL (t':=s.toks + 1) hf (λb v hb q=>?_) (a0l _) ?_,rfl,⟨_,x,hfr,rfl,rfl,λys hy=>by rw [I.list_inj hy hq];exact hx⟩,⟨⟨_,he2⟩,?_⟩,hf2⟩
  ·simp only [a0q,a1y,a3u,not_or] at hb
   exact (sb.2 b hb.1).trans (hk b v hb.1 hb.2 q)
  ·exact ⟨(by decide:2 <= sizeLine),[.int i s.toks,u],.cons ⟨_,rfl⟩ (.cons ru .nil),_,(sb.2 _ hes).trans ht,rfl,_,rfl⟩
  ·exact hi1.at λo q=>(sb.2 it (a2d hne)).trans q
 done:=by
  intro X hP hw hK hc i pins s σ H E I hf st hg
  subst hP hw hK
  obtain ⟨⟨old,he⟩,hi⟩:=st
  obtain ⟨xs,hq,hx⟩:=hg
  obtain ⟨its,rv,p,hz⟩:=I.list hq
  obtain ⟨f0,f1,f2,f3,f4,f5⟩:=hf it (by simp)
  have hl:=rv.length
  exact wpAny_pyNext_enum_end (I.ok.hd hc) he hi p.isList (by simp;omega) λh' eb=>⟨rfl,I.turned (t':=s.toks) (λb o hb e=>eb b o hb e) f0 f1 f3 f4 f5⟩
 self:=λ_ _ _ _ _ st h=>by
  obtain ⟨⟨old,he⟩,hi⟩:=st
  exact wpAny_pyIter_enum he h
def a2I (K:PySem.W.Frag) (ta:TA):TI:=λσ H R=>ta σ H λvs H1=>∃ a,vs = [.ref a] /\ (∃ xs,fN K H1 a xs) /\ R (a4D K a) H1
theorem MD:bootBuiltins "enumerate" = some (.type "enumerate"):=by rfl
theorem V9 {X:Cx} {a:Expr} {ta:TA} {elts:List Expr} {x1} {tpos p pos:Pos} (hg:Gl X "enumerate") (hm:X.mg "enumerate" = none) (ha:PA X [a] ta) (hs:starEach [a] X.env = [(false,eval a X.env)]:=by rfl) :
  PI X (.Tuple elts x1 tpos) (.Call (.Name "enumerate" p) [a] [] pos) (a2I X.K ta):=by
 intro pins s σ H R I h
 refine Call_ (zY I hg hm MD (a3v (dX (ha pos pins s σ H _ I h) λus s1 ⟨vs,H1,I1,r1,q1⟩=>?_) hs rfl))
 obtain ⟨l,e,⟨xs,hq⟩,q⟩:=q1
 subst e
 cases r1 with
 | cons r rr =>
  cases rr
  cases r
  obtain ⟨its,rv,p,hz⟩:=I1.list hq
  refine call_enumerate_list p.isList λh' he hi hsz hk=>?_
  refine wpAny_pyIter_enum he ?_
  have I2:Inv X pins σ H1 { s1 with heap:=h' }:=I1.kept (t':=s1.toks) hk
  refine ⟨s1.heap.objs.size + 1,[s1.heap.objs.size + 1,s1.heap.objs.size],_,_,H1,rfl,I2,O1 l s1.heap.objs.size (s1.heap.objs.size + 1) (Nat.succ_ne_self _),⟨⟨_,he⟩,hi⟩,λb hb=>?_,q⟩
  have hb':s1.heap.objs.size <= b:=by
   simp only [a0q,a1y,a3u] at hb
   rcases hb with rfl | rfl <;> omega
  exact I1.fpOk hb' (I1.hok.fresh hb')
def xG (xs:List PV):List PV:=xs.zipIdx.map λz=>.tup [.int (z.2:Nat),z.1]
theorem jU (xs:List PV):(xG xs).length = xs.length:=by simp [xG]
theorem tZ {xs:List PV} {i:Nat}:(xG xs)[i]? = (xs[i]?).map λx=>.tup [.int i,x]:=by
 rw [xG,a0h,List.getElem?_zipIdx]
 cases xs[i]? <;> simp
def piEnum (a:b8):rT:=λenv Q=>a env λx=>match x with
 | .lst xs=>Q (xG xs)
 | _=>False
section
variable {X:Cx} {md:List Md} {el:El} {a b e tg:Expr} {pa pb pe:b8} {p pos:Pos}
theorem SD {K:PySem.W.Frag} {B:Hp} {W:Wd} {H:Hp} {l:Addr} {vs:List V} {xs:List PV} (hF:W.F l) (e:H l = some (.lst vs)) (r:Reps (el.G W.F B) H vs xs):Src (a4D K l) el B W H (xG xs) where
 go:=λi W2 H2 x hi=>by
  rw [jU] at hi
  exact ⟨vs,vs[i]'(by rw [r.len];exact hi),fN.of (x.kp l _ hF e),a0b _⟩
 stop:=λW2 H2 x=>⟨vs,fN.of (x.kp l _ hF e),by rw [r.len,jU];exact a0l _⟩
 yld:=λi W2 H2 v H3 x w hi y=>by
  obtain ⟨t,u,ht,rfl,rfl,y⟩:=y
  have:=y vs (fN.of (x.kp l _ hF e))
  obtain ⟨z,ez,rz⟩:=r.getV this
  have g:Go W2 H2 W2 (c7 H2 t (.tup [.int i,u])):=Go.laid w ht
  have r2:=x.rep (G':=el.G W2.F B) (λ_ g=>El.GF g) (λ_ g=>El.up x.lF (λ_ h=>h) g) rz
  have r3:=g.rep w (G':=el.G W2.F B) (λ_ h=>El.nS w h) (λ_ h=>h) r2
  refine ⟨g,.tup [.int i,z],by rw [tZ,ez];rfl,.tup bK rfl λj v x e1 e2=>?_⟩
  match j,e1,e2 with
  | 0,e1,e2=>cases e1;cases e2;exact .int _
  | 1,e1,e2=>cases e1;cases e2;exact r3
theorem EX {elts:List Expr} {x1} {tpos:Pos} (hg:X.env.scope.names.lookup (Str.ofString "enumerate") = some NameKind.globalImplicit) (hm:X.mg "enumerate" = none) (ha:VE X md a (.v el) pa) (hs:starEach [a] X.env = [(false,eval a X.env)]:=by rfl) :
  VI X md el (.Tuple elts x1 tpos) (.Call (.Name "enumerate" p) [a] [] pos) (piEnum pa) :=
 ⟨(V9 hg hm (a7 ha aA hs).h hs).imp λσ H R=>by
 rintro ⟨env,W0,H0,W,Q,Rr,q,k⟩
 refine ⟨env,W0,H0,W,λxs=>match xs with | [.lst zs]=>Q (xG zs) | _=>False,Rr,?_,λxs vs W1 H1 g1 r1 q1=>?_⟩
 ·show pa env _
  unfold piEnum at q
  refine (iff_of_eq (congrArg (pa env) (funext λx=>?_))).mp q
  cases x <;> rfl
 ·obtain ⟨v,x,rfl,rfl,r⟩:=r1.one
  cases x with
  | lst xs =>
   obtain ⟨a,vs,rfl,g,e,rs⟩:=Rep.ofList r
   exact ⟨a,rfl,⟨vs,fN.of e⟩,k _ W1 H1 _ g1 (SD (El.GF g) e rs) q1⟩
  | _=>exact q1.elim⟩
end
section
variable {X:Cx} {elt target iter:Expr} {ifs:List Expr} {scope:Scope} {pos:Pos} {N':List Str} {n:Nat} {cap:List Nat} {wi:TI} {g:TG} {tt:TT} {te:TE}
theorem RE {x:Str} {pos' pos2:Pos} {gg:TG} (hgx:PG X (.Name x pos') gg) (hsw:swapsWith (.ListComp elt [⟨target,iter,ifs,0⟩] scope pos) (some (.Name x pos')) pos2.line X.env = pure true) (hc:X.calm = true) (S:LcOk X.N X.env.scope scope N' n cap) (hi:PI X target iter wi) (hg:∀ C s H fp,PG (bJ X N' scope C s H fp) target g)
    (ht:∀ C s H fp,O7 (bJ X N' scope C s H fp) ifs tt) (he:∀ C s H fp,PE (bJ X N' scope C s H fp) elt te) (hs:∀ x,foldedSetIterable iter X.env x = pure x:=by intro _;rfl) :
    PS X (.Assign [.Name x pos'] (.ListComp elt [⟨target,iter,ifs,0⟩] scope pos) pos2) (HZ (a58 wi g tt te n cap) gg):=by
  intro pins s σ H D I h
  have hfree:∀ y ∈ scope.names,y.2 = .free -> ∃ c,X.env.cells.lookup y.1 = some c:=λy hy e=>I.ok.has y.1 (.inl (S.frees y hy e))
  rw [exec_Assign_Name_used x pos' _ pos2 hsw]
  refine a0a (a3h (a0a ?_))
  rw [arm_evalThenUse_ListComp]
  refine a0a ?_
  refine a4k (use:=some (assign (.Name x pos') X.env)) (Q:=λ_ s'=>wpAny (model X.prog X.w) X.A (pure ()) (λ_ s'=>wpAny (model X.prog X.w) X.A (pure Flow.next) (SP X pins D) X.xe s') X.xe s') rfl hs (mN hfree) S.kind S.names ?_
  refine dX (hi pins s σ H _ I h) λv s1 h1=>dX h1 λitv s2 h2=>?_
  obtain ⟨it,fp,tn,J,H2,rfl,I2,T,st2,f2,body⟩:=h2
  refine a1m ?_
  have I3:=I2.lnew (ys:=[]) (its:=[]) (t':=s2.toks) .nil (a2u _)
  have hacc:H2 s2.heap.objs.size = none:=I2.fresh
  obtain ⟨W,⟨m0,w0⟩,turn⟩:=body _ hacc
  have hlt:∀ b ∈ fp,b < s2.heap.objs.size:=λb hb=>by
    obtain ⟨o,e,_⟩:=T.obj 0 _ st2 b hb
    exact a0m e
  have hf3:∀ b ∈ fp,lB X pins (c7 H2 s2.heap.objs.size (.lst [])) b:=λb hb =>
    ⟨by rw [aG (a0r (hlt b hb))];exact (f2 b hb).1,(f2 b hb).2⟩
  refine a5d S.nocell (by intro y hy;cases hy) (λh4 ns4 sb4=>?_) S.kind
  generalize hs3:({ s2 with heap:=s2.heap.push { cls:=.type "list",dict:=none,data:=.seq ([]:List Value).toArray } }:Shared) = s3 at *
  have hsz:s2.heap.objs.size < s3.heap.objs.size:=by rw [<- hs3,a2v];exact a2z _
  have k4:∀ b o,s3.heap.get? b = some o -> h4.get? b = some o:=λb o e=>(sb4.2 b (a0r (a0m e))).trans (a0e _ e)
  generalize hH3:c7 H2 s2.heap.objs.size (.lst []) = H3 at *
  have I3':Inv X pins σ H3 s3:=I3
  have IY:=uD (tk:=s3.toks + ([]:List (Str × Value)).length) S I3' hf3 (λb hb=>a2h (hlt b hb) hsz) ns4 k4
  have fpY:∀ H':Hp,(∀ b ∈ fp,H' b = none) -> ∀ b ∈ fp,lB (bJ X N' scope s3.heap.objs.size s3 H3 fp) [] H' b:=λH' hn b hb=>by
    obtain ⟨_,f1,f2',f3,f4,f5⟩:=hf3 b hb
    refine ⟨hn b hb,a0r (a2h (hlt b hb) hsz),λz=>?_,.inl hb,λx c e=>f4 x c (oH hfree e),λp hp=>absurd hp (by simp [bJ])⟩
    rcases a0q.mp (I3'.stkSub b z) with z | z
    · exact f1 z
    · exact f2' z
  have tn4:tn 0 h4:=T.keep 0 _ _ st2 λb hb o e=>k4 b o (by rw [<- hs3];exact a0e _ e)
  have loop:codeAny (model X.prog X.w) X.A (.compLoop (.ListComp elt [⟨target,iter,ifs,0⟩] scope pos) 0 (.ref it) (.ref s2.heap.objs.size) (bJ X N' scope s3.heap.objs.size s3 H3 fp).env)
      (compPost (model X.prog X.w) X.A X.xe (some (assign (.Name x pos') X.env)) (λ_ s'=>wpAny (model X.prog X.w) X.A (pure ()) (λ_ s'=>wpAny (model X.prog X.w) X.A (pure Flow.next) (SP X pins D) X.xe s') X.xe s') (.ref s2.heap.objs.size) s3.heap.objs.size) { s3 with heap:=h4,toks:=s3.toks + ([]:List (Str × Value)).length }:=by
    refine L6 (λk s'=>∃ i σ' H',Inv (bJ X N' scope s3.heap.objs.size s3 H3 fp) [] σ' H' s' /\ tn i s'.heap /\ (∀ b ∈ fp,H' b = none) /\ W i k σ' H') ?_ m0 ⟨0,_,_,IY,tn4,λb hb=>(hf3 b hb).1,w0⟩
    rintro k s5 ⟨i,σ5,H5,I5,st5,fr5,w5⟩
    rcases turn i k σ5 H5 w5 with ⟨stop,qn⟩ | ⟨go,Nn,hN,step⟩
    · refine a1a (T.done (bJ X N' scope s3.heap.objs.size s3 H3 fp) rfl rfl rfl hc i [] s5 σ5 H5 (λ_ _=>False) I5 (fpY H5 fr5) st5 stop) (λr s6 hr=>?_) (λ_ _ z=>z)
      obtain ⟨rfl,I6⟩:=hr
      obtain ⟨m,hn,_⟩:=I6.loc
      have hs':Heap.SameBut s3.heap.objs.size s6.heap s6.heap:=⟨rfl,λ_ _=>rfl⟩
      have IX:Inv X pins σ H5 s6:=by
        have ub:=I6.base
        have ne:∀ b o,s3.heap.get? b = some o -> b ≠ s3.heap.objs.size:=λb o e=>a0r (a0m e)
        refine I3'.call' (s':=s6) (ch:=fp) I6.os ⟨λb o e z1 z2 z3=>(hs'.2 b (ne b o e)).trans (ub.keep b o e z1 z2 z3),λb o e z1 z2 z3=>?_,ub.free,λb o e z=>?_,ub.tups,ub.frzs,ub.tbls⟩ (yQ I6.hok I6.free hs') I6.bare λb hb=>⟨(hf3 b hb).2.2.2.1,(hf3 b hb).2.1,(hf3 b hb).2.2.2.2.1,(hf3 b hb).2.2.2.2.2⟩
        · obtain ⟨sl,e'⟩:=ub.slot b o e z1 z2 z3
          exact ⟨sl,(hs'.2 b (ne b o e)).trans e'⟩
        · obtain ⟨o',e'⟩:=ub.there b o e z
          exact ⟨o',(hs'.2 b (ne b o e)).trans e'⟩
      have fC:lB X pins H5 s3.heap.objs.size:=I3'.fpOk (a0l _) I6.free
      have IXp := IX.pinned (fp := [s3.heap.objs.size]) (fun b hb => by have e : b = s3.heap.objs.size := by simpa using hb
                                                                        subst e;exact fC) (λb hb=>by
        have e:b = s3.heap.objs.size:=by simpa using hb
        subst e
        obtain ⟨o,es,ep,ho,hd,_⟩:=hn
        exact ⟨o,ho,λv z=>by rw [hd] at z;cases z⟩)
      show wpAny _ _ (assign (.Name x pos') X.env (.ref s2.heap.objs.size)) _ _ s6
      refine dX (hgx _ s6 σ H5 (.ref s2.heap.objs.size) (.ref s2.heap.objs.size) _ IXp rfl qn) λ_ s7 h7=>?_
      obtain ⟨σ7,H7,I7,q7⟩:=h7
      obtain ⟨o,es,ep,ho,hd⟩:=id hn
      have z:=I7.pin (s3.heap.objs.size,o) (a0w _ (a0w _ (g9 (by simp) ho)))
      refine ⟨m,⟨o,es,ep,z.1,hd⟩,λh' hs'=>a0c (a0c ⟨σ7,H7,?_,q7⟩)⟩
      obtain ⟨f0,f1,f2,f3,f4,f5⟩:=fC
      exact I7.unpinned.turned (t':=s7.toks) (it:=s3.heap.objs.size) (λb o hb e=>(hs'.2 b hb).trans e) z.2.1 f1 f3 f4 f5
    · refine a1a (T.item (bJ X N' scope s3.heap.objs.size s3 H3 fp) rfl rfl rfl hc i [] s5 σ5 H5 (λ_ _=>False) I5 (fpY H5 fr5) st5 go) (λr s6 h6=>?_) (λ_ _ z=>z)
      obtain ⟨u,rfl,h6⟩:=h6
      refine a1a h6 (λ_ s7 h7=>?_) (λ_ _ z=>z)
      obtain ⟨x,H7,I7,r7,y7,st7,fr7⟩:=h7
      have I7':=I7.pinned (fpY H7 fr7) (T.obj _ _ st7)
      have again:∀ {σ':St} {H':Hp} {s':Shared},Inv (bJ X N' scope s3.heap.objs.size s3 H3 fp) ([] ++ sX fp s7.heap) σ' H' s' -> Nn σ' H' ->
          ∃ m,m < k /\ ∃ i σ' H',Inv (bJ X N' scope s3.heap.objs.size s3 H3 fp) [] σ' H' s' /\ tn i s'.heap /\ (∀ b ∈ fp,H' b = none) /\ W i m σ' H':=fun {σ' H' s'} J7 n7=>by
        obtain ⟨m',hm,w7⟩:=hN σ' H' n7
        have pin:∀ b ∈ fp,∀ o,s7.heap.get? b = some o -> s'.heap.get? b = some o /\ H' b = none:=λb hb o e=>by
          have z:=J7.pin (b,o) (a0w _ (a0w _ (g9 hb e)))
          exact ⟨z.1,z.2.1⟩
        refine ⟨m',hm,i + 1,σ',H',J7.unpinned,T.keep _ _ _ st7 λb hb o e=>(pin b hb o e).1,λb hb=>?_,w7⟩
        obtain ⟨o,e,_⟩:=T.obj _ _ st7 b hb
        exact (pin b hb o e).2
      refine dX (hg _ _ _ _ _ s7 σ5 H7 x u _ I7' r7 (step x H7 y7)) λ_ s8 h8=>?_
      obtain ⟨σ8,H8,I8,q8⟩:=h8
      refine dX (ht _ _ _ _ _ s8 σ8 H8 _ I8 q8) λok s9 h9=>?_
      obtain ⟨H9,I9,q9⟩:=h9
      cases ok with
      | false =>
        rw [if_neg a0j] at q9 ⊢
        exact again I9 q9
      | true =>
        rw [if_pos rfl] at q9 ⊢
        refine dX (he _ _ _ _ _ s9 σ8 H9 _ I9 q9) λxv s10 h10=>?_
        obtain ⟨v',H10,I10,r10,ys,ha,hl,q10⟩:=h10
        refine dX (wC (X:=bJ X N' scope s3.heap.objs.size s3 H3 fp) _ s10 σ8 H10 (.ref s2.heap.objs.size) [v'] (.ref s2.heap.objs.size) [xv] (λ_ H'=>Nn σ8 H') I10 rfl (.cons r10 .nil) ⟨_,ys,v',rfl,rfl,ha,hl,q10⟩) λ_ s11 h11=>?_
        obtain ⟨_,H11,I11,_,q11⟩:=h11
        exact again I11 q11
  exact codeAny_compStart_list loop (T.self _ 0 _ _ _ tn4 loop)
end
section
variable {X:Cx} {elt target iter:Expr} {ifs:List Expr} {scope:Scope} {pos pos2 pos':Pos} {N':List Str} {n i:Nat} {x:Str} {cap:List Nat} {md mb lm:List Md} {rm:Md} {el eli:El} {s:rT} {g:lC} {tt:jB} {te:b8}
theorem pY {cp:bY -> bY} (hN:X.N.Nodup) (hix:X.N[i]? = some x) (hx:O6 X.env.scope x) (hsw:swapsWith (.ListComp elt [⟨target,iter,ifs,0⟩] scope pos) (some (.Name x pos')) pos2.line X.env = pure true) (hf:X.fn x = true \/ X.env.scope.names.lookup x = some .local)
  (hm:m4 (md.set i (.o el)) = true) (hl:i < md.length)
  (hcp:∀ env,cp env = AE n cap env) (hc:X.calm = true) (S:LcOk X.N X.env.scope scope N' n cap) (hle:n0 mb (kA n cap md) = true) (hbl:qU mb = true) (hi:VI X md eli target iter s) (hg:∀ C s H fp,VG (bJ X N' scope C s H fp) (kA n cap md) mb eli target g)
  (ht:∀ C s H fp,VTs (bJ X N' scope C s H fp) mb ifs tt) (he:∀ C s H fp,VE (bJ X N' scope C s H fp) mb elt (.v el) te) (hs:∀ x,foldedSetIterable iter X.env x = pure x:=by intro _;rfl) :
  VS X md (md.set i (.o el)) lm rm (.Assign [.Name x pos'] (.ListComp elt [⟨target,iter,ifs,0⟩] scope pos) pos2) (pSet i (pLc s g tt te cp)) :=
 ⟨(RE (yT hN hix hx hf) hsw hc S hi.h (λC s H fp=>(hg C s H fp).h) (λC s H fp=>(ht C s H fp).h) (λC s H fp=>(he C s H fp).h) hs).imp λD σ H=>by
 rintro ⟨env,W0,H0,W,E,R,q,l⟩
 refine L5 (el:=el) hcp hle hbl ⟨env,W0,H0,W,_,R,q,λx v W1 H1 g1 r1 q1=>?_⟩
 rw [fX] at q1
 exact l.nx _ W1 _ H1 (R.set g1 r1 hm hl) (g1.ex R.ok) q1⟩
end
def pPar (i j:Nat) (pa:tM):bP:=λE env=>pa env λxs=>match xs with
 | [x,y]=>E.nx (kE (kE env i (some x)) j (some y))
 | _=>False
def a5C (r:V -> Hp -> VK -> Prop) (te tk:TE):TE:=λσ H Q=>te σ H λx H1=>tk σ H1 λk H2=>k = .int (-1) /\ r x H2 Q
def a3E (K:PySem.W.Frag):V -> Hp -> VK -> Prop:=λx H Q=>∃ a xs,x = .ref a /\ fN K H a xs /\ ∀ p,H p = none -> Q (.ref p) (c7 H p (.lst xs.reverse))
theorem EW {vs:List V} {us:List Value} (r:bF vs us):bF vs.reverse us.reverse:=by
 induction r with
 | nil=>exact .nil
 | cons h r ih =>
  rw [List.reverse_cons,List.reverse_cons]
  exact ih.append (.cons h .nil)
theorem a0A {X:Cx} {e k:Expr} {te tk:TE} {pos p2:Pos} (he:PE X e te) (hk:PE X k tk):PE X (.Subscript e (.Slice none none (some k) p2) pos) (a5C (a3E X.K) te tk):=by
 intro pins s σ H Q I h
 refine Subscript_ (dX (he pins s σ H _ I h) λv s1 ⟨x,H1,I1,r1,q1⟩=>?_)
 refine wpAny_Slice ?_
 rw [evalPart_none]
 refine a0c (a0c ?_)
 rw [evalPart_some]
 refine dX (hk pins s1 σ H1 _ I1 q1) λvk s3 ⟨y,H3,I3,r3,q3⟩=>?_
 obtain ⟨rfl,a,xs,rfl,hx,q⟩:=q3
 cases r1
 obtain ⟨t,rfl⟩:=r3
 have I4:Inv X pins σ H3 { s3 with heap:=s3.heap.push { cls:=.type "slice",data:=.fields #[.none,.none,.int (-1) t] } }:=I3.kept (t':=s3.toks) λb ob q=>a0e _ q
 obtain ⟨its,r,ht,hz⟩:=I4.list hx
 have hlen:=r.length
 show wpAny (model X.prog X.w) X.A (subscriptTail e (.Slice none none (some k) p2) (.ref a) (.ref s3.heap.objs.size)) (EP X pins σ Q) X.xe { s3 with heap:=s3.heap.push { cls:=.type "slice",data:=.fields #[.none,.none,.int (-1) t] } }
 refine tail_any (ops:=[.ref a,.ref s3.heap.objs.size]) ht.isList.typeIs slot_list_getitem.lookup ?_ (by with_unfolding_all rfl)
 refine wpAny_getItem_list_slice (st:=some (-1)) ht.isList (Heap.IsSliceOf.new ..) .none .none (.int (-1) t) (by decide) ?_ (by rw [a0t] <;> omega)
 rw [PySem.W.krv_pick]
 refine ⟨.ref _,_,I4.laid (t':=s3.toks) (o:=.lst xs.reverse) (λb ob q=>a0e _ q) (a0l _) ?_,rfl,q _ (I4.hok.fresh (a0l _))⟩
 exact ⟨by rw [a4o];exact hz,_,0,EW r,a0y _ rfl⟩
def pRev (a k:b8):b8:=λenv Q=>a env λx=>k env λy=>match x,y with
 | .lst xs,.int i=>i = -1 /\ Q (.lst xs.reverse)
 | _,_=>False
theorem Reps.rev {G:Addr -> Prop} {H:Hp} {vs:List V} {xs:List PV} (r:Reps G H vs xs):Reps G H vs.reverse xs.reverse:=by
 refine ⟨by rw [a4o,a4o];exact r.len,λi v x e1 e2=>?_⟩
 have hi:=(a0k.mp e2).1
 rw [a4o] at hi
 rw [List.getElem?_reverse hi] at e2
 rw [List.getElem?_reverse (by rw [r.len];exact hi),r.len] at e1
 exact r.at_ _ _ _ e1 e2
theorem a1L {X:Cx} {md:List Md} {e k:Expr} {pe pk:b8} {el:El} {pos p2:Pos} (he:VE X md e (.p el) pe) (hk:VE X md k .bw pk):VE X md (.Subscript e (.Slice none none (some k) p2) pos) (.o el) (pRev pe pk) :=
 ⟨(a0A he.h hk.h).imp λσ H K=>by
  rintro ⟨env,W0,H0,W,Q,R,q,kk⟩
  refine ⟨env,W0,H0,W,_,R,q,λx v W1 H1 g1 r1 q1=>⟨env,W0,H0,W1,_,R.step g1,q1,λy u W2 H2 g2 r2 q2=>?_⟩⟩
  have k2:=kk.after (g1.trans g2)
  have r1':RepP (el.G W2.F H0) W2.S H2 v x:=ResE.go (m:=.p el) r1 g1.ok g2
  cases x with
  | lst xs=>cases y with
   | int n =>
    obtain ⟨a,vs,rfl,e,rs⟩:=r1'.ofList
    have hu:=Rep.ofInt r2
    subst hu
    obtain ⟨rfl,q2⟩:=q2
    exact ⟨rfl,a,vs,rfl,fN.of e,λp hp=>k2.newL g2.ok hp rs.rev q2⟩
   | _=>exact q2.elim
  | _=>exact q2.elim⟩
section
variable {κ:Type} [DecidableEq κ]
def vF (kvs:List (κ × V)) (k:κ):Option V:=(kvs.find? λkv=>decide (kv.1 = k)).map (·.2)
def sY (kvs:List (κ × V)) (k:κ) (v:V):List (κ × V) :=
 if (kvs.any λkv=>decide (kv.1 = k)) = true then kvs.map (λkv=>if kv.1 = k then (kv.1,v) else kv) else kvs ++ [(k,v)]
theorem vG {p:κ × V} {r:List (κ × V)} {k:κ} (e:p.1 = k):vF (p :: r) k = some p.2:=by simp [vF,a2b,e]
theorem pW {p:κ × V} {r:List (κ × V)} {k:κ} (e:¬ p.1 = k):vF (p :: r) k = vF r k:=by simp [vF,a2b,e]
theorem IB (k:κ):∀ kvs:List (κ × V),(kvs.any λkv=>decide (kv.1 = k)) = (vF kvs k).isSome
 | []=>rfl
 | p :: r=>by
  rw [a4d]
  by_cases e:p.1 = k
  ·simp only [vG e,a2m e,Bool.true_or,Option.isSome_some]
  ·rw [pW e,a1f e,Bool.false_or];exact IB k r
theorem oZ (kvs:List (κ × V)) (k:κ) (v:V):(sY kvs k v).length <= kvs.length + 1:=by
 unfold sY
 split
 ·rw [a0d];omega
 ·rw [a1d,a2g,List.length_nil];omega
theorem yA.isSome_eq {o:Option V} {u:Option Value} (r:yA o u):o.isSome = u.isSome:=by
 cases o with
 | none=>cases u with
  | none=>rfl
  | some _=>exact (show False from r).elim
 | some _=>cases u with
  | none=>exact (show False from r).elim
  | some _=>rfl
theorem yA.getD {o:Option V} {u:Option Value} {d:V} {d':Value} (r:yA o u) (rd:bR d d'):bR (o.getD d) (u.getD d'):=by
 cases o with
 | none=>cases u with
  | none=>exact rd
  | some _=>exact (show False from r).elim
 | some _=>cases u with
  | none=>exact (show False from r).elim
  | some _=>exact r
theorem KV.val {kvs:List (κ × V)} {vs:List (κ × Value)} (r:KV kvs vs) (k:κ):yA (vF kvs k) (valueAt vs k):=by
 unfold KV at r
 induction r with
 | nil=>exact True.intro
 | @cons p q ps qs h t ih =>
  obtain ⟨h1,h2⟩:=h
  by_cases e:p.1 = k
  ·have e':q.1 = k:=h1.symm.trans e
   have b:valueAt (q :: qs) k = some q.2:=by simp [valueAt,a2b,e']
   rw [vG e,b];exact h2
  ·have e':¬ q.1 = k:=λz=>e (h1.trans z)
   have b:valueAt (q :: qs) k = valueAt qs k:=by simp [valueAt,a2b,e']
   rw [pW e,b];exact ih
theorem KV.any {kvs:List (κ × V)} {vs:List (κ × Value)} (r:KV kvs vs) (k:κ):(kvs.any λkv=>decide (kv.1 = k)) = vs.any λkv=>decide (kv.1 = k):=by
 unfold KV at r
 induction r with
 | nil=>rfl
 | cons h t ih=>rw [a4d,a4d,ih,h.1]
theorem KV.repl {kvs:List (κ × V)} {vs:List (κ × Value)} (r:KV kvs vs) (k:κ) {y:V} {u:Value} (ry:bR y u) :
  KV (kvs.map λkv=>if kv.1 = k then (kv.1,y) else kv) (vs.map λkv=>if kv.1 = k then (kv.1,u) else kv):=by
 unfold KV at r ⊢
 induction r with
 | nil=>exact .nil
 | @cons p q ps qs h t ih =>
  rw [a0f,a0f]
  refine .cons ?_ ih
  obtain ⟨h1,h2⟩:=h
  by_cases e:p.1 = k
  ·rw [if_pos e,if_pos (h1.symm.trans e)];exact ⟨h1,ry⟩
  ·rw [if_neg e,if_neg (λz=>e (h1.trans z))];exact ⟨h1,h2⟩
theorem KV.put {kvs:List (κ × V)} {vs:List (κ × Value)} (r:KV kvs vs) (k:κ) {y:V} {u:Value} (ry:bR y u):KV (sY kvs k y) (stored vs k u):=by
 unfold sY stored
 rw [r.any k]
 by_cases e:(vs.any λkv=>decide (kv.1 = k)) = true
 ·rw [if_pos e,if_pos e];exact r.repl k ry
 ·rw [if_neg e,if_neg e];exact Paired.snoc r ⟨rfl,ry⟩
theorem KV.length {kvs:List (κ × V)} {vs:List (κ × Value)} (r:KV kvs vs):kvs.length = vs.length:=Paired.length r
end
theorem FY {P:Program} {w:World} {k:cK} {u:Value} (r:bR (kV k) u):(cG P w).is k u = true:=by
 cases k with
 | inl i=>obtain ⟨t,e⟩:=(show ∃ t,u = Value.int i t from r);subst e;exact G5 P w i t
 | inr x=>obtain ⟨t,e⟩:=(show ∃ t,u = Value.str x t from r);subst e;exact G6 P w x t
theorem CG {P:Program} {w:World}:∀ {ks:List cK} {us:List Value},bF (ks.map kV) us -> ItemsAre (cG P w) ks us
 | [],_,r=>by rw [a5i] at r;cases r;exact .nil
 | k :: ks,_,r=>by
  rw [a0f] at r
  cases r with
  | cons h t=>exact .cons (FY h) (CG t)
abbrev KT (H:Hp):List (List cK × V) -> List (List cK × Addr × Value) -> Prop:=Paired λp q=>p.1 = q.1 /\ H q.2.1 = some (.tup (p.1.map kV)) /\ bR p.2 q.2.2
theorem KT.val {H:Hp} {kvs:List (List cK × V)} {xs:List (List cK × Addr × Value)} (r:KT H kvs xs) (k:List cK):yA (vF kvs k) ((atKey xs k).map (·.2)):=by
 induction r with
 | nil=>exact True.intro
 | @cons p q ps qs h t ih =>
  obtain ⟨h1,_,h2⟩:=h
  by_cases e:p.1 = k
  ·have e':q.1 = k:=h1.symm.trans e
   have b:atKey (q :: qs) k = some q.2:=by simp [atKey,a2b,e']
   rw [vG e,b];exact h2
  ·have e':¬ q.1 = k:=λz=>e (h1.trans z)
   have b:atKey (q :: qs) k = atKey qs k:=by simp [atKey,a2b,e']
   rw [pW e,b];exact ih
theorem KT.repl {H:Hp} {kvs:List (List cK × V)} {xs:List (List cK × Addr × Value)} (r:KT H kvs xs) (k:List cK) {y:V} {u:Value} (ry:bR y u) :
  KT H (kvs.map λkv=>if kv.1 = k then (kv.1,y) else kv) (xs.map (putAt k u)):=by
 induction r with
 | nil=>exact .nil
 | @cons p q ps qs h t ih =>
  rw [a0f,a0f]
  refine .cons ?_ ih
  obtain ⟨h1,h2,h3⟩:=h
  unfold putAt
  by_cases e:p.1 = k
  ·rw [if_pos e,if_pos (h1.symm.trans e)];exact ⟨h1,h2,ry⟩
  ·rw [if_neg e,if_neg (λz=>e (h1.trans z))];exact ⟨h1,h2,h3⟩
theorem KT.put {H:Hp} {kvs:List (List cK × V)} {xs:List (List cK × Addr × Value)} (r:KT H kvs xs) (k:List cK) {b:Addr} {y:V} {u:Value} (hb:H b = some (.tup (k.map kV))) (ry:bR y u) :
  KT H (sY kvs k y) (storedH xs k b u):=by
 have e:(kvs.any λkv=>decide (kv.1 = k)) = (atKey xs k).isSome:=by
  rw [IB,(r.val k).isSome_eq,Option.isSome_map]
 unfold sY storedH
 rw [e]
 by_cases q:(atKey xs k).isSome = true
 ·rw [if_pos q,if_pos q];exact r.repl k ry
 ·rw [if_neg q,if_neg q];exact Paired.snoc r ⟨rfl,hb,ry⟩
theorem KT.keeps {H H':Hp} {kvs:List (List cK × V)} {xs:List (List cK × Addr × Value)} (r:KT H kvs xs) (ht:∀ b ys,H b = some (.tup ys) -> H' b = some (.tup ys)):KT H' kvs xs :=
 Paired.mapP r λ_ _ z=>⟨z.1,ht _ _ z.2.1,z.2.2⟩
section
variable {P:Program} {w:World} {H:Hp} {h:Heap} {a:Addr}
theorem XH {u:HO} (ok:rP P w H h) (e:Rd H a u):eV P w H h a u:=e.ok ok
theorem FQ {kvs:List (cK × V)} (ok:rP P w H h) (e:Rd H a (.dK kvs)):kvs.length <= sizeLine /\ (a == sysModules) = false /\ ∃ vs,KV kvs vs /\ h.DictOf (cG P w) a vs :=
 show eV P w H h a (.dK kvs) from XH ok e
theorem X4 {kvs:List (cK × V)} (ok:rP P w H h) (e:H a = some (.dK kvs)):kvs.length <= sizeLine /\ (a == sysModules) = false /\ ∃ vs,KV kvs vs /\ h.DictOf (cG P w) a vs:=FQ ok (.inl e)
theorem DO {ks:List cK} (ok:rP P w H h) (e:H a = some (.tup (ks.map kV))):(tupleKind (cG P w)).is h ks a:=by
 obtain ⟨_,its,r,o,h1,h2,n,h3⟩:=(show eV P w H h a (.tup (ks.map kV)) from ok a _ e)
 exact ⟨o,its.toArray,n,h1,h2,h3,by simpa using CG r⟩
theorem KQ {kvs:List (List cK × V)} (ok:rP P w H h) (e:Rd H a (.dT kvs)):kvs.length <= sizeLine /\ (a == sysModules) = false /\
  ∃ xs,KT H kvs xs /\ h.DictOfH (tupleKind (cG P w)) a xs:=by
 obtain ⟨z,y,xs,r,o,es,ep,h1,h2,h3,h4,h5⟩:=(show eV P w H h a (.dT kvs) from XH ok e)
 refine ⟨z,y,xs,r,o,es,ep,h1,h2,h3,h4,λx hx=>?_,h5⟩
 have all:∀ {l:List (List cK × V)} {m:List (List cK × Addr × Value)},KT H l m -> ∀ x ∈ m,(tupleKind (cG P w)).is h x.1 x.2.1:=by
  intro l m q
  induction q with
  | nil=>intro x hx;exact nomatch hx
  | @cons p q ps qs hq t ih =>
   intro x hx
   rcases a0q.mp hx with e | hx
   ·subst e
    exact DO ok (by rw [<- hq.1];exact hq.2.1)
   ·exact ih x hx
 exact all r x hx
theorem a26 {kvs:List (List cK × V)} (ok:rP P w H h) (e:H a = some (.dT kvs)):kvs.length <= sizeLine /\ (a == sysModules) = false /\
  ∃ xs,KT H kvs xs /\ h.DictOfH (tupleKind (cG P w)) a xs:=KQ ok (.inl e)
end
def F2 (H:Hp) (a:Addr) (y:V) (r:Option V):Prop :=
 (∃ kvs k,Rd H a (.dK kvs) /\ y = kV k /\ r = vF kvs k) \/ ∃ kvs k b,Rd H a (.dT kvs) /\ y = .ref b /\ H b = some (.tup (k.map kV)) /\ r = vF kvs k
def OH (H:Hp) (a:Addr) (y v:V) (H':Hp):Prop :=
 (∃ kvs k,H a = some (.dK kvs) /\ y = kV k /\ kvs.length < sizeLine /\ H' = c7 H a (.dK (sY kvs k v))) \/
 ∃ kvs k b,H a = some (.dT kvs) /\ y = .ref b /\ H b = some (.tup (k.map kV)) /\ kvs.length < sizeLine /\ H' = c7 H a (.dT (sY kvs k v))
theorem F2.k {H:Hp} {a:Addr} {kvs:List (cK × V)} {k:cK} (e:H a = some (.dK kvs)):F2 H a (kV k) (vF kvs k):=.inl ⟨kvs,k,.inl e,rfl,rfl⟩
theorem OH.k {H:Hp} {a:Addr} {kvs:List (cK × V)} {k:cK} {v:V} (e:H a = some (.dK kvs)) (hl:kvs.length < sizeLine):OH H a (kV k) v (c7 H a (.dK (sY kvs k v))):=.inl ⟨kvs,k,e,rfl,hl,rfl⟩
section
variable {X:Cx} {pins:List (Addr × Obj)} {σ:St} {H:Hp} {s:Shared} {a:Addr} {y v:V} {u r:Value} {o:Option V} {A:Around} {E:Value -> Shared -> Prop}
theorem Inv.big (I:Inv X pins σ H s):sysModules < s.heap.objs.size:=by
 have h:mainGlobals < s.heap.objs.size:=(I.mod.glob.keeps I.bk).lt
 exact a2h (by decide) h
theorem MQ {Q:Value -> Shared -> Prop} (hu:A.units + 1 < cLine) (I:Inv X pins σ H s) (g:F2 H a y (some v)) (ry:bR y u) (h:∀ w' s',Inv X pins σ H s' -> bR v w' -> Q w' s') :
  wpAny (model X.prog X.w) A (getItem (.ref a) u) Q E s:=by
 rcases g with ⟨kvs,k,e,ey,l⟩ | ⟨kvs,k,b,e,ey,eb,l⟩
 ·subst ey
  obtain ⟨z,hd,vs,rel,dd⟩:=FQ I.hok e
  obtain ⟨w',hw,rw'⟩:=yA.some_of (v:=v) (o:=valueAt vs k) (by rw [l];exact rel.val k)
  exact wpAny_getItem_of (FY ry) dd.mapOf hw (h w' _ (I.tok _) rw')
 ·subst ey
  cases (show u = Value.ref b from ry)
  obtain ⟨z,hd,xs,rel,dd⟩:=KQ I.hok e
  obtain ⟨w',hw,rw'⟩:=yA.some_of (v:=v) (o:=(atKey xs k).map (·.2)) (by rw [l];exact rel.val k)
  obtain ⟨p,hp,hp2⟩:=a0u.mp hw
  refine wpAny_getItem_heap (tupleKind_room_in1 hu) (DO I.hok eb) dd hp ?_
  rw [hp2]
  exact h w' _ (I.tok _) rw'
theorem DA {h':Heap} {t':Nat} {ob:HO} (I:Inv X pins σ H s) (mu:a1W (H a)) (hs:Heap.SameBut a s.heap h') (he:∃ q,h'.get? a = some q) (new:eV X.prog X.w (c7 H a ob) h' a ob) :
  Inv X pins σ (c7 H a ob) { s with heap:=h',toks:=t' } :=
 I.write (x:=a) (e:=a) mu (.inl rfl) (λb q hb z=>(hs.2 b hb).trans z) he new
theorem P5 {P:Program} {w:World} {H':Hp} {h':Heap} {kvs:List (cK × V)} {vs:List (cK × Value)} (z:kvs.length <= sizeLine) (hd:(a == sysModules) = false) (rel:KV kvs vs) (dd:h'.DictOf (cG P w) a vs) :
  eV P w H' h' a (.dK kvs):=⟨z,hd,vs,rel,dd⟩
theorem MR {H':Hp} {Q:Unit -> Shared -> Prop} (hu:A.units + 1 < cLine) (I:Inv X pins σ H s) (g:OH H a y v H') (ry:bR y u) (rv:bR v r) (h:∀ s',Inv X pins σ H' s' -> Q () s') :
  wpAny (model X.prog X.w) A (setItem (.ref a) u r) Q E s:=by
 rcases g with ⟨kvs,k,e,ey,l,eH⟩ | ⟨kvs,k,b,e,ey,eb,l,eH⟩
 ·subst ey eH
  obtain ⟨z,hd,vs,rel,dd⟩:=X4 I.hok e
  have hz:vs.length <= sizeLine:=by rw [<- rel.length];exact z
  have hl:(sY kvs k v).length <= sizeLine:=by have:=oZ kvs k v;omega
  refine wpAny_setItem_pairs (hsz:=hz) (FY ry) dd λh' dd' hs=>h _ ?_
  have he:∃ q,h'.get? a = some q:=let ⟨q,_,_,hq,_⟩:=dd';⟨q,hq⟩
  exact DA I (by rw [e];exact True.intro) hs he (P5 hl hd (rel.put k rv) dd')
 ·subst ey eH
  cases (show u = Value.ref b from ry)
  obtain ⟨z,hd,xs,rel,dd⟩:=a26 I.hok e
  have hz:xs.length <= sizeLine:=by rw [<- Paired.length rel];exact z
  have hl:(sY kvs k v).length <= sizeLine:=by have:=oZ kvs k v;omega
  refine wpAny_setItem_heap (hsz:=hz) (tupleKind_room_in1 hu) (DO I.hok eb) dd λh' dd' hs=>h _ ?_
  obtain ⟨q,es,ep,hq,h2,h3,h4,_,h5⟩:=dd'
  refine DA I (by rw [e];exact True.intro) hs ⟨q,hq⟩ ⟨hl,hd,_,(rel.put k eb rv).keeps λc ys ec=>?_,q,es,ep,hq,h2,h3,h4,h5⟩
  rw [aG (a2Q ec e (λz=>nomatch z))]
  exact ec
end
def XN (i:Expr):Prop:=∀ ov iv,subscripted i false ov iv = operate [ov,iv] (getItem ov iv)
theorem WI {prog:Program} {w:World} {A:Around} {E:Value -> Shared -> Prop} {s:Shared} {env:Env} {value slice:Expr} {pos:Pos} {T id:String} {Q:Value -> Shared -> Prop}
  (hl:typeLookup (.type T) "__getitem__" = pure (some (.builtin id))) (hs:XN slice)
  (h:wpAny (model prog w) A (eval value env) (λo s₁=>wpAny (model prog w) A (eval slice env) (λi s₂=>s₂.TypeIs o T /\ wpAny (model prog w) A (getItem o i) Q E s₂) E s₁) E s) :
  wpAny (model prog w) A (eval (.Subscript value slice pos) env) Q E s:=by
 refine Subscript_ (a1a h (λo s₁ h₁=>a1a h₁ (λi s₂ h₂=>?_) λ_ _ x=>x) λ_ _ x=>x)
 obtain ⟨hT,h₂⟩:=h₂
 unfold subscriptTail
 refine a0a ?_
 rw [getitemInPython_of_ne hT.not_modules]
 refine a0a (wpAny_specialOf hT hl ?_)
 have fin:wpAny (model prog w) A (subscripted slice false o i) (λr s₃=>wpAny (model prog w) A (letTemporaryGo value o r >>= λ_=>pure r) Q E s₃) E s₂:=by
  rw [hs o i]
  exact wpAny_operating (a1a h₂ (λr s₃ h₃=>a0a (wpAny_letTemporaryGo (a0c h₃))) λ_ _ x=>x)
 first
  | exact a0c (a0a fin)
  | exact a0a (a0c (a0a fin))
  | exact a0a fin
theorem FO {X:Cx} {pins:List (Addr × Obj)} {σ:St} {H:Hp} {s:Shared} {a:Addr} {y:V} {o:Option V} (I:Inv X pins σ H s) (g:F2 H a y o):s.TypeIs (.ref a) "dict" := by
 rcases g with ⟨kvs,k,e,_,_⟩ | ⟨kvs,k,b,e,_,_,_⟩
 ·obtain ⟨_,_,vs,_,dd⟩:=FQ I.hok e
  exact dd.typeIs
 ·obtain ⟨_,_,xs,_,dd⟩:=KQ I.hok e
  exact dd.typeIs
def a3Q (td ty:TE):TE:=λσ H Q=>td σ H λx H1=>ty σ H1 λy H2=>∃ a v,x = .ref a /\ F2 H2 a y (some v) /\ Q v H2
def a3M (td ty tv:TE):TS:=λD σ H=>tv σ H λv H1=>td σ H1 λx H2=>ty σ H2 λy H3=>∃ a H4,x = .ref a /\ OH H3 a y v H4 /\ D.nx σ H4
section
variable {X:Cx} {o i e value:Expr} {pos pos' tpos:Pos} {td ty tv:TE}
theorem V8 (hu:X.A.units + 1 < cLine) (ho:PE X o td) (hi:PE X i ty) (hs:XN i):PE X (.Subscript o i pos) (a3Q td ty):=by
 intro pins s σ H Q I h
 refine WI PySem.F.slot_dict_getitem.lookup hs (dX (ho pins s σ H _ I h) λu s1 ⟨x,H1,I1,rx,q1⟩=>dX (hi pins s1 σ H1 _ I1 q1) λiv s2 ⟨y,H2,I2,ry,a,v,ex,g,q2⟩=>?_)
 subst ex
 obtain rfl:u = Value.ref a:=rx
 exact ⟨FO I2 g,MQ hu I2 g ry λw' s3 I3 rw'=>⟨v,H2,I3,rw',q2⟩⟩
theorem VH (hu:X.A.units + 1 < cLine) (ho:PE X o td) (hi:PE X i ty) (hv:PE X value tv) (hs:swapsWith value (some (.Subscript o i pos')) pos.line X.env = pure false) :
  PS X (.Assign [.Subscript o i pos'] value pos) (a3M td ty tv):=by
 intro pins s σ H D I h
 refine wpAny_Assign_Subscript (dX (hv pins s σ H _ I h) λr s1 ⟨v,H1,I1,rv,q1⟩=>dX (ho pins s1 σ H1 _ I1 q1) λu s2 ⟨x,H2,I2,rx,q2⟩=>dX (hi pins s2 σ H2 _ I2 q2) λiv s3 ⟨y,H3,I3,ry,a,H4,ex,g,q3⟩=>?_) hs
 subst ex
 obtain rfl:u = Value.ref a:=rx
 exact MR hu I3 g ry rv λs4 I4=>⟨σ,H4,I4,q3⟩
end
theorem FP {P:Program} {w:World} {H:Hp} (h:Heap) (hb:sysModules < h.objs.size):eV P w H (h.push { cls:=.type "dict",data:=.dict #[] }) h.objs.size (.dK []) :=
 ⟨a2u _,beq_eq_false_iff_ne.mpr (a2d (a0r hb)),[],.nil,Heap.DictOf.new h⟩
def a18:TE:=λ_ H Q=>∀ p,H p = none -> Q (.ref p) (c7 H p (.dK []))
section
variable {X:Cx} {pos:Pos}
theorem R7:PE X (.Dict [] [] pos) a18:=λpins s σ H Q I h =>
 wpAny_Dict_empty ⟨.ref s.heap.objs.size,_,I.laid (a:=s.heap.objs.size) (o:=.dK []) (t':=s.toks) (λ_ _ q=>a0e _ q) (a0l _) (FP s.heap I.big),rfl,h _ (I.hok.fresh (a0l _))⟩
end
section
variable {X:Cx} {pins:List (Addr × Obj)} {σ:St} {H:Hp} {s:Shared} {a:Addr} {y d:V} {u r:Value} {o:Option V} {A:Around} {E:Value -> Shared -> Prop}
theorem Y3 {Q:Value -> Shared -> Prop} (hu:A.units + 1 < cLine) (I:Inv X pins σ H s) (g:F2 H a y o) (ry:bR y u) (rd:bR d r) (h:∀ w' s',Inv X pins σ H s' -> bR (o.getD d) w' -> Q w' s') :
  wpAny (model X.prog X.w) A (call (.builtin "dict.get") [.ref a,u,r]) Q E s:=by
 rcases g with ⟨kvs,k,e,ey,l⟩ | ⟨kvs,k,b,e,ey,eb,l⟩
 ·subst ey
  obtain ⟨z,hd,vs,rel,dd⟩:=FQ I.hok e
  refine call_meetsIn a66 dd.typeIs PySem.F.entry_dict_get (PySem.F.args_dict_get_3 _ _ _) (meets_dict_get_default (cG X.prog X.w) a (FY ry) hd r) ⟨_,dd.mapOf,h _ _ (I.tok _) ?_⟩
  rw [l]
  exact (rel.val k).getD rd
 ·subst ey
  cases (show u = Value.ref b from ry)
  obtain ⟨z,hd,xs,rel,dd⟩:=KQ I.hok e
  refine call_meetsIn a66 dd.typeIs PySem.F.entry_dict_get (PySem.F.args_dict_get_3 _ _ _) (meetsH_dict_get_default (tupleKind (cG X.prog X.w)) a b hd r) ⟨tupleKind_room_in1 hu,k,xs,DO I.hok eb,dd,h _ _ (I.tok _) ?_⟩
  rw [l]
  exact (rel.val k).getD rd
end
abbrev OA:PV -> Option cK
 | .int i=>some (.inl i)
 | .str s=>some (.inr s)
 | _=>none
def kIn (ks:List cK) (k:cK):Bool:=ks.any λa=>decide (a = k)
def MW (ks:List cK) (k:cK):List cK:=match kIn ks k with
 | true=>ks
 | false=>ks ++ [k]
def IE {α:Type} (ks:List cK) (xs:List α) (k:cK) (v:α):List α:=match kIn ks k with
 | true=>(ks.zip xs).map λp=>if p.1 = k then v else p.2
 | false=>xs ++ [v]
def FN {α:Type} (ks:List cK) (xs:List α) (k:cK):Option α:=((ks.zip xs).find? λp=>decide (p.1 = k)).map (·.2)
theorem WZ {α:Type} {ks:List cK} {xs:List α} (h:ks.length = xs.length) (k:cK):((ks.zip xs).any λp=>decide (p.1 = k)) = kIn ks k:=by
 unfold kIn
 induction ks generalizing xs with
 | nil=>rfl
 | cons a ks ih=>cases xs with
  | nil=>cases h
  | cons x xs=>rw [a2o,a4d,a4d,ih (by simpa using h)]
theorem LO {ks:List cK} {vs:List V} (h:ks.length = vs.length) (k:cK) (v:V):sY (ks.zip vs) k v = (MW ks k).zip (IE ks vs k v):=by
 unfold sY MW IE
 rw [WZ h]
 cases kIn ks k with
 | true =>
  rw [if_pos rfl]
  dsimp only
  induction ks generalizing vs with
  | nil=>rfl
  | cons a ks ih=>cases vs with
   | nil=>cases h
   | cons x vs =>
    simp only [a2o,a0f]
    rw [ih (by simpa using h)]
    congr 1
    split <;> rfl
 | false =>
  rw [if_neg a0j]
  dsimp only
  rw [List.zip_append h];rfl
theorem KP {α:Type} {ks:List cK} {xs:List α} (h:ks.length = xs.length) (k:cK) (v:α):(MW ks k).length = (IE ks xs k v).length:=by
 unfold MW IE
 split <;> simp [h]
section
variable {G:Addr -> Prop} {H:Hp} {vs:List V} {xs:List PV} {ks:List cK}
theorem Reps.zipMap (r:Reps G H vs xs) (k:cK) {v:V} {x:PV} (rx:Rep G H v x):Reps G H ((ks.zip vs).map λp=>if p.1 = k then v else p.2) ((ks.zip xs).map λp=>if p.1 = k then x else p.2):=by
 refine ⟨by simp [r.len],λi u y e1 e2=>?_⟩
 rw [a0h,a0u] at e1 e2
 obtain ⟨p,hp,rfl⟩:=e1
 obtain ⟨p',hp',rfl⟩:=e2
 rw [a2x] at hp hp'
 have e:p.1 = p'.1:=a1i (hp.1.symm.trans hp'.1)
 rw [e]
 split
 ·exact rx
 ·exact r.at_ i _ _ hp.2 hp'.2
theorem Reps.dput (r:Reps G H vs xs) (k:cK) {v:V} {x:PV} (rx:Rep G H v x):Reps G H (IE ks vs k v) (IE ks xs k x):=by
 unfold IE
 cases kIn ks k with
 | true=>exact r.zipMap k rx
 | false=>exact r.append (.cons rx .nil)
theorem Reps.dget:∀ {ks:List cK} {vs:List V} {xs:List PV},Reps G H vs xs -> ∀ {k:cK} {x:PV},FN ks xs k = some x -> ∃ v,vF (ks.zip vs) k = some v /\ Rep G H v x:=by
 intro ks
 induction ks with
 | nil=>intro vs xs r k x e;cases e
 | cons a ks ih =>
  intro vs xs r k x e
  cases xs with
  | nil=>cases e
  | cons y xs =>
   cases vs with
   | nil=>have:=r.len;cases this
   | cons v vs =>
    unfold FN at e
    rw [a2o,a2b] at e
    rw [a2o]
    by_cases h:a = k
    ·rw [a2m h] at e
     cases e
     exact ⟨v,vG (p:=(a,v)) h,r.at_ 0 _ _ rfl rfl⟩
    ·rw [a1f h] at e
     rw [pW (p:=(a,v)) h]
     refine ih (xs:=xs) ⟨by have:=r.len;simpa using this,λi u z e1 e2=>r.at_ (i + 1) u z (by simpa using e1) (by simpa using e2)⟩ e
end
theorem L4 {G S:Addr -> Prop} {H:Hp} {z:PV} {u:V} {k:cK} (e:OA z = some k) (r:Rep G H u z):u = kV k:=by
 cases z with
 | int i=>cases e;exact Rep.ofInt r
 | str x=>cases e;exact RepP.ofStr (S:=λ_=>True) (.inl r)
 | _=>cases e
section
variable {X:Cx} {md lm:List Md} {rm:Md} {o i e:Expr} {pe pj pa pb:b8} {el:El} {pos p:Pos} {n:Nat}
theorem M7:VE X md (.Dict [] [] pos) (.o .fl) (pC (.dic [] [])):=⟨R7.imp λσ H K=>by
 rintro ⟨env,W0,H0,W,Q,R,q,k⟩
 intro a ha
 exact k.newB R.ok ha (Body.dic (ks:=[]) (vs:=[]) rfl .nil) q⟩
def pDPut (n:Nat) (pe pj:b8):bP:=λE env=>pe env λy=>match kL env n with
 | some (some (.dic ks xs))=>pj env λj=>(match OA j with
  | some k=>ks.length < 1000 /\ E.nx (kE env n (some (.dic (MW ks k) (IE ks xs k y))))
  | none=>False)
 | _=>False
theorem M8 {j:Expr} (hu:X.A.units + 64 < cLine) (ho:QE X o (gH n)) (hi:md.getD n .no = .o el) (he:VE X md e (.v el) pe) (hj:VE X md j .bw pj)
  (hs:swapsWith e (some (.Subscript o j p)) pos.line X.env = pure false:=by rfl):VS X md md lm rm (.Assign [.Subscript o j p] e pos) (pDPut n pe pj):=⟨(VH (by omega) ho.h hj.h he.h hs).imp λD σ H=>by
 rintro ⟨env,W0,H0,W,E,R,q,l⟩
 refine ⟨env,W0,H0,W,_,R,q,λy v W1 H1 g1 r1 q1=>?_⟩
 have R1:=R.step g1
 rw [nJ] at q1
 cases ev:env[n]? with
 | none=>rw [ev] at q1;exact q1.elim
 | some ox =>
  cases ox with
  | none=>rw [ev] at q1;exact q1.elim
  | some x =>
   rw [ev] at q1
   cases x with
   | dic ks xs =>
    obtain ⟨a,ob,sv,oq⟩:=R1.ownAt hi ev
    refine ⟨.ref a,sv,env,W0,H0,W1,_,R1,q1,λjv u W2 H2 g2 r2 q2=>?_⟩
    have R2:=R1.step g2
    obtain ⟨a2,o2,sv2,oq2⟩:=R2.ownAt hi ev
    rw [sv] at sv2;cases sv2
    cases hk:OA jv with
    | none=>rw [hk] at q2;exact q2.elim
    | some k =>
     rw [hk] at q2
     have b:=oq2.its
     have oq3:=oq2
     have hat:=oq2.at_
     generalize o2 = oo at b hat oq3
     cases b with
     | @dic _ us _ hl h =>
      have r1':Rep (el.G W2.F H0) H2 v y:=ResE.go (m:=.v el) r1 g1.ok g2
      have hu:u = kV k:=L4 (S:=λ_=>True) hk r2
      subst hu
      obtain ⟨hlt,q2⟩:=q2
      refine ⟨a,_,rfl,OH.k hat (by rw [a6b,<- hl,Nat.min_self];exact a2h hlt (by decide)),?_⟩
      rw [fX] at q2
      rw [LO hl]
      exact l.nx _ W2 σ _ (R2.put hi ev sv (.dic (KP hl k v) (h.dput k r1')) rfl) (((g1.trans g2).ex R.ok).trans (EC (K:=X.K) (md:=md) (W0:=W0) (σ:=σ) (env:=env) (i:=n) oq3)) q2
   | _=>exact q1.elim⟩
def iA:P2:=λx y Q=>match x,OA y with
 | .dic ks xs,some k=>(match FN ks xs k with
  | some z=>Q z
  | none=>False)
 | _,_=>False
theorem qI (hu:X.A.units + 64 < cLine) (ha:VE X md o (.p el) pa) (hb:VE X md i .bw pb) (hs:XN i):VE X md (.Subscript o i pos) (.v el) (pOp iA pa pb) :=
 ⟨(V8 (by omega) ha.h hb.h hs).imp λσ H K=>by
  rintro ⟨env,W0,H0,W,Q,R,q,k⟩
  refine ⟨env,W0,H0,W,_,R,q,λx v W1 H1 g1 r1 q1=>⟨env,W0,H0,W1,_,R.step g1,q1,λy u W2 H2 g2 r2 q2=>?_⟩⟩
  have k2:=k.after (g1.trans g2)
  have r1':RepP (el.G W2.F H0) W2.S H2 v x:=ResE.go (m:=.p el) r1 g1.ok g2
  unfold iA at q2
  cases x with
  | dic ks xs =>
   cases hk:OA y with
   | none=>rw [hk] at q2;exact q2.elim
   | some kk =>
    rw [hk] at q2
    dsimp only at q2
    cases hg:FN ks xs kk with
    | none=>rw [hg] at q2;exact q2.elim
    | some z =>
     rw [hg] at q2
     obtain ⟨a,vs,rfl,e,hl,rs⟩:=r1'.ofDic
     have hu:u = kV kk:=L4 (S:=λ_=>True) hk r2
     subst hu
     obtain ⟨w,e1,e2⟩:=rs.dget hg
     exact ⟨a,w,rfl,by have:=F2.k (k:=kk) e;rw [e1] at this;exact this,k2.val g2.ok e2 q2⟩
  | _=>cases hk:OA y <;> (rw [hk] at q2;exact q2.elim)⟩
end
def zW:List cK -> Option (List Int)
 | []=>some []
 | .inl i :: ks=>(zW ks).map (i :: ·)
 | .inr _ :: _=>none
theorem FZ:∀ {ks:List cK} {ns:List Int},zW ks = some ns -> ks = ns.map Sum.inl
 | [],ns,h=>by cases h;rfl
 | .inl i :: ks,ns,h=>by
  unfold zW at h
  rw [a0u] at h
  obtain ⟨ms,h1,rfl⟩:=h
  rw [FZ h1];rfl
theorem NC (ns:List Int):zW (ns.map Sum.inl) = some ns:=by
 induction ns with
 | nil=>rfl
 | cons n ns ih=>rw [a0f,zW,ih];rfl
section
variable {prog:Program} {w:World} {A:Around} {E:Value -> Shared -> Prop} {s:Shared} {a:Addr}
theorem D8 {vs:List (cK × Value)} {Q:List Value -> Shared -> Prop} (hh:A.handled = none) (lo:(a == sysModules) = false) (dd:s.heap.DictOf (cG prog w) a vs) (hz:vs.length <= sizeLine)
  (k:∀ (g:Heap) (t:Nat) (us:Array Value),(∀ b o,s.heap.get? b = some o -> g.get? b = some o) -> s.heap.objs.size < g.objs.size -> ItemsOf (λi v=>∃ k x,vs[i]? = some (k,x) /\ (cG prog w).is k v = true) us vs.length -> Q us.toList { s with heap:=g,toks:=t }) :
  wpAny (model prog w) A (collect (.ref a)) Q E s:=by
 obtain ⟨ep,hat⟩:=dd.dictAt
 have S0:=PySem.W.kdl_dict (prog:=prog) (w:=w) (d:=a) (knd:=cG prog w) (kvs:=vs) (ep:=ep) lo
 have there:=(S0.there _ hat).1
 unfold collect
 refine a0a (wpAny_runValue (a3o F.entry_proto_collect ?_))
 rw [a3c F.plain_proto_collect _]
 show wpAny _ A.in1 (newList [] >>= λq=>again (.builtin "list.__iadd__" ⟨[q,.ref a],[]⟩)) _ _ s
 refine a0a (a1m (a0c ⟨a5u a5n _,a3o F.entry_list_iadd ?_⟩))
 rw [a3c a5n _]
 generalize hg0:s.heap.push { cls:=.type "list",data:=.seq ([]:List Value).toArray } = g0
 have at0:g0.get? s.heap.objs.size = some { cls:=.type "list",data:=.seq #[] }:=by rw [<- hg0];exact a0y _ rfl
 have kp0:∀ b o,s.heap.get? b = some o -> g0.get? b = some o:=λb o e=>by rw [<- hg0];exact a0e _ e
 have fin:=PySem.W.kdl_extend (A:=A) (s:={ s with heap:=g0 }) (R:=λq s'=>∃ g t us c,q = .ok (.ret (.ref s.heap.objs.size)) /\ s' = { s with heap:=g,toks:=t } /\ (∀ b o,s.heap.get? b = some o -> g.get? b = some o) /\
   g.get? s.heap.objs.size = some { cls:=.type "list",dict:=none,data:=.seq us c,slots:=#[] } /\ ItemsOf (λi v=>∃ k x,vs[i]? = some (k,x) /\ (cG prog w).is k v = true) us vs.length)
  S0 hh (S0.keep _ _ hat λb _ o e=>kp0 b o e) s.heap.objs.size (a4z there) (a4z there) (.ref s.heap.objs.size) 0 at0
  (λg t us c kp ag it=>⟨g,t,us,c,rfl,rfl,λb o e=>kp b o (a0r (a0m e)) (kp0 b o e),ag,it⟩) hz
 refine a1a fin (λf s2 x=>?_) λe s2 x=>?_
 ·cases f with
  | done f =>
   obtain ⟨g,t,us,c,e,rfl,kp,ag,it⟩:=x
   cases e
   show wpAny _ A (load s.heap.objs.size >>= _) _ _ _
   exact a0a (wpAny_load ag (a0c (k g t us kp (a0m ag) it)))
  | again c1 =>
   refine ⟨x.1,a5h x.2 λq s3 y=>?_⟩
   obtain ⟨g,t,us,c,rfl,rfl,kp,ag,it⟩:=y
   show wpAny _ A (load s.heap.objs.size >>= _) _ _ _
   exact a0a (wpAny_load ag (a0c (k g t us kp (a0m ag) it)))
 ·obtain ⟨_,_,_,_,z,_⟩:=x
  cases z
theorem HW {vs:List (cK × Value)} {ns:List Int} {Q:Value -> Shared -> Prop} (hh:A.handled = none) (lo:(a == sysModules) = false) (dd:s.heap.DictOf (cG prog w) a vs) (hns:vs.map (·.1) = ns.map Sum.inl) (h64:ns.length < 64)
  (h:∀ (out:Array Value) (ms:List Int) (l:Addr) (m:Nat) (s':Shared),s'.gens = s.gens -> s'.os = s.os -> (∀ b o,s.heap.get? b = some o -> s'.heap.get? b = some o) -> s.heap.objs.size <= l -> s'.heap.get? l = some { cls:=.type "list",data:=.seq out m } -> IntsAre out.toList ms -> ms.Perm ns -> ms.Pairwise (· <= ·) -> Q (.ref l) s') :
  wpAny (model prog w) A (call (.builtin "sorted") [.ref a]) Q E s:=by
 have hvl:vs.length = ns.length:=by have:=congrArg List.length hns;simpa using this
 refine Calls.call_function_entry kind_sorted plain_sorted entry_sorted (args_sorted1 _) ?_
 unfold Builtin.«sorted»
 refine a0a (m:=checkCount "sorted" 1 1 _) (a0c ?_)
 refine a0a (D8 (A:=A.in1) hh lo dd (by rw [hvl];exact a1b (a2t h64) (by decide)) λh1 tk acc hk hlt hacc=>?_)
 have hal:acc.toList.length = ns.length:=by rw [a0s,hacc.1,hvl]
 have hI:IntsAre acc.toList ns:=by
  have go:∀ (us:List Value) (ms:List Int),us.length = ms.length -> (∀ (j:Nat) (u:Value),us[j]? = some u -> ∃ i t,ms[j]? = some i /\ u = .int i t) -> IntsAre us ms:=by
   intro us
   induction us with
   | nil=>intro ms hl _;cases ms with
    | nil=>exact .nil
    | cons m ms=>cases hl
   | cons u us ih=>intro ms hl hh;cases ms with
    | nil=>cases hl
    | cons m ms =>
     obtain ⟨i,t,e,rfl⟩:=hh 0 u rfl
     cases e
     exact .cons m t (ih ms (by simpa using hl) λj u hj=>by simpa using hh (j + 1) u (by simpa using hj))
  refine go _ _ hal λj u hj=>?_
  obtain ⟨k,x,hx,hkk⟩:=hacc.2 j u (by rw [<- a2n];exact hj)
  have e1:(vs.map (·.1))[j]? = some k:=by rw [a0h,hx];rfl
  rw [hns,a0h,a0u] at e1
  obtain ⟨i,hi,rfl⟩:=e1
  obtain ⟨t,rfl⟩ : ∃ t,u = .int i t:=d8 (prog:=prog) (w:=w) hkk
  exact ⟨i,t,hi,rfl⟩
 refine a0a (a1m ?_ ?_)
 ·have hoL:(h1.push (seqObj "list" acc.toList.toArray 0)).get? h1.objs.size = some (seqObj "list" acc.toList.toArray 0):=a0y _ rfl
  refine a0a (a1s (a2j slot_list_sort ⟨_,hoL,rfl⟩ entry_list_sort (list_sort_tree hoL hI (by omega) λout ns' a1 a2 a3=>⟨_,rfl,?_⟩) (args_list_sort _)))
  have e1:=a1u (Obj.mapSeq λ_=>#[]) hoL rfl
  have e2:=a0e (seqObj "list" #[] 0) (a0e (seqObj "tuple" acc.toList.toArray 0) e1)
  have e3:=a1u (Obj.mapSeq λ_=>out) e2 rfl
  refine a0c ⟨_,rfl,h out ns' h1.objs.size _ _ rfl rfl (λb o e=>?_) (a2t hlt) (e3.trans rfl) a1 a2 a3⟩
  have hb:b ≠ h1.objs.size:=a0r (a0m (hk b o e))
  unfold sortedHeap
  refine (a1q _ _ (a2d hb)).trans (a0e _ (a0e _ ((a1q _ _ (a2d hb)).trans (a0e _ (hk b o e)))))
 ·show acc.toList.toArray.size <= sizeLine
  rw [a0t,hal];exact a1b (a2t h64) (by decide)
end
section
variable {X:Cx}
def AM:List V -> Hp -> VK -> Prop:=λxs H Q=>∃ (a:Addr) (ns:List Int) (vs:List V),xs = [.ref a] /\ Rd H a (.dK ((ns.map Sum.inl).zip vs)) /\ ns.length = vs.length /\ ns.length < 64 /\
 ∀ (l:Addr) (ms:List Int),H l = none -> ms.Perm ns -> ms.Pairwise (· <= ·) -> Q (.ref l) (c7 H l (.lst (List.map V.int ms)))
theorem MH (hc:X.calm = true):i8 X (.builtin "sorted") AM:=by
 intro pins s σ H xs us Q I r h
 obtain ⟨a,ns,vs,rfl,hp,hl,h64,q⟩:=h
 obtain ⟨u,rfl,ru⟩:=rH r
 cases ru
 obtain ⟨z,hd,ws,rel,dd⟩:=FQ I.hok hp
 have hw:ws.map (·.1) = ns.map Sum.inl:=by
  have:((ns.map Sum.inl).zip vs).map (·.1) = ws.map (·.1):=by
   clear dd
   unfold KV at rel
   generalize ((ns.map Sum.inl).zip vs:List (cK × V)) = kvs at rel
   induction rel with
   | nil=>rfl
   | cons h t ih=>rw [a0f,a0f,ih,h.1]
  rw [<- this]
  exact List.map_fst_zip (by rw [a0d];omega)
 refine HW (I.ok.hd hc) hd dd hw h64 λout ms l m s' g1 g2 g4 g5 g6 hI hp hs=>?_
 refine ⟨.ref l,c7 H l (.lst (List.map V.int ms)),I.laidS g2 g1 g4 g5 ⟨?_,out.toList,m,qH hI,by simpa using g6⟩,rfl,q l ms (I.hok.fresh g5) hp hs⟩
 rw [a0d,hp.length_eq]
 exact a1b (a2t h64) (by decide)
theorem AK (hc:X.calm = true):QC X (.builtin "sorted") AM:=⟨MH hc⟩
def j4:PN:=λxs Q=>match xs with
 | [.dic ks _]=>(match zW ks with
  | some ns=>ns.length < 64 /\ Q (.lst ((nZ ns).map PV.int))
  | none=>False)
 | _=>False
theorem y4 {el:El}:SimC AM [.p el] (.o .fl) j4:=⟨λB H0 W H vs xs Q K w r q k=>by
 obtain ⟨v,x,rfl,rfl,r1⟩:=r.one
 unfold j4 at q
 cases x with
 | dic ks ys =>
  dsimp only at q
  cases h:zW ks with
  | none=>rw [h] at q;exact q.elim
  | some ns =>
   rw [h] at q
   have hks:=FZ h
   subst hks
   have r2:RepP (el.G W.F B) W.S H v (.dic (ns.map Sum.inl) ys):=r1
   obtain ⟨a,us,rfl,e,hl,rs⟩:=r2.ofDic
   refine ⟨a,ns,us,rfl,.inl e,by rw [<- hl,a0d],q.1,λl ms hl hp hs=>?_⟩
   have:ms = nZ ns:=rG (hp.trans (cT ns).symm) hs (mZ ns)
   subst this
   exact k.newL w hl (qF _) q.2
 | _=>exact q.elim⟩
end
theorem Inv.turnedF {X:Cx} {pins:List (Addr × Obj)} {σ:St} {H:Hp} {s:Shared} {h':Heap} {t':Nat} {fp:List Addr} (I:Inv X pins σ H s) (hf:∀ b ∈ fp,lB X pins H b) (k:∀ b u,b ∉ fp -> s.heap.get? b = some u -> h'.get? b = some u) :
  Inv X pins σ H { s with heap:=h',toks:=t' }:=by
 have nf:∀ b u,H b = some u -> b ∉ fp:=λb u e z=>by rw [(hf b z).1] at e;cases e
 refine I.step (g':=s.gens) (d':=s.drawn) (ch:=fp) (λb hb=>?_) (λb o _ _ hc e _=>k b o hc e) (λb o _ _ hc e _=>⟨o.slots,k b o hc e⟩) (λb u _ e n=>n)
  (λb o hc e=>⟨o,k b o hc e⟩) (λb _ e=>e) (λb _ _ e=>e) (λb ps e=>⟨#[],by rw [e];simp⟩) (λm hm=>?_) (λb u e=>?_) I.bare
 ·obtain ⟨f0,f1,f2,f3,f4,f5⟩:=hf b hb
  exact ⟨f3,f1,f4,f5⟩
 ·obtain ⟨o,es,ep,ho,r⟩:=hm
  exact ⟨o,es,ep,k _ o (λz=>(hf _ z).2.1 rfl) ho,r⟩
 ·refine (I.hok b u e).stay (λc v hc q=>k c v ?_ q) (λ_ q=>q) λ_ _ q=>q
  rcases hc with z | z
  ·rw [z];exact nf b u e
  ·exact nf c _ z
def a4G (K:PySem.W.Frag) (a b:Addr):It :=
  ⟨fun i H => ∃ xs ys x y, fN K H a xs ∧ fN K H b ys ∧ xs[i]? = some x ∧ ys[i]? = some y,
   λi H v H'=>∃ t x y,H t = none /\ v = .ref t /\ H' = c7 H t (.tup [x,y]) /\ (∀ xs,fN K H a xs -> xs[i]? = some x) /\ ∀ ys,fN K H b ys -> ys[i]? = some y,
   λi H=>∃ xs ys,fN K H a xs /\ fN K H b ys /\ (xs.length <= i \/ ys.length <= i)⟩
structure ZAp (z TI TO i1 i2:Addr):Prop where
 TIz:TI ≠ z
 TOz:TO ≠ z
 i1z:i1 ≠ z
 i2z:i2 ≠ z
 TITO:TI ≠ TO
 TIi1:TI ≠ i1
 TIi2:TI ≠ i2
 TOi1:TO ≠ i1
 TOi2:TO ≠ i2
 i12:i1 ≠ i2
def a5H (z TI TO i1 i2 a b:Addr) (i:Nat) (h:Heap):Prop:=IsZip h z TI TO .none /\ IsPair h TI (.ref i1) (.ref i2) /\ (∃ x y,IsPair h TO x y) /\ h.IsListIter i1 a i /\ h.IsListIter i2 b i
theorem kY {h:Heap} {a c:Addr} {xs:Array Value} {o:Obj} (hl:h.IsList a xs) (e:h.get? c = some o) (hc:o.cls ≠ .type "list"):a ≠ c:=by
 rintro rfl
 obtain ⟨o',e',c',_⟩:=hl
 rw [e] at e';cases e'
 exact hc c'
theorem ZAp.full {z TI TO i1 i2 a b:Addr} (D:ZAp z TI TO i1 i2) {h:Heap} {i:Nat} (st:a5H z TI TO i1 i2 a b i h) {xs ys:Array Value} (ha:h.IsList a xs) (hb:h.IsList b ys):ZipApart z TI TO i1 i2 a b:=by
 obtain ⟨hz,hTI,⟨x,y,hTO⟩,⟨o1,e1,c1,d1⟩,⟨o2,e2,c2,d2⟩⟩:=st
 have nl:∀ {o:Obj},o.cls = .type "list_iterator" -> o.cls ≠ .type "list" := λe z=>by rw [e] at z;exact absurd z (by decide)
 exact ⟨D.TIz,D.TOz,D.i1z,D.i2z,D.TITO,D.TIi1,D.TIi2,D.TOi1,D.TOi2,D.i12,kY ha hz (show (Value.type "zip") ≠ .type "list" by decide),kY ha hTO (show (Value.type "tuple") ≠ .type "list" by decide),kY ha e1 (nl c1),kY ha e2 (nl c2),
  kY hb hz (show (Value.type "zip") ≠ .type "list" by decide),kY hb hTO (show (Value.type "tuple") ≠ .type "list" by decide),kY hb e1 (nl c1),kY hb e2 (nl c2)⟩
theorem SM {P:Program} {w:World} {K:PySem.W.Frag} {elts:List Expr} {x1} {pos:Pos} (a b z TI TO i1 i2:Addr) (D:ZAp z TI TO i1 i2) :
  Turn P w K (.Tuple elts x1 pos) (a4G K a b) [z,TI,TO,i1,i2] z (a5H z TI TO i1 i2 a b) where
 mem:=by simp
 obj:=λi h st c hc=>by
  obtain ⟨hz,hTI,⟨x,y,hTO⟩,⟨o1,e1,c1,d1⟩,⟨o2,e2,c2,d2⟩⟩:=st
  simp only [a0q,a1y,a3u] at hc
  rcases hc with rfl | rfl | rfl | rfl | rfl
  ·exact ⟨_,hz,λv q=>by cases q⟩
  ·exact ⟨_,hTI,λv q=>by cases q⟩
  ·exact ⟨_,hTO,λv q=>by cases q⟩
  ·exact ⟨_,e1,λv q=>by rw [d1] at q;cases q⟩
  ·exact ⟨_,e2,λv q=>by rw [d2] at q;cases q⟩
 keep:=λi h h' st k=>by
  obtain ⟨hz,hTI,⟨x,y,hTO⟩,h1,h2⟩:=st
  exact ⟨k z (by simp) _ hz,k TI (by simp) _ hTI,⟨x,y,k TO (by simp) _ hTO⟩,h1.at λo e=>k i1 (by simp) o e,h2.at λo e=>k i2 (by simp) o e⟩
 item:=by
  intro X hP hw hK hc i pins s σ H E I hf st hg
  subst hP hw hK
  obtain ⟨xs,ys,x,y,hq,hq2,hx,hy⟩:=hg
  obtain ⟨its,rv,p,hz0⟩:=I.list hq
  obtain ⟨its2,rv2,p2,hz2⟩:=I.list hq2
  obtain ⟨u,hu,ru⟩:=rv.get hx
  obtain ⟨u2,hu2,ru2⟩:=rv2.get hy
  have DD:=D.full st p.isList p2.isList
  have st0:=st
  obtain ⟨hz,hTI,⟨va,vb,hTO⟩,h1,h2⟩:=st
  refine wpAny_pyNext_zip_item DD hz hTI hTO h1 h2 p.isList p2.isList (x:=u) (y:=u2) (by simpa using hu) (by simpa using hu2) λh' a1 a2 a3 a4 a5 a6 hk=>?_
  refine ⟨.ref s.heap.objs.size,rfl,wpAny_letOwnedTupleGo_zip (s:={ s with heap:=h' }) a1 λh'' b1 sb=>?_⟩
  have hfr:H s.heap.objs.size = none:=I.hok.fresh (a0l _)
  have lt:∀ c ∈ [z,TI,TO,i1,i2],c < s.heap.objs.size:=λc hc=>by
   obtain ⟨_,_,_,⟨o1,e1,_⟩,⟨o2,e2,_⟩⟩:=st0
   simp only [a0q,a1y,a3u] at hc
   rcases hc with rfl | rfl | rfl | rfl | rfl
   ·exact a0m hz
   ·exact a0m hTI
   ·exact a0m hTO
   ·exact a0m e1
   ·exact a0m e2
  have nz:s.heap.objs.size ≠ z:=a4z (lt z (by simp))
  have hf2:∀ c ∈ [z,TI,TO,i1,i2],(c7 H s.heap.objs.size (.tup [x,y])) c = none:=λc hc=>by
   rw [aG (a0r (lt c hc))];exact (hf c hc).1
  refine ⟨.ref s.heap.objs.size,c7 H s.heap.objs.size (.tup [x,y]),I.turnL (t':=s.toks) hf (λc v hc q=>?_) (a0l _) ?_,rfl,⟨_,x,y,hfr,rfl,rfl,λzs hz=>by rw [I.list_inj hz hq];exact hx,λzs hz=>by rw [I.list_inj hz hq2];exact hy⟩,?_,hf2⟩
  ·simp only [a0q,a1y,a3u,not_or] at hc
   exact (sb.2 c hc.1).trans (hk c v hc.1 hc.2.2.1 hc.2.2.2.1 hc.2.2.2.2 q)
  ·exact ⟨(by decide:2 <= sizeLine),[u,u2],.cons ru (.cons ru2 .nil),_,(sb.2 _ nz).trans a5,rfl,_,rfl⟩
  ·refine ⟨b1,(sb.2 _ D.TIz).trans (hk TI _ D.TIz D.TITO D.TIi1 D.TIi2 hTI),⟨_,_,(sb.2 _ D.TOz).trans a2⟩,a3.at λo q=>(sb.2 _ D.i1z).trans q,a4.at λo q=>(sb.2 _ D.i2z).trans q⟩
 done:=by
  intro X hP hw hK hc i pins s σ H E I hf st hg
  subst hP hw hK
  obtain ⟨xs,ys,hq,hq2,hx⟩:=hg
  obtain ⟨its,rv,p,hz0⟩:=I.list hq
  obtain ⟨its2,rv2,p2,hz2⟩:=I.list hq2
  have DD:=D.full st p.isList p2.isList
  obtain ⟨hz,hTI,⟨va,vb,hTO⟩,h1,h2⟩:=st
  have l1:=rv.length
  have l2:=rv2.length
  have he:its.toArray[i]? = none \/ its2.toArray[i]? = none:=by
   rcases hx with z | z
   ·exact .inl (by simp;omega)
   ·exact .inr (by simp;omega)
  refine wpAny_pyNext_zip_end (I.ok.hd hc) DD hz hTI hTO h1 h2 p.isList p2.isList he λh' hk=>⟨rfl,?_⟩
  exact I.turnedF (t':=s.toks) hf λc v hc q=>by
   simp only [a0q,a1y,a3u,not_or] at hc
   exact hk c v hc.1 hc.2.2.1 hc.2.2.2.1 hc.2.2.2.2 q
 self:=λ_ _ _ _ _ st h=>wpAny_pyIter_zip st.1 h
def a4R (K:PySem.W.Frag) (ta:TA):TI:=λσ H R=>ta σ H λvs H1=>∃ a b,vs = [.ref a,.ref b] /\ (∃ xs,fN K H1 a xs) /\ (∃ ys,fN K H1 b ys) /\ R (a4G K a b) H1
theorem OQ:bootBuiltins "zip" = some (.type "zip"):=by rfl
theorem a0F {X:Cx} {a b:Expr} {ta:TA} {elts:List Expr} {x1} {tpos p pos:Pos} (hg:Gl X "zip") (hm:X.mg "zip" = none) (ha:PA X [a,b] ta) (hs:starEach [a,b] X.env = [(false,eval a X.env),(false,eval b X.env)]) (hs1:starEach [b] X.env = [(false,eval b X.env)]) :
  PI X (.Tuple elts x1 tpos) (.Call (.Name "zip" p) [a,b] [] pos) (a4R X.K ta):=by
 intro pins s σ H R I h
 refine Call_ (zY I hg hm OQ (a3v (dX (ha pos pins s σ H _ I h) λus s1 ⟨vs,H1,I1,r1,q1⟩=>?_) (hs.trans (by rw [hs1])) (by rw [hs1];rfl)))
 obtain ⟨l,l2,e,⟨xs,hq⟩,⟨ys,hq2⟩,q⟩:=q1
 subst e
 cases r1 with
 | cons r rr =>
  cases rr with
  | cons r2 rr =>
   cases rr
   cases r
   cases r2
   obtain ⟨its,rv,p,hz⟩:=I1.list hq
   obtain ⟨its2,rv2,p2,hz2⟩:=I1.list hq2
   refine call_zip_2 p.isList p2.isList λh' z1 z2 z3 z4 z5 z6 hk=>?_
   refine wpAny_pyIter_zip z1 ?_
   have I2:Inv X pins σ H1 { s1 with heap:=h' }:=I1.kept (t':=s1.toks) hk
   have D:ZAp (s1.heap.objs.size + 4) (s1.heap.objs.size + 2) (s1.heap.objs.size + 3) s1.heap.objs.size (s1.heap.objs.size + 1):=by
    have n:∀ {x y:Nat},x < y \/ y < x -> x ≠ y:=λh=>by omega
    exact ⟨n (by omega),n (by omega),n (by omega),n (by omega),n (by omega),n (by omega),n (by omega),n (by omega),n (by omega),n (by omega)⟩
   refine ⟨s1.heap.objs.size + 4,[s1.heap.objs.size + 4,s1.heap.objs.size + 2,s1.heap.objs.size + 3,s1.heap.objs.size,s1.heap.objs.size + 1],_,_,H1,rfl,I2,SM l l2 _ _ _ _ _ D,⟨z1,z2,⟨_,_,z3⟩,z4,z5⟩,λb hb=>?_,q⟩
   have hb':s1.heap.objs.size <= b:=by
    simp only [a0q,a1y,a3u] at hb
    rcases hb with rfl | rfl | rfl | rfl | rfl <;> omega
   exact I1.fpOk hb' (I1.hok.fresh hb')
def BX (xs ys:List PV):List PV:=(xs.zip ys).map λz=>.tup [z.1,z.2]
theorem mE (xs ys:List PV):(BX xs ys).length = min xs.length ys.length:=by simp [BX]
theorem F0 {xs ys:List PV} {i:Nat} {z:PV}:(BX xs ys)[i]? = some z ↔ ∃ x y,xs[i]? = some x /\ ys[i]? = some y /\ z = .tup [x,y]:=by
 rw [BX,a0h,a0u]
 constructor
 ·rintro ⟨⟨x,y⟩,h,rfl⟩
  have:=a2x.mp h
  exact ⟨x,y,this.1,this.2,rfl⟩
 ·rintro ⟨x,y,h1,h2,rfl⟩
  exact ⟨(x,y),a2x.mpr ⟨h1,h2⟩,rfl⟩
def piZip (a b:b8):rT:=λenv Q=>a env λx=>b env λy=>match x,y with
 | .lst xs,.lst ys=>Q (BX xs ys)
 | _,_=>False
section
variable {X:Cx} {md:List Md} {el:El} {a b e tg:Expr} {pa pb pe:b8} {p pos:Pos}
theorem WG {K:PySem.W.Frag} {B:Hp} {W:Wd} {H:Hp} {l l2:Addr} {vs vs2:List V} {xs ys:List PV} (hF:W.F l) (e:H l = some (.lst vs)) (r:Reps (el.G W.F B) H vs xs) (hF2:W.F l2) (e2:H l2 = some (.lst vs2)) (r2:Reps (el.G W.F B) H vs2 ys):Src (a4G K l l2) el B W H (BX xs ys) where
 go:=λi W2 H2 x hi=>by
  rw [mE] at hi
  exact ⟨vs,vs2,vs[i]'(by rw [r.len];omega),vs2[i]'(by rw [r2.len];omega),fN.of (x.kp l _ hF e),fN.of (x.kp l2 _ hF2 e2),a0b _,a0b _⟩
 stop:=λW2 H2 x=>⟨vs,vs2,fN.of (x.kp l _ hF e),fN.of (x.kp l2 _ hF2 e2),by rw [r.len,r2.len,mE];omega⟩
 yld:=λi W2 H2 v H3 x w hi y=>by
  obtain ⟨t,u,u2,ht,rfl,rfl,y,y2⟩:=y
  have h1:=y vs (fN.of (x.kp l _ hF e))
  have h2:=y2 vs2 (fN.of (x.kp l2 _ hF2 e2))
  obtain ⟨z,ez,rz⟩:=r.getV h1
  obtain ⟨z2,ez2,rz2⟩:=r2.getV h2
  have g:Go W2 H2 W2 (c7 H2 t (.tup [u,u2])):=Go.laid w ht
  have q1:=g.rep w (G':=el.G W2.F B) (λ_ h=>El.nS w h) (λ_ h=>h) (x.rep (G':=el.G W2.F B) (λ_ g=>El.GF g) (λ_ g=>El.up x.lF (λ_ h=>h) g) rz)
  have q2:=g.rep w (G':=el.G W2.F B) (λ_ h=>El.nS w h) (λ_ h=>h) (x.rep (G':=el.G W2.F B) (λ_ g=>El.GF g) (λ_ g=>El.up x.lF (λ_ h=>h) g) rz2)
  refine ⟨g,.tup [z,z2],F0.mpr ⟨z,z2,ez,ez2,rfl⟩,.tup bK rfl λj v x e1 e2=>?_⟩
  match j,e1,e2 with
  | 0,e1,e2=>cases e1;cases e2;exact q1
  | 1,e1,e2=>cases e1;cases e2;exact q2
theorem SW {elts:List Expr} {x1} {tpos:Pos} (hg:X.env.scope.names.lookup (Str.ofString "zip") = some NameKind.globalImplicit) (hm:X.mg "zip" = none) (ha:VE X md a (.v el) pa) (hb:VE X md b (.v el) pb) (hs:starEach [a,b] X.env = [(false,eval a X.env),(false,eval b X.env)]:=by rfl) (hs1:starEach [b] X.env = [(false,eval b X.env)]:=by rfl) :
  VI X md el (.Tuple elts x1 tpos) (.Call (.Name "zip" p) [a,b] [] pos) (piZip pa pb) :=
 ⟨(a0F hg hm (a7 ha (a7 hb aA hs1) (by rw [hs,hs1])).h hs hs1).imp λσ H R=>by
 rintro ⟨env,W0,H0,W,Q,Rr,q,k⟩
 refine ⟨env,W0,H0,W,λxs=>match xs with | [.lst zs,.lst ws]=>Q (BX zs ws) | _=>False,Rr,?_,λxs vs W1 H1 g1 r1 q1=>?_⟩
 ·show pa env λx=>pb env λy=>_
  unfold piZip at q
  refine (iff_of_eq (congrArg (pa env) (funext λx=>congrArg (pb env) (funext λy=>?_)))).mp q
  cases x <;> cases y <;> rfl
 ·cases r1 with
  | cons r ra=>cases ra with
   | cons r2 ra=>cases ra with
    | nil =>
     rename_i v x v2 x2
     cases x with
     | lst xs=>cases x2 with
      | lst ys =>
       obtain ⟨a,vs,rfl,g,e,rs⟩:=Rep.ofList r
       obtain ⟨a2,vs2,rfl,g2,e2,rs2⟩:=Rep.ofList r2
       exact ⟨a,a2,rfl,⟨vs,fN.of e⟩,⟨vs2,fN.of e2⟩,k _ W1 H1 _ g1 (WG (El.GF g) e rs (El.GF g2) e2 rs2) q1⟩
      | _=>exact q1.elim
     | _=>exact q1.elim⟩
end
theorem M9 {X:Cx} {md lm:List Md} {rm:Md} {i j:Nat} {x y:Str} {a b:Expr} {pa pb:b8} {m1 m2:Md} {px py pt pos:Pos} {kt k2 pt2} (hc:X.calm = true) (hN:X.N.Nodup) (hi:X.N[i]? = some x) (hj:X.N[j]? = some y) (hij:i ≠ j)
  (hx:X.env.scope.names.lookup x = some .local) (hy:X.env.scope.names.lookup y = some .local) (ha:VE X md a m1 pa) (hb:VE X md b m2 pb)
  (hw:swappedStores [.Tuple [.Name x px,.Name y py] kt pt] (.Tuple [a,b] k2 pt2) X.env = pure (some [x,y]))
  (hs:swapsWithSole [.Tuple [.Name x px,.Name y py] kt pt] (.Tuple [a,b] k2 pt2) pos.line X.env = pure false)
  (h1:m4 (md.set i m1) = true) (l1:i < md.length) (h2:m4 ((md.set i m1).set j m2) = true) (l2:j < md.length)
  (hs1:starEach [b] X.env = (false,eval b X.env) :: starEach [] X.env:=by rfl) (hs2:starEach [a,b] X.env = (false,eval a X.env) :: starEach [b] X.env:=by rfl) :
  VS X md ((md.set i m1).set j m2) lm rm (.Assign [.Tuple [.Name x px,.Name y py] kt pt] (.Tuple [a,b] k2 pt2) pos) (pPar i j (pCons pa (pCons pb pNil))) :=
 ⟨(a0I hc hN hi hj hij hx hy (iV ha.h (iV hb.h nM hs1) hs2) hw hs).imp λD σ H=>by
  rintro ⟨env,W0,H0,W,E,R,q,l⟩
  refine ⟨env,W0,H0,W,_,R,q,λx v W1 H1 g1 r1 q1=>⟨env,W0,H0,W1,_,R.step g1,q1,λy u W2 H2 g2 r2 q2=>?_⟩⟩
  refine ⟨v,u,rfl,?_⟩
  dsimp only [pNil] at q2
  rw [fX,fX] at q2
  exact l.nx _ W2 _ H2 ((R.set g1 r1 h1 l1).set g2 r2 h2 (by rw [List.length_set];exact l2)) ((g1.trans g2).ex R.ok) q2⟩
def a5A (K:PySem.W.Frag) (ta tb:TE):TE:=λσ H Q=>ta σ H λx H1=>∃ k,a1X K x H1 k /\ if k = true then Q x H1 else tb σ H1 Q
theorem a09 {X:Cx} {a b:Expr} {rest:List Expr} {ta tb:TE} {pos:Pos} (ha:PE X a ta) (hb:PE X (.BoolOp .Or (b :: rest) pos) tb):PE X (.BoolOp .Or (a :: b :: rest) pos) (a5A X.K ta tb):=by
 intro pins s σ H Q I h
 refine BoolOp_or (dX (ha pins s σ H _ I h) λv s1 ⟨x,H1,I1,r1,q1⟩=>?_)
 obtain ⟨k,t,q1⟩:=q1
 refine dX (a1E pins s1 σ H1 x v (λk' H2=>k' = k /\ H2 = H1) I1 r1 ⟨k,t,rfl,rfl⟩) λk' s2 ⟨H2,I2,e⟩=>?_
 obtain ⟨rfl,rfl⟩:=e
 cases k' with
 | true=>exact ⟨x,H2,I2,r1,q1⟩
 | false=>exact hb pins s2 σ H2 Q I2 q1
def pOrL (a b:b8):b8:=λenv Q=>a env λx=>match x with
 | .lst xs=>Br (!xs.isEmpty) (Q (.lst xs)) (b env Q)
 | _=>False
theorem a1K {X:Cx} {md:List Md} {el:El} {a b:Expr} {rest:List Expr} {pa pb:b8} {pos:Pos} (ha:VE X md a (.o el) pa) (hb:VE X md (.BoolOp .Or (b :: rest) pos) (.o el) pb):VE X md (.BoolOp .Or (a :: b :: rest) pos) (.o el) (pOrL pa pb):=⟨(a09 ha.h hb.h).imp λσ H K=>by
 rintro ⟨env,W0,H0,W,Q,R,q,k⟩
 refine ⟨env,W0,H0,W,_,R,q,λx v W1 H1 g1 r1 q1=>?_⟩
 cases x with
 | lst xs =>
  have r0:=r1
  obtain ⟨a,o,rfl,oq⟩:=r1
  have b:=oq.its
  have hat:=oq.at_
  cases b with
  | @lst us _ h =>
   have he:(!us.isEmpty) = !xs.isEmpty:=by
    have:=h.len
    cases us <;> cases xs <;> simp at this ⊢
   refine ⟨!us.isEmpty,.inl ⟨us,fN.of hat,rfl⟩,?_⟩
   rw [he]
   dsimp only at q1
   cases hb':(!xs.isEmpty) with
   | true=>rw [hb'] at q1;rw [if_pos rfl];exact k _ _ W1 H1 g1 r0 q1
   | false=>rw [hb'] at q1;rw [if_neg a0j];exact ⟨env,W0,H0,W1,Q,R.step g1,q1,k.after g1⟩
 | _=>exact q1.elim⟩
def pPutAt (i:Nat) (y:PV) (pj:b8) (Kp:bY -> Prop) (env:bY):Prop:=match kL env i with
 | some (some (.lst xs))=>pj env λj=>(match j with
  | .int k=>(match yR xs.length k with
   | some n=>Kp (kE env i (some (.lst (xs.set n y))))
   | none=>False)
  | _=>False)
 | _=>False
def pPut2 (i i':Nat) (pe pj pj':b8):bP:=λE env=>pe env λt=>match t with
 | .tup [y,z]=>pPutAt i y pj (λenv1=>pPutAt i' z pj' E.nx env1) env
 | _=>False
section
variable {X:Cx} {md lm:List Md} {rm:Md} {i i':Nat} {el el':El} {e o o' j j':Expr} {pe pj pj':b8} {p p' pt pos:Pos}
theorem RJ {W0 W1:Wd} {H0 H1:Hp} {σ:St} {env:bY} {v:V} {y:PV} {Kp:bY -> Prop} {Q:St -> Hp -> Prop} (hi:md.getD i .no = .o el) (R1:Rl X.K md W0 H0 W1 σ env H1) (r1:Rep (λ_=>False) H1 v y) (q1:pPutAt i y pj Kp env)
  (k:∀ env' W2 H2,Rl X.K md W0 H0 W2 σ env' H2 -> Ex W1 H1 W2 H2 -> Kp env' -> Q σ H2):Q0 (gH i) (i9 X.K md .bw pj) CP v σ H1 Q:=by
 unfold pPutAt at q1
 rw [nJ] at q1
 cases ev:env[i]? with
 | none=>rw [ev] at q1;exact q1.elim
 | some ox =>
  cases ox with
  | none=>rw [ev] at q1;exact q1.elim
  | some x =>
   rw [ev] at q1
   cases x with
   | lst xs =>
    obtain ⟨a,ob,sv,oq⟩:=R1.ownAt hi ev
    refine ⟨.ref a,sv,env,W0,H0,W1,_,R1,q1,λjv u W2 H2 g2 r2 q2=>?_⟩
    have R2:=R1.step g2
    obtain ⟨a2,o2,sv2,oq2⟩:=R2.ownAt hi ev
    rw [sv] at sv2;cases sv2
    cases jv with
    | int k' =>
     dsimp only at q2
     cases hn:yR xs.length k' with
     | none=>rw [hn] at q2;exact q2.elim
     | some n =>
      rw [hn] at q2
      have b:=oq2.its
      have oq3:=oq2
      have hat:=oq2.at_
      generalize o2 = oo at b hat oq3
      cases b with
      | @lst us _ h =>
       have r1':Rep (el.G W2.F H0) H2 v y:=(r1.mono (G':=λ_=>False) (λ_ z=>z) λa o z e=>(g2.ex R1.ok).im a o (z.elim (λz=>z.elim) λz=>z) e).weak λ_ z=>z.elim
       refine ⟨a,us,k',n,rfl,Rep.ofInt r2,hat,by rw [h.len];exact hn,?_⟩
       have q2:Kp (kE env i (some (PV.lst (xs.set n y)))):=q2
       rw [fX] at q2
       exact k _ W2 _ (R2.put hi ev sv (.lst (h.set r1' n)) rfl) ((g2.ex R1.ok).trans (EC (K:=X.K) (md:=md) (W0:=W0) (σ:=σ) (env:=env) (i:=i) oq3)) q2
    | _=>exact q2.elim
   | _=>exact q1.elim
theorem WX {kt:Nat} (hc:X.calm = true) (ho:QE X o (gH i)) (hi:md.getD i .no = .o el) (ho':QE X o' (gH i')) (hi':md.getD i' .no = .o el') (he:VE X md e (.v .fl) pe) (hj:VE X md j .bw pj) (hj':VE X md j' .bw pj')
  (ha:∀ v,assign (.Subscript o j p) X.env v = (do
   let ov <- holding [v] (eval o X.env)
   let iv <- holding [v,ov] (eval j X.env)
   standAt p
   holding [v,ov,iv] (setItem ov iv v)
   release [v,ov,iv] []):=by intro _;rfl)
  (ha':∀ v,assign (.Subscript o' j' p') X.env v = (do
   let ov <- holding [v] (eval o' X.env)
   let iv <- holding [v,ov] (eval j' X.env)
   standAt p'
   holding [v,ov,iv] (setItem ov iv v)
   release [v,ov,iv] []):=by intro _;rfl)
  (hg1:(assignEach [.Subscript o j p,.Subscript o' j' p'] X.env).map (·.2) = assign (.Subscript o j p) X.env :: (assignEach [.Subscript o' j' p'] X.env).map (·.2):=by rfl)
  (hg2:(assignEach [.Subscript o' j' p'] X.env).map (·.2) = assign (.Subscript o' j' p') X.env :: (assignEach [] X.env).map (·.2):=by rfl)
  (hn:(assignEach [.Subscript o j p,.Subscript o' j' p'] X.env).length = 2:=by rfl) (hst:(assignEach [.Subscript o j p,.Subscript o' j' p'] X.env).findIdx? (·.1) = none:=by rfl)
  (hs:swapsWithSole [.Tuple [.Subscript o j p,.Subscript o' j' p'] kt pt] e pos.line X.env = pure false:=by rfl) (hw:swappedStores [.Tuple [.Subscript o j p,.Subscript o' j' p'] kt pt] e X.env = pure none:=by rfl)
  (h1:(assignEach [.Tuple [.Subscript o j p,.Subscript o' j' p'] kt pt] X.env).map (·.2) = [assign (.Tuple [.Subscript o j p,.Subscript o' j' p'] kt pt) X.env]:=by rfl) :
  VS X md md lm rm (.Assign [.Tuple [.Subscript o j p,.Subscript o' j' p'] kt pt] e pos) (pPut2 i i' pe pj pj') :=
 ⟨(EB he.h (RA hc (AF (E9 ho.h hj.h vC ha) (AF (E9 ho'.h hj'.h vC ha') LH hg2) hg1) hn hst) hs hw h1).imp λD σ H=>by
 rintro ⟨env,W0,H0,W,E,R,q,l⟩
 refine ⟨env,W0,H0,W,_,R,q,λt v W1 H1 g1 r1 q1=>?_⟩
 match t,r1,q1 with
 | .tup [y,z],r1,q1 =>
  have r1':Rep (λ_=>False) H1 v (.tup [y,z]):=r1
  obtain ⟨a,vs,rfl,e,rs⟩:=r1'.ofTup
  match vs,rs,e with
  | [v1,v2],rs,e =>
   refine ⟨a,[v1,v2],rfl,mF.of e,rfl,v1,[v2],rfl,?_⟩
   refine RJ hi (R.step g1) (rs.at_ 0 v1 y rfl rfl) q1 λenv' W2 H2 R2 x2 q2=>?_
   refine ⟨v2,[],rfl,?_⟩
   have r2:Rep (λ_=>False) H2 v2 z:=(rs.at_ 1 v2 z rfl rfl).mono (λ_ z=>z) λa o z e=>x2.im a o (z.elim (λz=>z.elim) λz=>z) e
   refine RJ hi' R2 r2 q2 λenv3 W3 H3 R3 x3 q3=>⟨rfl,?_⟩
   exact l.nx env3 W3 σ H3 R3 (((g1.ex R.ok).trans x2).trans x3) q3
  | [],rs,e=>have:=rs.len;simp at this
  | [_],rs,e=>have:=rs.len;simp at this
  | _ :: _ :: _ :: _,rs,e=>have:=rs.len;simp at this⟩
end
def SI (tk tv:TE) (acc:Addr):TS:=λD σ H=>tk σ H λx H1=>tv σ H1 λy H2=>∃ k kvs,x = kV k /\ H2 acc = some (.dK kvs) /\ kvs.length < sizeLine /\ D.nx σ (c7 H2 acc (.dK (sY kvs k y)))
def P1 (k v:Expr) (acc:Value) (env:Env):Sem Unit:=do
 let kv <- eval k env
 let vv <- holding [kv] (eval v env)
 match acc with
 | .ref d=>do
  standAt { k.pos with endLine:=v.pos.endLine,endCol:=v.pos.endCol }
  holding [kv,vv] (dictSet d kv vv)
 | _=>unsupported "internal:dictcomp"
theorem V5 {Y:Cx} (hx:Y.xe = λ_ _=>False) {k v:Expr} {tk tv:TE} {acc:Addr} (hk:PE Y k tk) (hv:PE Y v tv):PB Y (P1 k v (.ref acc) Y.env) (SI tk tv acc):=by
 intro pins s σ H D I h
 have h0:=hk pins s σ H _ I h
 rw [hx] at h0
 unfold P1
 refine a0a (a1a h0 (λkv s1 h1=>?_) λ_ _ z=>z)
 obtain ⟨x,H1,I1,r1,q1⟩:=h1
 have h1:=hv pins s1 σ H1 _ I1 q1
 rw [hx] at h1
 refine a0a (a1s (a1a h1 (λvv s2 h2=>?_) λ_ _ z=>z))
 obtain ⟨y,H2,I2,r2,kk,kvs,rfl,ha,hl,q2⟩:=h2
 refine a0a (a3h (a1s ?_))
 obtain ⟨z,hd,vs,rel,dd⟩:=X4 I2.hok ha
 have hz:vs.length <= sizeLine:=by rw [<- rel.length];exact z
 have hl2:(sY kvs kk y).length <= sizeLine:=by have:=oZ kvs kk y;omega
 refine wpAny_dictSet_pairs (hsz:=hz) (FY r1) dd λh' dd' hs=>⟨σ,_,?_,q2⟩
 have he:∃ q,h'.get? acc = some q:=let ⟨q,_,_,hq,_⟩:=dd';⟨q,hq⟩
 exact DA I2 (by rw [ha];exact True.intro) hs he (P5 hl2 hd (rel.put kk r2) dd')
def a5Q (wi:TI) (g:TG) (tt:TT) (tk tv:TE) (n:Nat) (cap:List Nat):TE:=λσ H Q=>wi σ H λJ H1=>∀ acc,H1 acc = none ->
 tK J g (O0 tt (SI tk tv acc)) { nx:=λ_ H'=>Q (.ref acc) H',rt:=λ_ _=>False } (JB n cap σ) (c7 H1 acc (.dK []))
section
variable {X:Cx} {kx vx target iter:Expr} {ifs:List Expr} {scope:Scope} {pos:Pos} {N':List Str} {n:Nat} {cap:List Nat} {wi:TI} {g:TG} {tt:TT} {tk tv:TE}
theorem RC {x:Str} {pos' pos2:Pos} {gg:TG} (hgx:PG X (.Name x pos') gg) (hsw:swapsWith (.DictComp kx vx [⟨target,iter,ifs,0⟩] scope pos) (some (.Name x pos')) pos2.line X.env = pure true) (hc:X.calm = true) (S:LcOk X.N X.env.scope scope N' n cap) (hi:PI X target iter wi) (hg:∀ C s H fp,PG (bJ X N' scope C s H fp) target g)
    (ht:∀ C s H fp,O7 (bJ X N' scope C s H fp) ifs tt) (hk:∀ C s H fp,PE (bJ X N' scope C s H fp) kx tk) (hv:∀ C s H fp,PE (bJ X N' scope C s H fp) vx tv) (hs:∀ x,foldedSetIterable iter X.env x = pure x:=by intro _;rfl) :
    PS X (.Assign [.Name x pos'] (.DictComp kx vx [⟨target,iter,ifs,0⟩] scope pos) pos2) (HZ (a5Q wi g tt tk tv n cap) gg):=by
  intro pins s σ H D I h
  have hfree:∀ y ∈ scope.names,y.2 = .free -> ∃ c,X.env.cells.lookup y.1 = some c:=λy hy e=>I.ok.has y.1 (.inl (S.frees y hy e))
  rw [exec_Assign_Name_used x pos' _ pos2 hsw]
  refine a0a (a3h (a0a ?_))
  rw [arm_evalThenUse_DictComp]
  refine a0a ?_
  refine a4k (use:=some (assign (.Name x pos') X.env)) (Q:=λ_ s'=>wpAny (model X.prog X.w) X.A (pure ()) (λ_ s'=>wpAny (model X.prog X.w) X.A (pure Flow.next) (SP X pins D) X.xe s') X.xe s') rfl hs (mN hfree) S.kind S.names ?_
  refine dX (hi pins s σ H _ I h) λv s1 h1=>dX h1 λitv s2 h2=>?_
  obtain ⟨it,fp,tn,J,H2,rfl,I2,T,st2,f2,body⟩:=h2
  refine a1m ?_
  have I3:Inv X pins σ (c7 H2 s2.heap.objs.size (.dK [])) { s2 with heap:=s2.heap.push { cls:=.type "dict",dict:=none,data:=.dict #[] } }:=I2.laid (a:=s2.heap.objs.size) (o:=.dK []) (t':=s2.toks) (λ_ _ q=>a0e _ q) (a0l _) (FP s2.heap I2.big)
  have hacc:H2 s2.heap.objs.size = none:=I2.fresh
  have body:=body _ hacc
  have hlt:∀ b ∈ fp,b < s2.heap.objs.size:=λb hb=>by
    obtain ⟨o,e,_⟩:=T.obj 0 _ st2 b hb
    exact a0m e
  have hf3:∀ b ∈ fp,lB X pins (c7 H2 s2.heap.objs.size (.dK [])) b:=λb hb =>
    ⟨by rw [aG (a0r (hlt b hb))];exact (f2 b hb).1,(f2 b hb).2⟩
  refine a5d S.nocell (by intro y hy;cases hy) (λh4 ns4 sb4=>?_) S.kind
  generalize hs3:({ s2 with heap:=s2.heap.push { cls:=.type "dict",dict:=none,data:=.dict #[] } }:Shared) = s3 at *
  have hsz:s2.heap.objs.size < s3.heap.objs.size:=by rw [<- hs3,a2v];exact a2z _
  have k4:∀ b o,s3.heap.get? b = some o -> h4.get? b = some o:=λb o e=>(sb4.2 b (a0r (a0m e))).trans (a0e _ e)
  generalize hH3:c7 H2 s2.heap.objs.size (.dK []) = H3 at *
  have I3':Inv X pins σ H3 s3:=I3
  have IY:=uD (tk:=s3.toks + ([]:List (Str × Value)).length) S I3' hf3 (λb hb=>a2h (hlt b hb) hsz) ns4 k4
  have fpY:∀ b ∈ fp,lB (bJ X N' scope s3.heap.objs.size s3 H3 fp) [] H3 b:=λb hb=>by
    obtain ⟨f0,f1,f2',f3,f4,f5⟩:=hf3 b hb
    refine ⟨f0,a0r (a2h (hlt b hb) hsz),λz=>?_,.inl hb,λx c e=>f4 x c (oH hfree e),λp hp=>absurd hp (by simp [bJ])⟩
    rcases a0q.mp (I3'.stkSub b z) with z | z
    · exact f1 z
    · exact f2' z
  have tn4:tn 0 h4:=T.keep 0 _ _ st2 λb hb o e=>k4 b o (by rw [<- hs3];exact a0e _ e)
  have loop:codeAny (model X.prog X.w) X.A (.compLoop (.DictComp kx vx [⟨target,iter,ifs,0⟩] scope pos) 0 (.ref it) (.ref s2.heap.objs.size) (bJ X N' scope s3.heap.objs.size s3 H3 fp).env)
      (compPost (model X.prog X.w) X.A X.xe (some (assign (.Name x pos') X.env)) (λ_ s'=>wpAny (model X.prog X.w) X.A (pure ()) (λ_ s'=>wpAny (model X.prog X.w) X.A (pure Flow.next) (SP X pins D) X.xe s') X.xe s') (.ref s2.heap.objs.size) s3.heap.objs.size) { s3 with heap:=h4,toks:=s3.toks + ([]:List (Str × Value)).length }:=by
    refine zF (Y:=bJ X N' scope s3.heap.objs.size s3 H3 fp) (act:=P1 kx vx (.ref s2.heap.objs.size) (bJ X N' scope s3.heap.objs.size s3 H3 fp).env) (.dict _ _ _ _ _) hc rfl rfl (hg _ _ _ _) (ht _ _ _ _) (V5 rfl (hk _ _ _ _) (hv _ _ _ _)) T IY tn4 fpY body λi σ5 H5 s6 I6 qn=>?_
    obtain ⟨m,hn,_⟩:=I6.loc
    have hs':Heap.SameBut s3.heap.objs.size s6.heap s6.heap:=⟨rfl,λ_ _=>rfl⟩
    have IX:Inv X pins σ H5 s6:=by
      have ub:=I6.base
      have ne:∀ b o,s3.heap.get? b = some o -> b ≠ s3.heap.objs.size:=λb o e=>a0r (a0m e)
      refine I3'.call' (s':=s6) (ch:=fp) I6.os ⟨λb o e z1 z2 z3=>(hs'.2 b (ne b o e)).trans (ub.keep b o e z1 z2 z3),λb o e z1 z2 z3=>?_,ub.free,λb o e z=>?_,ub.tups,ub.frzs,ub.tbls⟩ (yQ I6.hok I6.free hs') I6.bare λb hb=>⟨(hf3 b hb).2.2.2.1,(hf3 b hb).2.1,(hf3 b hb).2.2.2.2.1,(hf3 b hb).2.2.2.2.2⟩
      · obtain ⟨sl,e'⟩:=ub.slot b o e z1 z2 z3
        exact ⟨sl,(hs'.2 b (ne b o e)).trans e'⟩
      · obtain ⟨o',e'⟩:=ub.there b o e z
        exact ⟨o',(hs'.2 b (ne b o e)).trans e'⟩
    have fC:lB X pins H5 s3.heap.objs.size:=I3'.fpOk (a0l _) I6.free
    have IXp := IX.pinned (fp := [s3.heap.objs.size]) (fun b hb => by have e : b = s3.heap.objs.size := by simpa using hb
                                                                      subst e;exact fC) (λb hb=>by
      have e:b = s3.heap.objs.size:=by simpa using hb
      subst e
      obtain ⟨o,es,ep,ho,hd,_⟩:=hn
      exact ⟨o,ho,λv z=>by rw [hd] at z;cases z⟩)
    show wpAny _ _ (assign (.Name x pos') X.env (.ref s2.heap.objs.size)) _ _ s6
    refine dX (hgx _ s6 σ H5 (.ref s2.heap.objs.size) (.ref s2.heap.objs.size) _ IXp rfl qn) λ_ s7 h7=>?_
    obtain ⟨σ7,H7,I7,q7⟩:=h7
    obtain ⟨o,es,ep,ho,hd⟩:=id hn
    have z:=I7.pin (s3.heap.objs.size,o) (a0w _ (a0w _ (g9 (by simp) ho)))
    refine ⟨m,⟨o,es,ep,z.1,hd⟩,λh' hs'=>a0c (a0c ⟨σ7,H7,?_,q7⟩)⟩
    obtain ⟨f0,f1,f2,f3,f4,f5⟩:=fC
    exact I7.unpinned.turned (t':=s7.toks) (it:=s3.heap.objs.size) (λb o hb e=>(hs'.2 b hb).trans e) z.2.1 f1 f3 f4 f5
  exact lH (.dict _ _ _ _ _) rfl loop (T.self _ 0 _ _ _ tn4 loop)
end
def BL (g:lC) (tt:jB) (tk tv:b8) (Q:PV -> Prop):List PV -> List cK -> List PV -> bY -> Prop
 | [],ks,xs,_=>Q (.dic ks xs)
 | i :: r,ks,xs,env=>g i env λenv1=>tt env1 λb=>Br b (tk env1 λx=>tv env1 λy=>match OA x with
   | some k=>ks.length < 1000 /\ BL g tt tk tv Q r (MW ks k) (IE ks xs k y) env1
   | none=>False) (BL g tt tk tv Q r ks xs env1)
def pDc (s:rT) (g:lC) (tt:jB) (tk tv:b8) (cp:bY -> bY):b8:=λenv Q=>s env λitems=>BL g tt tk tv Q items [] [] (cp env)
structure DicIn (acc:Addr) (H0:Hp) (W:Wd) (H:Hp) (ks:List cK) (xs:List PV):Prop where
 ex:∃ vs,H acc = some (.dK (ks.zip vs)) /\ ks.length = vs.length /\ Reps (λ_=>False) H vs xs
 new:H0 acc = none
 nF:¬ W.F acc
 nS:¬ W.S acc
 nL:¬ W.L acc
theorem DicIn.go {acc:Addr} {H0:Hp} {W W':Wd} {H H':Hp} {ks:List cK} {xs:List PV} (x:DicIn acc H0 W H ks xs) (w:Wok W H) (g:Go W H W' H'):DicIn acc H0 W' H' ks xs:=by
 obtain ⟨vs,h1,h2,h3⟩:=x.ex
 exact ⟨⟨vs,g.kp acc _ h1 x.nS,h2,h3.mono (λ_ z=>z) λa o z e=>g.kp a o e (w.imm e (z.elim (λz=>z.elim) λz=>z))⟩,x.new,g.nFF h1 x.nF,g.nSS h1 x.nS,by rw [g.kl];exact x.nL⟩
theorem TX {K:PySem.W.Frag} {mb m1:List Md} {eli:El} {g:lC} {tt:jB} {tk tv:b8} {acc:Addr} {J:It} {items:List PV} {W0 W1:Wd} {H0 H1:Hp} {Q:PV -> Prop} {D:Ends} (hle:n0 m1 mb = true) (hbl:qU m1 = true) (sr:Src J eli H0 W1 H1 items)
  {σ:St} {env:bY} {ks:List cK} {xs:List PV} (q:BL g tt tk tv Q items ks xs env) {W2:Wd} {H2:Hp} (R:Rl K mb W0 H0 W2 σ env H2) (x12:Ex W1 H1 W2 H2) (x:DicIn acc H0 W2 H2 ks xs)
  (k:∀ (env':bY) (W':Wd) (σ':St) (H':Hp) (ks':List cK) (xs':List PV),Rl K mb W0 H0 W' σ' env' H' -> Ga acc W2 H2 W' H' -> DicIn acc H0 W' H' ks' xs' -> Q (.dic ks' xs') -> D.nx σ' H') :
  tK J (A0 K mb m1 eli g) (O0 (xJ K m1 tt) (SI (i9 K m1 .bw tk) (i9 K m1 (.v .fl) tv) acc)) D σ H2:=by
 refine ⟨λi m σb Hb=>m = items.length - i /\ i <= items.length /\ ∃ (envb:bY) (Wb:Wd) (kb:List cK) (xb:List PV),Rl K mb W0 H0 Wb σb envb Hb /\ Ga acc W2 H2 Wb Hb /\ DicIn acc H0 Wb Hb kb xb /\ BL g tt tk tv Q (items.drop i) kb xb envb,
  ⟨items.length,by simp,a2u _,env,W2,ks,xs,R,.refl,x,by simpa using q⟩,?_⟩
 rintro i m σb Hb ⟨rfl,hi,envb,Wb,kb,xb,Rb,gab,ib,qb⟩
 have exb:Ex W1 H1 Wb Hb:=x12.trans gab.ex
 by_cases hlt:i < items.length
 ·rw [a3k hlt] at qb
  refine .inr ⟨sr.go i Wb Hb exb hlt,λσ' H'=>i + 1 <= items.length /\ ∃ (envb:bY) (Wb:Wd) (kb:List cK) (xb:List PV),Rl K mb W0 H0 Wb σ' envb H' /\ Ga acc W2 H2 Wb H' /\ DicIn acc H0 Wb H' kb xb /\ BL g tt tk tv Q (items.drop (i + 1)) kb xb envb,λσ' H' z=>⟨items.length - (i + 1),by omega,rfl,z.1,z.2⟩,λv H3 y=>?_⟩
  obtain ⟨g3,xx,ex,rx⟩:=sr.yld i Wb Hb v H3 exb Rb.ok hlt y
  rw [a0b hlt] at ex
  cases ex
  refine ⟨envb,W0,H0,Wb,_,_,Rb.step g3,rx,qb,λenv' σ' R' z=>?_⟩
  refine ⟨env',W0,H0,Wb,_,R',z,λkk W4 H4 g4 q4=>?_⟩
  have x4:=(ib.go Rb.ok g3).go g3.ok g4
  have ga4:Ga acc W2 H2 W4 H4:=(gab.trans (g3.toGa Rb.ok)).trans (g4.toGa g3.ok)
  cases kk with
  | false =>
   dsimp only
   rw [if_neg a0j]
   exact ⟨hlt,env',W4,kb,xb,(R'.step g4).less hle,ga4,x4,q4⟩
  | true =>
   dsimp only
   rw [if_pos rfl]
   have R4:=R'.step g4
   refine ⟨env',W0,H0,W4,_,R4,q4,λkp u W5 H5 g5 r5 q5=>⟨env',W0,H0,W5,_,R4.step g5,q5,λyp u2 W6 H6 g6 r6 q6=>?_⟩⟩
   cases hk:OA kp with
   | none=>rw [hk] at q6;exact q6.elim
   | some kk =>
    rw [hk] at q6
    obtain ⟨hlen,q6⟩:=q6
    have hu:u = kV kk:=L4 (S:=λ_=>True) hk r5
    subst hu
    have x6:=(x4.go R4.ok g5).go g5.ok g6
    obtain ⟨vs,h1,h2,h3⟩:=x6.ex
    refine ⟨kk,_,rfl,h1,by rw [a6b,<- h2,Nat.min_self];exact a2h hlen (by decide),hlt,env',W6,MW kb kk,IE kb xb kk yp,?_⟩
    rw [LO h2]
    have R6:=(R4.step g5).step g6
    have keep:∀ a o,(False \/ o.imm = true) -> H6 a = some o -> (c7 H6 acc (.dK ((MW kb kk).zip (IE kb vs kk u2)))) a = some o:=λa o z e=>by
     rw [aG (λz2=>by subst z2;rw [h1] at e;cases e;exact z.elim (λz=>z) λz=>by cases z)];exact e
    refine ⟨(R6.tmp hbl x6.new x6.nF x6.nS x6.nL h1 rfl (λ_ _ z=>by cases z)).less hle,?_,⟨⟨_,bK,KP h2 kk u2,?_⟩,x6.new,x6.nF,x6.nS,x6.nL⟩,q6⟩
    ·refine (ga4.trans ((g5.trans g6).toGa R4.ok)).trans ⟨λV G hG g=>g.tmp hG x6.nF x6.nS,⟨λ_ h=>h,λb o f e=>by rw [aG (λz=>by subst z;exact x6.nF f)];exact e,λb o im e=>keep b o (.inr im) e⟩⟩
    ·exact (h3.dput kk r6).mono (λ_ z=>z) λa o z e=>keep a o z e
 ·have e:i = items.length:=by omega
  subst e
  rw [a5y] at qb
  exact .inl ⟨sr.stop Wb Hb exb,k envb Wb σb Hb kb xb Rb gab ib qb⟩
theorem TV {K:PySem.W.Frag} {md mb:List Md} {eli:El} {s:rT} {g:lC} {tt:jB} {tk tv:b8} {n:Nat} {cap:List Nat} {σ:St} {H:Hp} {Q:VK} {cp:bY -> bY} (hcp:∀ env,cp env = AE n cap env) (hle:n0 mb (kA n cap md) = true) (hbl:qU mb = true)
  (h:i9 K md (.o .fl) (pDc s g tt tk tv cp) σ H Q):a5Q (CJ K md eli s) (A0 K (kA n cap md) mb eli g) (xJ K mb tt) (i9 K mb .bw tk) (i9 K mb (.v .fl) tv) n cap σ H Q:=by
 obtain ⟨env,W0,H0,W,Q',R,q,k⟩:=h
 refine ⟨env,W0,H0,W,_,R,q,λitems W1 H1 J g1 sr q1=>?_⟩
 intro acc hacc
 rw [hcp] at q1
 have h0acc:H0 acc = none:=R.go.free (g1.free hacc)
 have R1:=R.step g1
 have Rb:=JX (n:=n) (cap:=cap) R1 (λa=>∃ o,H1 a = some o) (λa o e=>⟨o,e⟩)
 generalize hW1b:({ W1 with L:=λa=>∃ o,H1 a = some o }:Wd) = W1b at Rb
 generalize hW0b:({ W0 with L:=λa=>∃ o,H1 a = some o }:Wd) = W0b at Rb
 have f1:W1b.F = W1.F:=by rw [<- hW1b]
 have s1:W1b.S = W1.S:=by rw [<- hW1b]
 have l1:¬ W1b.L acc:=by rw [<- hW1b];rintro ⟨o,e⟩;rw [hacc] at e;cases e
 have okb:Wok W1b H1:=Rb.ok
 have nF1:¬ W1b.F acc:=λz=>okb.offF hacc z
 have nS1:¬ W1b.S acc:=λz=>okb.offS hacc z
 have gl:Go W1b H1 W1b (c7 H1 acc (.dK [])):=Go.laid okb hacc
 have exW:Ex W1 H1 W1b (c7 H1 acc (.dK [])):=by
  have x:=gl.ex okb
  exact ⟨λa h=>by rw [f1];exact h,λa o h e=>x.kp a o (by rw [f1];exact h) e,x.im⟩
 refine TX hle hbl sr q1 (Rb.step gl) exW ⟨⟨[],bK,rfl,.nil⟩,h0acc,nF1,nS1,l1⟩ λenvb Wb σb Hb kb xb Rr ga x qb=>?_
 have gb:Go W1b H1 Wb Hb:=ga.ga W1b H1 hacc gl
 have gf:Go W H { Wb with L:=W.L } Hb:=by
  have a:=g1
  refine ⟨λb h=>gb.lF b (by rw [f1];exact a.lF b h),λb h=>gb.lS b (by rw [s1];exact a.lS b h),λb h=>?_,λb h=>?_,λb o e s=>?_,⟨gb.ok.fF,gb.ok.sS,gb.ok.dj⟩,?_,rfl⟩
  ·rcases gb.nF b h with z | z
   ·exact a.nF b (by rw [<- f1];exact z)
   ·exact .inr (a.free z)
  ·rcases gb.nS b h with z | z
   ·exact a.nS b (by rw [<- s1];exact z)
   ·exact .inr (a.free z)
  ·refine gb.kp b o (a.kp b o e s) ?_
   rw [s1];exact a.nSS e s
  ·show Wb.K = W.K
   rw [gb.kk,<- hW1b];exact a.kk
 obtain ⟨vs,h1,h2,h3⟩:=x.ex
 refine k _ (.ref acc) { Wb with L:=W.L } Hb gf ⟨acc,.dK (kb.zip vs),rfl,?_⟩ qb
 exact ⟨g1.free hacc,x.nF,x.nS,h1,.dic h2 (h3.weak λ_ z=>z.elim)⟩
section
variable {X:Cx} {kx vx target iter:Expr} {ifs:List Expr} {scope:Scope} {pos pos2 pos':Pos} {N':List Str} {n i:Nat} {x:Str} {cap:List Nat} {md mb lm:List Md} {rm:Md} {eli:El} {s:rT} {g:lC} {tt:jB} {tk tv:b8}
theorem SY {cp:bY -> bY} (hN:X.N.Nodup) (hix:X.N[i]? = some x) (hx:O6 X.env.scope x) (hsw:swapsWith (.DictComp kx vx [⟨target,iter,ifs,0⟩] scope pos) (some (.Name x pos')) pos2.line X.env = pure true) (hf:X.fn x = true \/ X.env.scope.names.lookup x = some .local)
  (hm:m4 (md.set i (.o .fl)) = true) (hl:i < md.length)
  (hcp:∀ env,cp env = AE n cap env) (hc:X.calm = true) (S:LcOk X.N X.env.scope scope N' n cap) (hle:n0 mb (kA n cap md) = true) (hbl:qU mb = true) (hi:VI X md eli target iter s) (hg:∀ C s H fp,VG (bJ X N' scope C s H fp) (kA n cap md) mb eli target g)
  (ht:∀ C s H fp,VTs (bJ X N' scope C s H fp) mb ifs tt) (hk:∀ C s H fp,VE (bJ X N' scope C s H fp) mb kx .bw tk) (hv:∀ C s H fp,VE (bJ X N' scope C s H fp) mb vx (.v .fl) tv) (hs:∀ x,foldedSetIterable iter X.env x = pure x:=by intro _;rfl) :
  VS X md (md.set i (.o .fl)) lm rm (.Assign [.Name x pos'] (.DictComp kx vx [⟨target,iter,ifs,0⟩] scope pos) pos2) (pSet i (pDc s g tt tk tv cp)) :=
 ⟨(RC (yT hN hix hx hf) hsw hc S hi.h (λC s H fp=>(hg C s H fp).h) (λC s H fp=>(ht C s H fp).h) (λC s H fp=>(hk C s H fp).h) (λC s H fp=>(hv C s H fp).h) hs).imp λD σ H=>by
 rintro ⟨env,W0,H0,W,E,R,q,l⟩
 refine TV hcp hle hbl ⟨env,W0,H0,W,_,R,q,λx v W1 H1 g1 r1 q1=>?_⟩
 rw [fX] at q1
 exact l.nx _ W1 _ H1 (R.set g1 r1 hm hl) (g1.ex R.ok) q1⟩
end
section
variable {prog:Program} {w:World} {A:Around} {E:Value -> Shared -> Prop} {s:Shared}
abbrev bG (w:World):Obj:={ cls:=.type "set",dict:=none,data:=.set #[] 0 (.fresh 0 0 (!w.params.followText "set-order")) }
theorem KY {h:Heap} {a:Addr} (e:h.get? a = some (bG w)):c6 prog w a (λ_=>false) 0 h:=by
 refine ⟨_,#[],0,_,e,⟨rfl,rfl,rfl⟩,rfl,λe he=>by simp at he,λk=>by simp,by decide,by rfl,rfl,?_,by simp⟩
 cases w.params.followText "set-order" with
 | true=>exact .inl rfl
 | false=>exact .inr ⟨rfl,λ_=>List.Pairwise.nil⟩
theorem zE (a:Value) {Q₁:Value -> Shared -> Prop}
  (h:Q₁ (.ref s.heap.objs.size) { s with heap:=s.heap.push (bG w) }) :
  codeAny (model prog w) A (.call (.builtin "set.__new__") ⟨[.type "set",a],[]⟩) (wants Q₁ E) s:=by
 refine codeAny_of_tree ?_
 show wpAny _ A.in1 (do checkBuiltinCall "set.__new__" ⟨[.type "set",a],[]⟩;again (.builtin "set.__new__" ⟨[.type "set",a],[]⟩)) _ _ s
 refine a0a (a5r (F.newCall_set_1 a) (a0c ⟨a5u F.plain_set_new _,a3o F.entry_set_new ?_⟩))
 rw [a3c F.plain_set_new _]
 unfold Builtin.«set.__new__» Builtin.Frozenset.newClass
 have hsub:=sub_set_self
 obtain ⟨hp,g,d,tk,os⟩:=s
 dsimp only
 wp_walk
 refine a3t (a0c ?_)
 dsimp only
 simp only [newObj]
 refine a0a (wpAny_alloc (a0c ?_))
 exact a0c h
section
variable {R:Result -> Shared -> Prop} {I:Addr} {fp wr:List Addr} {G:Array GenState -> Array GenState -> Prop} {n:Nat} {P:Nat -> Value -> Prop} {St:Nat -> Shared -> Prop}
theorem c6.congr {a:Addr} {S S':Int -> Bool} {n n':Nat} {h:Heap} (x:c6 prog w a S n h) (e:∀ k,S k = S' k) (en:n = n'):c6 prog w a S' n' h:=by
 have:S = S':=funext e
 subst this;subst en;exact x
theorem EV (W:WalksS prog w A.in1 I fp wr G n P St) (S:Addr) (hSf:S ∉ fp)
  (val:Nat -> Int) (hval:∀ i v,P i v -> ∃ t,v = .int (val i) t) (hb:n + 1 < scanBound) :
  ∀ (k i:Nat) (s:Shared),n - i = k -> i <= n -> St i s ->
   c6 prog w S (λk'=>(firstMet val i).any (· == k')) (firstMet val i).length s.heap ->
   (∀ s',Moved (S :: wr) G s s' -> c6 prog w S (λk'=>(firstMet val n).any (· == k')) (firstMet val n).length s'.heap -> R (.ok (.ret .none)) s') ->
   codeAny (model prog w) A (.builtin "set.update.loop" ⟨[.ref S,.ref I],[]⟩) R s:=by
 have hSw:S ∉ wr:=λh=>hSf (W.sub _ h)
 have hsub:∀ b ∈ wr,b ∈ S :: wr:=λb hb=>a0i _ hb
 intro k
 induction k with
 | zero =>
  intro i s hk hi hst hS hR
  have hin:i = n:=by omega
  subst hin
  refine a3o F.entry_set_update_loop ?_
  rw [a3c a5l _]
  show wpAny _ A.in1 (pyNext (.ref I) >>= _) _ _ s
  refine a0a (W.done s _ _ hst λs' hm=>?_)
  show wpAny _ A.in1 (ret Value.none) _ _ s'
  exact a0c (hR s' (hm.mono hsub) (hS.mono λo e=>hm.heap S _ hSw e))
 | succ k ih =>
  intro i s hk hi hst hS hR
  have hlt:i < n:=by omega
  refine a3o F.entry_set_update_loop ?_
  rw [a3c a5l _]
  show wpAny _ A.in1 (pyNext (.ref I) >>= _) _ _ s
  refine a0a (W.item i s _ _ hlt hst λv s' hP hst' hm=>?_)
  obtain ⟨t,rfl⟩:=hval i v hP
  have hS':c6 prog w S (λk'=>(firstMet val i).any (· == k')) (firstMet val i).length s'.heap:=hS.mono λo e=>hm.heap S _ hSw e
  show wpAny _ A.in1 (holding [Value.int (val i) t] (setAdd S (.int (val i) t)) >>= _) _ _ s'
  refine a0a (a1s ?_)
  unfold setAdd
  refine a1s ?_
  refine a0a ((intKind prog w).pyHash (k:=val i) (intKind_is _ _ _ _) ?_)
  have hroom:(firstMet val i).length + 1 < scanBound:=by have:=firstMet_length_le val i;omega
  refine oG (s:={ s' with toks:=s'.toks + 1 }) (intKind_is _ _ _ _) rfl hS' hroom λh' hsb hS2=>?_
  have hSi:c6 prog w S (λk'=>(firstMet val (i + 1)).any (· == k')) (firstMet val (i + 1)).length h' :=
   hS2.congr (λk'=>by rw [firstMet_succ,step_any]) (by rw [firstMet_succ,step_length])
  refine a0c ⟨a5u a5l _,ih (i + 1) _ (by omega) hlt (W.frame _ s' _ _ hst' (Nat.le_succ _) λb hb o e=>?_) hSi λs'' hm'' hS''=>?_⟩
  ·rw [hsb.2 b (λh:b = S=>hSf (by rw [<- h];exact hb))];exact e
  ·refine hR s'' (Moved.trans W.gtrans ((hm.mono hsub).then_heap (Nat.le_succ _) λb o hb e=>?_) hm'') hS''
   rw [hsb.2 b (λh:b = S=>hb (by rw [h];exact a0n))];exact e
end
end
end L2
namespace PySem
section
variable {prog:Program} {w:World} {A:Around} {E:Value -> Shared -> Prop} {s:Shared}
set_option maxHeartbeats 3200000 in
theorem call_set_list_x {l:Addr} {items:Array Value} {ns:List Int} {Q:Value -> Shared -> Prop}
  (hh:A.handled = none) (hl:s.heap.IsList l items) (hi:PyProof.Rows.IntsAre items.toList ns) (hb:items.size + 1 < scanBound)
  (h:∀ (h':Heap) (tk:Nat),L2.c6 prog w s.heap.objs.size (λk'=>(PyProof.Rows.firstMet (λi=>ns.getD i 0) items.size).any (· == k')) (PyProof.Rows.firstMet (λi=>ns.getD i 0) items.size).length h' ->
   (∀ b o,b < s.heap.objs.size -> s.heap.get? b = some o -> h'.get? b = some o) -> Q (.ref s.heap.objs.size) { s with heap:=h',toks:=tk }) :
  wpAny (model prog w) A (call (.type "set") [.ref l]) Q E s:=by
 obtain ⟨c,tl,hmro⟩:=a4l.mro
 have hmade:=a4l.made
 have hsub:=a4l.sub
 refine wpAny_call (codeAny_of_tree ?_)
 show wpAny _ _ (callAny (.type "set") _) _ _ _
 refine a0c ⟨Code.quiet_builtin _ (by decide +kernel),a3o F.entry_type_call ?_⟩
 rw [Around.under_plain (weight_type_call_type "set" [.ref l] []) rfl]
 have h1:=a4l.notType
 have h2:=a4l.canCreate
 have hct:=F.typeCall_set_1 (.ref l)
 repeat (any_goals (first | assumption | wp_step))
 refine a5h (L2.zE (w:=w) (.ref l) (E:=E) (Q₁:=λobj s₁=>obj = .ref s.heap.objs.size /\ s₁ = { s with heap:=s.heap.push (L2.bG w) }) ⟨rfl,rfl⟩) λr s₁ hr=>?_
 cases r with
 | error e=>exact hr
 | ok fl =>
  cases fl with
  | ret obj =>
   obtain ⟨rfl,rfl⟩:=hr
   have hS:(s.heap.push (L2.bG w)).get? s.heap.objs.size = some (L2.bG w):=a0y _ rfl
   have hT:Shared.TypeIs { s with heap:=s.heap.push (L2.bG w) } (.ref s.heap.objs.size) "set" := ⟨_,hS,rfl⟩
   have hli:=a4l.init.lookup
   have hbi:=a4l.init.bind (.ref s.heap.objs.size)
   repeat (any_goals (first | assumption | wp_step))
   refine a5h (codeAny_call_builtin (R:=wants (λr s₂=>r = .none /\ ∃ h' tk,s₂ = { s with heap:=h',toks:=tk } /\
     L2.c6 prog w s.heap.objs.size (λk'=>(PyProof.Rows.firstMet (λi=>ns.getD i 0) items.size).any (· == k')) (PyProof.Rows.firstMet (λi=>ns.getD i 0) items.size).length h' /\
     (∀ b o,b < s.heap.objs.size -> s.heap.get? b = some o -> h'.get? b = some o)) E) a4l.init.plain F.entry_set_init (check_set_init_1 hT ?_)) λr₂ s₂ hr₂=>?_
   ·obtain ⟨ol,hol,hcl,nl,hdl⟩:=hl
    obtain ⟨ocls,odict,odata,oslots⟩:=ol
    simp only at hcl hdl
    subst hcl;subst hdl
    have hol':(s.heap.push (L2.bG w)).get? l = some { cls:=.type "list",dict:=odict,data:=.seq items nl,slots:=oslots }:=a0e _ hol
    have hsls:=F.sub_list_set
    have hslf:=F.sub_list_frozenset
    have hne:(Value.type "list" == Value.type "dict") = false:=by decide
    have hl1:(s.heap.push (L2.bG w)).IsList l items:=⟨_,hol',rfl,nl,rfl⟩
    unfold Builtin.«set.__init__» noKeywords Builtin.Frozenset.updateFrom
    generalize hPI:pyIter = PI
    wp_walk
    subst hPI
    refine wpAny_pyIter_list hl1 ?_
    refine a0a (wpAny_runValue ?_)
    have hlS:l < s.heap.objs.size:=a0m hol
    have hh3:A.in1.in1.in1.handled = none:=by simp [hh]
    have hneI:l ≠ (s.heap.push (L2.bG w)).objs.size:=by
     rw [a2v];exact a0r (Nat.lt_succ_of_lt hlS)
    have hSf:s.heap.objs.size ∉ [(s.heap.push (L2.bG w)).objs.size,l]:=by
     rw [a2v];simp only [a0q,a5k,a1y,a3u,not_or]
     exact ⟨a0r (a2z _),a4z hlS⟩
    have hval:∀ (i:Nat) (v:Value),items[i]? = some v -> ∃ t,v = .int ((λi=>ns.getD i 0) i) t:=λi v hv =>
     PyProof.Rows.IntsAre.int_at hi i v (by rw [a2n];exact hv)
    refine L2.EV ((Walks.list hh3 _ l hneI items).toS) s.heap.objs.size
     hSf (λi=>ns.getD i 0) hval hb (items.size - 0) 0 _ (by omega) (a2u _)
     ⟨⟨_,a0y _ rfl,rfl,rfl⟩,(hl1.push _)⟩ ?hS0 ?hR
    case hS0 =>
     have hget:((s.heap.push (L2.bG w)).push { cls:=.type "list_iterator",data:=.fields #[.ref l,.int 0 0] }).get? s.heap.objs.size
       = some (L2.bG w):=a0e _ hS
     exact (L2.KY hget).congr (λ_=>rfl) rfl
    case hR =>
     intro s' hm hS'
     obtain ⟨h',g',d',tk',os'⟩:=s'
     have eg:g' = s.gens:=hm.gens
     have ed:d' = s.drawn:=hm.drawn
     have eo:os' = s.os:=hm.os
     subst eg;subst ed;subst eo
     show wpAny _ _ _ _ _ _
     refine a0c ?_
     show wpAny _ _ (ret Value.none) _ _ _
     refine a0c ⟨rfl,h',tk',rfl,hS',λb o hb e=>?_⟩
     have hb1:b ≠ s.heap.objs.size:=a0r hb
     have hb2:b ≠ (s.heap.push (L2.bG w)).objs.size:=by
      rw [a2v];exact a0r (Nat.lt_succ_of_lt hb)
     exact hm.heap b o (by simp only [a0q,a5k,a1y,a3u,not_or];exact ⟨hb1,hb2⟩) (a0e _ (a0e _ e))
   ·cases r₂ with
    | error e=>exact hr₂
    | ok fl₂ =>
     cases fl₂ with
     | ret r =>
      obtain ⟨rfl,h',tk,rfl,hS',hk'⟩:=hr₂
      repeat (any_goals (first | assumption | wp_step))
      exact h _ _ hS' hk'
     | _=>exact hr₂.elim
  | _=>exact hr.elim
end
end PySem
namespace L2
open PySem PySem.Spec PyProof.Rows
theorem FT {α β:Type} {f f':α -> Option β}:∀ {l:List α},(∀ a ∈ l,f' a = f a) -> l.filterMap f' = l.filterMap f
 | [],_=>rfl
 | a :: l,h=>by rw [a1h,a1h,h a a0n,FT λb hb=>h b (a0i _ hb)]
theorem KU {α β:Type} {a:α} {x:β} {f f':α -> Option β} (h1:f a = none) (h2:f' a = some x):∀ {l:List α},l.Nodup -> a ∈ l -> (∀ b ∈ l,b ≠ a -> f' b = f b) -> (l.filterMap f').Perm (x :: l.filterMap f)
 | [],_,h,_=>by cases h
 | b :: l,nd,h,h3=>by
  have nd':=a1w.mp nd
  by_cases e:b = a
  ·subst e
   have same:l.filterMap f' = l.filterMap f:=FT λc hc=>h3 c (a0i _ hc) λz=>nd'.1 (z ▸ hc)
   rw [a1h,a1h,h1,h2,same]
  ·have hm:a ∈ l:=(a0q.mp h).resolve_left λz=>e z.symm
   have ih:=KU h1 h2 nd'.2 hm λc hc=>h3 c (a0i _ hc)
   rw [a1h,a1h,h3 b a0n e]
   cases f b with
   | none=>exact ih
   | some y=>exact (ih.cons y).trans (List.Perm.swap x y _)
theorem PR {α β:Type} {f:α -> Option β}:∀ {l:List α},(∀ a ∈ l,(f a).isSome = true) -> (l.filterMap f).length = l.length
 | [],_=>rfl
 | a :: l,h=>by
  have:=h a a0n
  rw [a1h]
  cases e:f a with
  | none=>rw [e] at this;cases this
  | some y=>simp [PR λb hb=>h b (a0i _ hb)]
def lv (M:Nat) (owner:Array (Option Nat)):List (Nat × Nat):=(List.range M).filterMap λj=>(owner.getD j none).map (j,·)
theorem ZO {M j k:Nat} {owner:Array (Option Nat)} (hs:owner.size = M) (hj:j < M) (hn:owner.getD j none = none):((lv M (owner.setIfInBounds j (some k))).map (·.2)).Perm (k :: (lv M owner).map (·.2)):=by
 have get:∀ b,(owner.setIfInBounds j (some k)).getD b none = if b = j then some k else owner.getD b none:=λb=>by
  rw [a2p,a2p,Array.getElem?_setIfInBounds]
  by_cases e:b = j
  ·subst e;simp [hs,hj]
  ·have e':¬ j = b:=λz=>e z.symm
   simp [e,e']
 have:=KU (a:=j) (x:=(j,k)) (f:=λi=>(owner.getD i none).map (i,·)) (f':=λi=>((owner.setIfInBounds j (some k)).getD i none).map (i,·)) (by rw [hn];rfl) (by rw [get,if_pos rfl];rfl) (l:=List.range M) List.nodup_range (a1l.mpr hj) λb _ hb=>by rw [get,if_neg hb]
 exact this.map (·.2)
theorem UZ {M:Nat} {owner:Array (Option Nat)} (h:(lv M owner).length < M):∃ j,j < M /\ owner.getD j none = none:=by
 refine Classical.byContradiction λhc=>?_
 have:(lv M owner).length = (List.range M).length:=PR λj hj=>by
  cases e:owner.getD j none with
  | none=>exact absurd ⟨j,a1l.mp hj,e⟩ hc
  | some y=>rfl
 rw [a4w] at this
 omega
def lp (mask:Nat):Nat -> Nat -> Nat -> Nat × Nat
 | 0,i,p=>(i,p)
 | t + 1,i,p=>lp mask t (SetTable.leap mask i p).1 (SetTable.leap mask i p).2
theorem QJ (mask:Nat):∀ (a b i p:Nat),lp mask (a + b) i p = lp mask b (lp mask a i p).1 (lp mask a i p).2
 | 0,b,i,p=>by rw [a6c];rfl
 | a + 1,b,i,p=>by rw [Nat.succ_add];exact QJ mask a b _ _
theorem a2O (mask:Nat):∀ (t i p:Nat),(lp mask t i p).2 = p / 32 ^ t
 | 0,i,p=>by simp [lp]
 | t + 1,i,p=>by
  rw [lp,a2O mask t]
  show (p / 32) / 32 ^ t = _
  rw [Nat.div_div_eq_div_mul,Nat.pow_succ,Nat.mul_comm]
theorem X9 (mask:Nat):∀ (t i p:Nat),i < mask + 1 -> (lp mask t i p).1 < mask + 1
 | 0,i,p,h=>h
 | t + 1,i,p,h=>X9 mask t _ _ (Nat.mod_lt _ (Nat.succ_pos _))
def a4V (M:Nat):Nat -> Nat -> List Nat
 | 0,_=>[]
 | n + 1,i=>i :: a4V M n ((i * 5 + 1) % M)
def full (M:Nat):Bool:=(List.range M).all λi=>(λo:List Nat=>(List.range M).all λj=>o.contains j) (a4V M M i)
theorem QW {mask:Nat}:∀ {n i j:Nat},j ∈ a4V (mask + 1) n i -> ∃ u,u < n /\ (lp mask u i 0).1 = j
 | 0,i,j,h=>by cases h
 | n + 1,i,j,h=>by
  rcases a0q.mp h with z | z
  ·exact ⟨0,Nat.succ_pos _,z.symm⟩
  ·obtain ⟨u,hu,e⟩:=QW z
   exact ⟨u + 1,Nat.succ_lt_succ hu,e⟩
theorem PZ {mask:Nat} (hf:full (mask + 1) = true) (h:Int) {j0:Nat} (hj:j0 < mask + 1):∃ t,t < SetTable.turns mask /\ (lp mask t (SetTable.bits h % (mask + 1)) (SetTable.bits h)).1 = j0:=by
 have p0:(lp mask 13 (SetTable.bits h % (mask + 1)) (SetTable.bits h)).2 = 0:=by
  rw [a2O]
  refine Nat.div_eq_of_lt ?_
  unfold SetTable.bits
  have:(h % (2 ^ 64:Int)).toNat < 2 ^ 64:=by
   have h1:h % (2 ^ 64:Int) < 2 ^ 64:=a3y _ (by decide)
   have h0:0 <= h % (2 ^ 64:Int):=a4t _ (by decide)
   omega
  exact a0z this (by decide)
 have i0:=X9 mask 13 (SetTable.bits h % (mask + 1)) (SetTable.bits h) (Nat.mod_lt _ (Nat.succ_pos _))
 unfold full at hf
 rw [a1k] at hf
 have h1:=hf _ (a1l.mpr i0)
 dsimp only at h1
 rw [a1k] at h1
 have h2:=h1 j0 (a1l.mpr hj)
 rw [List.contains_iff_mem] at h2
 obtain ⟨u,hu,e⟩:=QW h2
 refine ⟨13 + u,by unfold SetTable.turns;omega,?_⟩
 rw [QJ,p0];exact e
theorem FV {mask:Nat} {owner:Array (Option Nat)} {j0:Nat} (h0:(owner.getD j0 (some 0)).isNone = true):∀ (fuel i p:Nat),(∃ t,t < fuel /\ (lp mask t i p).1 = j0) -> ∃ j,SetTable.layClean.free mask owner fuel i p = some j
 | 0,i,p,h=>by obtain ⟨t,ht,_⟩:=h;omega
 | fuel + 1,i,p,h=>by
  rw [SetTable.layClean.free]
  cases e:(List.range (SetTable.runEnd mask i + 1 - i)).find? λk=>(owner.getD (i + k) (some 0)).isNone with
  | some k=>exact ⟨_,rfl⟩
  | none =>
   dsimp only
   obtain ⟨t,ht,hl⟩:=h
   cases t with
   | zero =>
    exfalso
    have hi:i = j0:=hl
    subst hi
    have:=List.find?_eq_none.mp e 0 (a1l.mpr (by unfold SetTable.runEnd;split <;> omega))
    rw [Nat.add_zero] at this
    exact this h0
   | succ t=>exact FV h0 fuel _ _ ⟨t,by omega,hl⟩
theorem KW {mask:Nat} {owner:Array (Option Nat)} {j:Nat}:∀ (fuel i p:Nat),SetTable.layClean.free mask owner fuel i p = some j -> (owner.getD j (some 0)).isNone = true
 | 0,i,p,h=>by rw [SetTable.layClean.free] at h;cases h
 | fuel + 1,i,p,h=>by
  rw [SetTable.layClean.free] at h
  cases e:(List.range (SetTable.runEnd mask i + 1 - i)).find? λk=>(owner.getD (i + k) (some 0)).isNone with
  | some k =>
   rw [e] at h
   cases h
   have:=List.find?_some e
   exact this
  | none =>
   rw [e] at h
   exact KW fuel _ _ h
theorem V2 {owner:Array (Option Nat)} {j:Nat} (h:(owner.getD j (some 0)).isNone = true):j < owner.size /\ owner.getD j none = none:=by
 rw [a2p] at h
 by_cases hj:j < owner.size
 ·rw [a0v hj] at h
  refine ⟨hj,?_⟩
  rw [a2p,a0v hj]
  simpa using h
 ·rw [a5s (a4j hj)] at h
  cases h
theorem G4 {mask:Nat} (hf:full (mask + 1) = true):∀ (hs:List Int) (owner:Array (Option Nat)) (k:Nat),owner.size = mask + 1 -> ((lv (mask + 1) owner).map (·.2)).Perm (List.range k) -> k + hs.length <= mask + 1 ->
  ∃ owner',(hs.foldl (λ(acc:Option (Array (Option Nat) × Nat)) h=>do
   let (owner,k) <- acc
   let j <- SetTable.layClean.free mask owner (SetTable.turns mask) (SetTable.bits h % (mask + 1)) (SetTable.bits h)
   pure (owner.setIfInBounds j (some k),k + 1)) (some (owner,k))) = some (owner',k + hs.length) /\ owner'.size = mask + 1 /\ ((lv (mask + 1) owner').map (·.2)).Perm (List.range (k + hs.length))
 | [],owner,k,h1,h2,_=>⟨owner,rfl,h1,h2⟩
 | h :: hs,owner,k,h1,h2,h3=>by
  rw [a2g] at h3
  have hl:(lv (mask + 1) owner).length = k:=by have:=h2.length_eq;simpa using this
  obtain ⟨j0,hj0,hn0⟩:=UZ (M:=mask + 1) (owner:=owner) (by omega)
  have h0:(owner.getD j0 (some 0)).isNone = true:=by
   rw [a2p,a0v (by omega)] at hn0 ⊢
   simpa using hn0
  obtain ⟨j,hj⟩:=FV h0 _ _ _ (PZ hf h hj0)
  obtain ⟨jlt,jn⟩:=V2 (KW _ _ _ hj)
  have perm:((lv (mask + 1) (owner.setIfInBounds j (some k))).map (·.2)).Perm (List.range (k + 1)):=by
   refine (ZO h1 (by omega) jn).trans ((h2.cons k).trans ?_)
   rw [a4b]
   exact (List.perm_append_singleton k (List.range k)).symm
  obtain ⟨o',e1,e2,e3⟩:=G4 hf hs (owner.setIfInBounds j (some k)) (k + 1) (by simp [h1]) perm (by omega)
  refine ⟨o',?_,e2,?_⟩
  ·rw [List.foldl_cons]
   have e4:(do
    let (owner,k) <- (some (owner,k):Option (Array (Option Nat) × Nat))
    let j <- SetTable.layClean.free mask owner (SetTable.turns mask) (SetTable.bits h % (mask + 1)) (SetTable.bits h)
    pure (owner.setIfInBounds j (some k),k + 1)) = some (owner.setIfInBounds j (some k),k + 1):=by
    show (SetTable.layClean.free mask owner (SetTable.turns mask) (SetTable.bits h % (mask + 1)) (SetTable.bits h)).bind (λj=>some (owner.setIfInBounds j (some k),k + 1)) = _
    rw [hj];rfl
   refine Eq.trans (congrArg (λz=>List.foldl _ z hs) e4) ?_
   rw [e1,a2g];congr 2;omega
  ·rw [a2g,show k + (hs.length + 1) = k + 1 + hs.length by omega];exact e3
theorem LA {M m:Nat}:lv M (Array.replicate m none) = []:=by
 unfold lv
 rw [List.filterMap_eq_nil_iff]
 intro j _
 rw [a2p,Array.getElem?_replicate]
 split <;> rfl
theorem UP {mask finger moves:Nat} {led plain:Bool} {hs:Array Int} (hf:full (mask + 1) = true) (hl:hs.size <= mask + 1) :
  ∃ t order,SetTable.laid mask finger moves led plain hs = some (t,order) /\ order.toList.Perm (List.range hs.size) /\ t.mask = mask /\ t.place.size = hs.size /\ t.dummies = #[]:=by
 obtain ⟨o,e1,e2,e3⟩:=G4 hf hs.toList (Array.replicate (mask + 1) none) 0 (by simp) (by rw [LA];exact .refl _) (by simpa using hl)
 have e4:SetTable.layClean mask hs = some o:=by
  unfold SetTable.layClean
  rw [<- Array.foldl_toList]
  refine Eq.trans (congrArg (Option.map (·.1)) e1) rfl
 rw [a6c,a0s] at e3
 have len:(lv (mask + 1) o).length = hs.size:=by have:=e3.length_eq;simpa using this
 refine ⟨_,_,by unfold SetTable.laid;rw [e4];rfl,?_,rfl,?_,rfl⟩
 ·show (((lv (mask + 1) o).map (·.2)).toArray).toList.Perm _
  simpa using e3
 ·show (((lv (mask + 1) o).map (·.1)).toArray).size = _
  simpa using len
theorem a2G:full 8 = true:=by decide +kernel
theorem Z0:full 16 = true:=by decide +kernel
theorem Z1:full 32 = true:=by decide +kernel
theorem Z2:full 64 = true:=by decide +kernel
section
variable {prog:Program} {w:World} {A:Around} {E:Value -> Shared -> Prop} {s:Shared}
theorem QP {Q:Value -> Shared -> Prop} (h:Q (.ref s.heap.objs.size) { s with heap:=s.heap.push (bG w) }):wpAny (model prog w) A (newSet (.type "set")) Q E s:=by
 unfold newSet setsByText
 refine a0a (a0a (a3t (a0c ?_)))
 dsimp only
 simp only [newObj]
 exact a0a (wpAny_alloc (a0c h))
def T5 (w:World) (h:Heap) (a:Addr) (mask:Nat):Prop:=∃ o ep mv,h.get? a = some o /\ o.ExactSet /\ o.data = .set #[] ep ⟨mask,#[],#[],0,!w.params.followText "set-order",mv,true⟩
theorem Q6 {mask finger moves:Nat} {led plain:Bool}:SetTable.laid mask finger moves led plain #[] = some (⟨mask,#[],#[],finger,led,moves,plain⟩,#[]):=by
 unfold SetTable.laid
 have e:SetTable.layClean mask #[] = some (Array.replicate (mask + 1) none):=by
  unfold SetTable.layClean
  rw [<- Array.foldl_toList];rfl
 rw [e]
 show some (_,_) = _
 have e2:(List.range (mask + 1)).filterMap (λj=>((Array.replicate (mask + 1) (none:Option Nat)).getD j none).map (j,·)) = []:=LA
 rw [e2];rfl
theorem HE {a:Addr} {m0 wanted:Nat} {Q:Unit -> Shared -> Prop} (hE:T5 w s.heap a m0) (hw:SetTable.sizeAbove wanted <= 64) (k:∀ h',Heap.SameBut a s.heap h' -> T5 w h' a (SetTable.sizeAbove wanted - 1) -> Q () { s with heap:=h' }) :
  wpAny (model prog w) A (setRelay a wanted) Q E s:=by
 obtain ⟨o,ep,mv,ho,hex,hd⟩:=hE
 unfold setRelay
 refine a0a (a3f ho hd (by simp [SetTable.fits,SetTable.fill]) ?_)
 dsimp only
 rw [if_neg (by rw [sizeLine_eq];omega)]
 have e:SetTable.relaid ⟨m0,#[],#[],0,!w.params.followText "set-order",mv,true⟩ (Array.map (·.1) (#[]:Array (Int × Value))) wanted = some (⟨SetTable.sizeAbove wanted - 1,#[],#[],0,!w.params.followText "set-order",SetTable.movedTo ⟨m0,#[],#[],0,!w.params.followText "set-order",mv,true⟩ (SetTable.sizeAbove wanted - 1),true⟩,#[]):=by
  unfold SetTable.relaid
  rw [show Array.map (·.1) (#[]:Array (Int × Value)) = #[] by simp]
  exact Q6
 rw [e]
 show wpAny _ _ (pure (#[],_) >>= _) _ _ _
 refine a0a (a0c ?_)
 refine a4g ho hd (k _ (a2l _ a _) ?_) (by simp)
 obtain ⟨h1,_⟩:=a5p (knd:=intKind prog w) (S':=λ_=>false) (es':=#[]) (t':=⟨SetTable.sizeAbove wanted - 1,#[],#[],0,!w.params.followText "set-order",SetTable.movedTo ⟨m0,#[],#[],0,!w.params.followText "set-order",mv,true⟩ (SetTable.sizeAbove wanted - 1),true⟩) ho hex hd (λe he=>by simp at he) (λk=>by simp) (by decide) (by simp [SetTable.fits,SetTable.fill])
 exact ⟨_,_,_,h1,hex,rfl⟩
def cM (m:Nat):Nat:=if m * 5 ≥ 21 then SetTable.sizeAbove (m * 2) - 1 else 7
def LB (m:Nat):Bool:=[7,15,31,63].contains (cM m) && decide (m <= cM m) && decide (SetTable.sizeAbove (m * 2) <= 64)
theorem V0:(List.range 32).all LB = true:=by decide +kernel
theorem sN (m:Fin 32):(cM m = 7 \/ cM m = 15 \/ cM m = 31 \/ cM m = 63) /\ (m:Nat) <= cM m /\ SetTable.sizeAbove (m * 2) <= 64:=by
 have h:=a1k.mp V0 m.1 (a1l.mpr m.2)
 unfold LB at h
 rw [a1e,a1e,a3x,a3x,List.contains_iff_mem] at h
 refine ⟨?_,h.1.2,h.2⟩
 simpa using h.1.1
theorem QK {m:Nat} (h:m < 32):full (cM m + 1) = true:=by
 have h1:cM m = 7 \/ cM m = 15 \/ cM m = 31 \/ cM m = 63:=(sN ⟨m,h⟩).1
 generalize cM m = M at h1
 rcases h1 with e | e | e | e
 ·subst e;exact a2G
 ·subst e;exact Z0
 ·subst e;exact Z1
 ·subst e;exact Z2
theorem BO {a:Addr} {m:Nat} {Q:Unit -> Shared -> Prop} (hE:s.heap.get? a = some (bG w)) (hm:m < 32) (k:∀ h',Heap.SameBut a s.heap h' -> T5 w h' a (cM m) -> Q () { s with heap:=h' }) :
  wpAny (model prog w) A (setRoomFor a m) Q E s:=by
 have hE0:T5 w s.heap a 7:=⟨_,0,0,hE,⟨rfl,rfl,rfl⟩,rfl⟩
 unfold setRoomFor
 refine a0a (a3f (es:=#[]) (ep:=0) (t:=.fresh 0 0 (!w.params.followText "set-order")) hE rfl (by rfl) ?_)
 dsimp only
 have e:(SetTable.fresh 0 0 (!w.params.followText "set-order")).roomFor m = if m * 5 ≥ 21 then some (m * 2) else none:=by
  unfold SetTable.roomFor
  show (if (0 + m) * 5 ≥ 7 * 3 then some ((0 + m) * 2) else none) = _
  rw [a6c]
 rw [e]
 by_cases h:m * 5 ≥ 21
 ·rw [if_pos h]
  have em:cM m = SetTable.sizeAbove (m * 2) - 1:=if_pos h
  refine HE hE0 (sN ⟨m,hm⟩).2.2 λh' sb hE'=>k h' sb ?_
  rw [em];exact hE'
 ·rw [if_neg h]
  have em:cM m = 7:=if_neg h
  have:=k s.heap (a4h a s.heap) (by rw [em];exact hE0)
  exact a0c this
theorem PU {α:Type} (xs:Array α):(List.range xs.size).filterMap (λi=>xs[i]?) = xs.toList:=by
 have:(List.range xs.size).filterMap (λi=>xs[i]?) = (List.range xs.toList.length).filterMap (λi=>xs.toList[i]?):=by simp
 rw [this]
 induction xs.toList with
 | nil=>rfl
 | cons a l ih =>
  rw [a2g,List.range_succ_eq_map,a1h]
  simp only [List.getElem?_cons_zero,a3i]
  congr 1
theorem V1 {a b:Addr} {S:Int -> Bool} {n:Nat} {each:Sem Unit} {Q:Unit -> Shared -> Prop} (hE:s.heap.get? a = some (bG w)) (hne:a ≠ b) (hX:c6 prog w b S n s.heap) (hn:n < 32)
  (k:∀ h',Heap.SameBut a s.heap h' -> c6 prog w a S n h' -> Q () { s with heap:=h' }):wpAny (model prog w) A (setMerge a b each) Q E s:=by
 obtain ⟨o,es,ep,t,ho,hex,hd,hel,hmem,hb,hf,hsz,hwk,hnd⟩:=hX
 unfold setMerge
 rw [if_neg (by simpa using hne)]
 refine a0a (a3f ho hd hf ?_)
 dsimp only
 by_cases he:es.isEmpty = true
 ·rw [if_pos he]
  have e0:es = #[]:=by simpa using he
  subst e0
  have:=k s.heap (a4h a s.heap) ((KY hE).congr (λj=>by
   cases hj:S j with
   | false=>rfl
   | true=>obtain ⟨e,h,_⟩:=(hmem j).mp hj;simp at h) (by simpa using hsz))
  exact a0c this
 ·rw [if_neg he]
  refine a0a (BO hE (by omega) λh1 sb1 hE1=>?_)
  obtain ⟨o1,ep1,mv1,ho1,hex1,hd1⟩:=hE1
  refine a0a (a3f (s:={ s with heap:=h1 }) ho1 hd1 (by simp [SetTable.fits,SetTable.fill]) ?_)
  dsimp only
  have ok:=sN ⟨es.size,by omega⟩
  have hle:es.size <= cM es.size:=ok.2.1
  have wkled:w.params.followText "set-order" = true \/ t.led = true:=hwk.imp id λz=>z.1
  have fin:∀ (es':Array (Int × Value)) (t':SetTable),es'.toList.Perm es.toList -> t'.fits es'.size = true -> O8 (w.params.followText "set-order") t' -> wpAny (model prog w) A (storeSet a es' t') Q E { s with heap:=h1 }:=by
   intro es' t' hp hf' hw'
   have hel':ElemsOf (intKind prog w) es'.toList:=hel.perm hp
   have hmem':∀ k,S k = true ↔ ∃ e ∈ es'.toList,(intKind prog w).is k e.2 = true:=λk=>by
    rw [hmem k]
    constructor
    ·rintro ⟨e,h,z⟩;exact ⟨e,hp.mem_iff.mpr h,z⟩
    ·rintro ⟨e,h,z⟩;exact ⟨e,hp.mem_iff.mp h,z⟩
   have hz:es'.size = es.size:=by rw [<- a0s,hp.length_eq,a0s]
   have hb':es'.size < scanBound:=by rw [hz];exact hb
   refine a4g (s:={ s with heap:=h1 }) ho1 hd1 (k _ (sb1.trans (a2l _ a _)) ?_) (a4x hb')
   obtain ⟨h2,_⟩:=a5p (knd:=intKind prog w) (S':=S) ho1 hex1 hd1 hel' hmem' hb' hf'
   exact ⟨_,es',_,t',h2,hex1,rfl,hel',hmem',hb',hf',by rw [hz];exact hsz,hw',(hp.map _).nodup_iff.mpr hnd⟩
  have hfits:=hf
  simp only [SetTable.fits,a1e,a4i,a4y] at hfits
  unfold SetTable.road
  rw [if_neg (by simp [SetTable.fill])]
  by_cases hr:((cM es.size == t.mask) && t.dummies.isEmpty) = true
  ·rw [if_pos hr]
   refine fin es _ (.refl _) ?_ ?_
   ·have:SetTable.fits { t with finger:=0,led:=(!w.params.followText "set-order") && t.led,moves:=mv1,plain:=true && t.plain } es.size = t.fits es.size:=rfl
    exact this.trans hf
   ·rcases hwk with z | z
    ·exact .inl z
    ·cases hbt:w.params.followText "set-order" with
     | true=>exact .inl rfl
     | false=>exact .inr ⟨by simp [z.1],λq=>z.2 (by simpa using q)⟩
  ·rw [if_neg hr]
   obtain ⟨t',order,e1,e2,e3,e4,e5⟩:=UP (mask:=cM es.size) (finger:=0) (moves:=mv1) (led:=(!w.params.followText "set-order") && t.led) (plain:=true && t.plain) (hs:=es.map (·.1)) (QK (by omega)) (by simp;omega)
   obtain ⟨r1,r2,r3⟩:=G3 e1
   rw [Array.size_map] at e2 e4
   have hperm:(order.filterMap (es[·]?)).toList.Perm es.toList:=by
    rw [Array.toList_filterMap]
    have:=e2.filterMap (λi=>es[i]?)
    rw [PU] at this
    exact this
   have hsz':(order.filterMap (es[·]?)).size = es.size:=by rw [<- a0s,hperm.length_eq,a0s]
   have e1':SetTable.laid (SetTable.mask ⟨cM es.size,#[],#[],0,!w.params.followText "set-order",mv1,true⟩) 0 mv1 ((!w.params.followText "set-order") && t.led) (true && t.plain) (es.map (·.1)) = some (t',order):=e1
   dsimp only
   rw [e1']
   show wpAny _ _ ((if ((order.filterMap (es[·]?)).size != es.size) = true then (unsupported "internal:set-table-lost-an-element" >>= λ_=>pure (order.filterMap (es[·]?),t')) else pure (order.filterMap (es[·]?),t')) >>= _) _ _ _
   rw [hsz',if_neg (by simp)]
   refine a0a (a0c ?_)
   refine fin _ t' hperm ?_ ?_
   ·rw [hsz']
    simp only [SetTable.fits,a1e,a4i,a4y]
    refine ⟨e4,?_⟩
    unfold SetTable.fill
    rw [e4,e5,e3]
    simpa using hle
   ·rcases hwk with z | z
    ·exact .inl z
    ·cases hbt:w.params.followText "set-order" with
     | true=>exact .inl rfl
     | false=>exact .inr ⟨by rw [r1,hbt];simp [z.1],λ_=>r3⟩
end
theorem gV {α:Type} (xs:Array α) (p:Nat):(SetTable.eraseAt xs p).toList = xs.toList.eraseIdx p:=by
 unfold SetTable.eraseAt
 rw [a67,a4n]
 congr 1
 ·simp
 ·simp [a5o]
theorem mR {α:Type} {xs:Array α} {p:Nat} (h:p < xs.size):(SetTable.eraseAt xs p).size = xs.size - 1:=by
 rw [<- a0s,gV,List.length_eraseIdx,a0s,if_pos h]
theorem BD {α:Type} (xs:Array α) (p:Nat) (x:α):(SetTable.insertAt xs p x).size = xs.size + 1:=by
 unfold SetTable.insertAt
 simp
 omega
theorem MX {t:SetTable} {i n:Nat} (hf:t.fits n = true) (hi:i < n):(t.drop i).fits (n - 1) = true /\ (t.drop i).led = t.led /\ (t.drop i).plain = t.plain /\ (CW t.place -> CW (t.drop i).place):=by
 simp only [SetTable.fits,a1e,a4i,a4y] at hf ⊢
 have hp:i < t.place.size:=by omega
 unfold SetTable.drop
 rw [a0v hp]
 dsimp only
 refine ⟨⟨by rw [mR hp];omega,?_⟩,rfl,rfl,λhr=>?_⟩
 ·have h2:=hf.2
  unfold SetTable.fill at h2 ⊢
  dsimp only
  rw [mR hp,BD]
  omega
 ·unfold CW at hr ⊢
  rw [gV]
  exact hr.sublist (List.eraseIdx_sublist ..)
theorem OL {α:Type} {l:List α} {i:Nat} {e:α} (h:l[i]? = some e):l = l.take i ++ e :: l.drop (i + 1) /\ l.eraseIdx i = l.take i ++ l.drop (i + 1):=by
 obtain ⟨hi,rfl⟩:=a0k.mp h
 refine ⟨?_,a67 ..⟩
 rw [<- a3k hi,List.take_append_drop]
section
variable {prog:Program} {w:World} {A:Around} {E:Value -> Shared -> Prop} {s:Shared}
theorem Z6 {k k':Int} {v:Value} (h:(intKind prog w).is k v = true) (h':(intKind prog w).is k' v = true):k = k':=by
 obtain ⟨t,rfl⟩:=d8 h
 obtain ⟨t',e⟩:=d8 h'
 cases e;rfl
theorem MV {a:Addr} {S:Int -> Bool} {n:Nat} {k:Int} {x:Value} {Q:Bool -> Shared -> Prop} (hkey:(intKind prog w).is k x = true) (hsc:x.scannable = true) (hS:c6 prog w a S n s.heap)
  (h:∀ h',Heap.SameBut a s.heap h' -> c6 prog w a (λk'=>S k' && !decide (k' = k)) (if S k then n - 1 else n) h' -> Q (S k) { s with heap:=h' }) :
  wpAny (model prog w) A (setDiscardHashed a x ((intKind prog w).hash k)) Q E s:=by
 obtain ⟨o,es,ep,t,ho,hex,hd,hel,hmem,hb,hf,hn,hwk,hnd⟩:=hS
 unfold setDiscardHashed setFind setFindIn
 refine a0a (a0a (a3f ho hd hf ?_))
 dsimp only
 rw [byScan_of hsc hb hel]
 simp only [↓reduceIte]
 refine a0a (a4r ?_)
 refine a0a (wpAny_setScan_of hkey ho hd hf hel ?_)
 cases hr:List.findIdx? (λe=>(intKind prog w).is k e.2) es.toList with
 | none =>
  dsimp only
  have hSk:S k = false:=by
   cases hk:S k with
   | false=>rfl
   | true=>obtain ⟨e,he,hp⟩:=(hmem k).mp hk;have:=List.findIdx?_eq_none_iff.mp hr e he;rw [hp] at this;exact Bool.noConfusion this
  have:=h s.heap (a4h a s.heap) ⟨o,es,ep,t,ho,hex,hd,hel,λk'=>by
   rw [<- hmem k',a1e]
   refine ⟨λz=>z.1,λz=>⟨z,?_⟩⟩
   by_cases e:k' = k
   ·rw [e,hSk] at z;cases z
   ·simp [e],hb,hf,by rw [hSk];exact hn,hwk,hnd⟩
  rw [hSk] at this
  exact a0c (a0c this)
 | some j =>
  dsimp only
  obtain ⟨hj,hpj,_⟩:=a5q.mp hr
  have hSk:S k = true:=(hmem k).mpr ⟨es.toList[j],a1x hj,hpj⟩
  have hj':j < es.size:=by simpa using hj
  obtain ⟨sp,er⟩:=OL (a0b hj)
  rw [a6c]
  refine a0c ?_
  refine a0a (a3f ho hd hf ?_)
  dsimp only
  obtain ⟨f1,f2,f3,f4⟩:=MX hf hj'
  have hel':ElemsOf (intKind prog w) (SetTable.eraseAt es j).toList:=by
   rw [gV,er]
   intro e he
   refine hel e ?_
   rw [sp]
   rcases a1g.mp he with z | z
   ·exact a2r _ z
   ·exact a0w _ (a0i _ z)
  have hmem':∀ k',(S k' && !decide (k' = k)) = true ↔ ∃ e ∈ (SetTable.eraseAt es j).toList,(intKind prog w).is k' e.2 = true:=by
   intro k'
   rw [a1e,hmem k',gV,er]
   constructor
   ·rintro ⟨⟨e,he,z⟩,hne⟩
    have hne:k' ≠ k:=by simpa using hne
    refine ⟨e,?_,z⟩
    rw [sp] at he
    rcases a1g.mp he with y | y
    ·exact a2r _ y
    ·rcases a0q.mp y with y | y
     ·subst y;exact absurd (Z6 z hpj) hne
     ·exact a0w _ y
   ·rintro ⟨e,he,z⟩
    have hin:e ∈ es.toList:=by
     rw [sp]
     rcases a1g.mp he with y | y
     ·exact a2r _ y
     ·exact a0w _ (a0i _ y)
    refine ⟨⟨e,hin,z⟩,?_⟩
    have:k' ≠ k:=by
     rintro rfl
     obtain ⟨t1,e1⟩:=d8 z
     obtain ⟨t2,e2⟩:=d8 hpj
     rw [sp,a1c,a0f] at hnd
     have nd:=a6m.mp hnd
     have i1:dP e.2 = k':=by rw [e1];rfl
     have i2:dP (es.toList[j]).2 = k':=by rw [e2];rfl
     rcases a1g.mp he with y | y
     ·exact nd.2.2 _ (a0p.mpr ⟨e,y,i1⟩) _ a0n i2.symm
     ·exact (a1w.mp nd.2.1).1 (by rw [i2];exact a0p.mpr ⟨e,y,i1⟩)
    simp [this]
  have hz:(SetTable.eraseAt es j).size = es.size - 1:=mR hj'
  have hb':(SetTable.eraseAt es j).size < scanBound:=by rw [hz];omega
  have hff:(t.drop j).fits (SetTable.eraseAt es j).size = true:=by rw [hz];exact f1
  refine a0a (a4g ho hd ?_ (a4x hb'))
  obtain ⟨h2,_⟩:=a5p (knd:=intKind prog w) (S':=λk'=>S k' && !decide (k' = k)) ho hex hd hel' hmem' hb' hff
  have:=h _ (a2l _ a _) ⟨_,_,_,_,h2,hex,rfl,hel',hmem',hb',hff,by rw [hSk,hz,hn];rfl,hwk.imp id λz=>⟨f2.trans z.1,λq=>f4 (z.2 (f3 ▸ q))⟩,by
   rw [gV,er]
   refine hnd.sublist ?_
   conv=>rhs;rw [sp]
   exact (List.Sublist.append (List.Sublist.refl _) (List.sublist_cons_self _ _)).map _⟩
  rw [hSk] at this
  exact a0a (wpAny_point (a0c this))
theorem YZ {a:Addr} {S:Int -> Bool} {n m:Nat} {k:Int} {x:Value} {Q:Unit -> Shared -> Prop} (hkey:(intKind prog w).is k x = true) (hsc:x.scannable = true) (hS:c6 prog w a S n s.heap) (hn:n <= m) (hm:m + 1 < scanBound)
  (h:∀ h' n',Heap.SameBut a s.heap h' -> c6 prog w a (λk'=>if k' = k then !S k else S k') n' h' -> n' <= m + 1 -> Q () { s with heap:=h' }) :
  wpAny (model prog w) A (holding [x] (do if !(<- setDiscardHashed a x ((intKind prog w).hash k)) then let _ <- setAddHashed a x ((intKind prog w).hash k))) Q E s:=by
 refine a1s (a0a (MV hkey hsc hS λh1 sb1 hS1=>?_))
 cases hSk:S k with
 | true =>
  rw [hSk] at hS1
  refine a0c (h h1 _ sb1 (hS1.congr (λk'=>?_) rfl) (by show n - 1 <= m + 1;omega))
  by_cases e:k' = k
  ·subst e;simp [hSk]
  ·simp [e]
 | false =>
  rw [hSk] at hS1
  refine a0a (oG (s:={ s with heap:=h1 }) hkey hsc hS1 (by show n + 1 < scanBound;omega) λh2 sb2 hS2=>a0c (h h2 _ (sb1.trans sb2) (hS2.congr (λk'=>?_) rfl) ?_))
  ·by_cases e:k' = k
   ·subst e;simp [hSk]
   ·simp [e]
  ·rw [if_neg a0j]
   split <;> omega
end
section
variable {prog:Program} {w:World} {A:Around} {E:Value -> Shared -> Prop} {s:Shared}
theorem a1Q {b:Addr} {es:Array (Int × Value)} {ep:Nat} {t:SetTable} {Q:Array (Int × Value) -> Shared -> Prop} (hS:SetAt s.heap b es ep t) (hd:w.params.followText "set-order" = true \/ ((!t.plain && decide (es.size > 1)) = false /\ (!t.led && decide (es.size > 1)) = false))
  (h:∀ ys:Array (Int × Value),ys.toList.Perm es.toList -> Q ys s):wpAny (model prog w) A (setWalk b) Q E s:=by
 unfold setWalk
 refine a0a (hS.state ?_)
 dsimp only
 refine a0a (jT ?_)
 cases hbt:w.params.followText "set-order" with
 | true =>
  rw [if_pos rfl]
  exact a0a (a3t (a0c (h _ (i5 _ _))))
 | false =>
  obtain ⟨h1,h2⟩:=hd.resolve_left (by rw [hbt];exact a0j)
  rw [if_neg a0j]
  rw [if_neg (by show ¬ ((!t.plain && decide (es.size > 1)) = true);rw [h1];exact a0j)]
  refine a0a ?_
  show wpAny _ _ (if (!t.led && decide (es.size > 1)) = true then unsupported "set:maker-not-led" else pure ()) _ _ _
  rw [h2,if_neg a0j]
  exact a0c (a0c (h es (.refl _)))
theorem zL {β:Type} (b:β) (g:(Int × Value) -> β -> Sem (ForInStep β)):∀ (l:List (Int × Value)),(∀ e ∈ l,g e b = pure (.yield b)) -> (forIn l b g:Sem β) = pure b
 | [],_=>by simp
 | e :: l,h=>by
  rw [a5g,h e a0n]
  simp only [pure_bind]
  exact zL b g l λx hx=>h x (a0i _ hx)
theorem VY {a b:Addr} {es es':Array (Int × Value)} {ep ep':Nat} {t t':SetTable} {Q:Bool -> Shared -> Prop} (hS:SetAt s.heap b es ep t) (hS':SetAt s.heap a es' ep' t') (h1:ElemsOf (intKind prog w) es.toList) (h2:ElemsOf (intKind prog w) es'.toList)
  (h:Q true s):wpAny (model prog w) A (setsQuiet [b,a]) Q E s:=by
 have isInt:∀ {l:List (Int × Value)},ElemsOf (intKind prog w) l -> ∀ e ∈ l,∃ k t,e.2 = Value.int k t:=λhl e he=>by
  obtain ⟨⟨k,hk,_⟩,_⟩:=hl e he
  obtain ⟨t,e2⟩:=d8 hk
  exact ⟨k,t,e2⟩
 unfold setsQuiet setEntries
 have inner:∀ {l:Array (Int × Value)},ElemsOf (intKind prog w) l.toList -> (forIn l ((none:Option Bool),()) (λx __s=>match x with
   | (fst,x)=>match x with
    | Value.ref a=>do
     let __do_lift <- specialOf x (Str.ofString "__eq__")
     if (__do_lift != some (Value.builtin "object.__eq__")) = true then pure (ForInStep.done (some false,())) else pure (ForInStep.yield (none,()))
    | x=>pure (ForInStep.yield (none,()))):Sem (Option Bool × Unit)) = pure (none,()):=by
  intro l hl
  rw [<- Array.forIn_toList]
  refine zL _ _ _ λe he=>?_
  obtain ⟨k,t,ev⟩:=isInt hl e he
  obtain ⟨e1,e2⟩:=e
  dsimp only at ev
  subst ev
  rfl
 refine a0a ?_
 rw [a5g]
 refine a0a (a0a (a0a (hS.state (a0c ?_))))
 refine a0a (a5r (inner h1) (a0c ?_))
 dsimp only
 rw [a5g]
 refine a0a (a0a (a0a (hS'.state (a0c ?_))))
 refine a0a (a5r (inner h2) (a0c ?_))
 dsimp only
 rw [List.forIn_nil]
 exact a0c (a0c h)
theorem c6.at_ {a:Addr} {S:Int -> Bool} {n:Nat} {h:Heap} (x:c6 prog w a S n h):∃ es ep t,SetAt h a es ep t /\ ElemsOf (intKind prog w) es.toList /\ (∀ k,S k = true ↔ ∃ e ∈ es.toList,(intKind prog w).is k e.2 = true) /\ es.size < scanBound /\ es.size = n /\ O8 (w.params.followText "set-order") t /\ (es.toList.map λe=>dP e.2).Nodup:=by
 obtain ⟨o,es,ep,t,ho,hex,hd,hel,hmem,hb,hf,hn,hwk,hnd⟩:=x
 exact ⟨es,ep,t,⟨⟨o,ho,hex,hd⟩,hf⟩,hel,hmem,hb,hn,hwk,hnd⟩
theorem SN {a b:Addr} {S S':Int -> Bool} {n n':Nat} {es:Array (Int × Value)} {ep:Nat} {t:SetTable} {Q:Array (Int × Value) -> Shared -> Prop} (hab:a ≠ b) (hS:SetAt s.heap b es ep t) (hel:ElemsOf (intKind prog w) es.toList) (hwk:O8 (w.params.followText "set-order") t) (hX:c6 prog w a S' n' s.heap)
  (h:∀ (ys:Array (Int × Value)) h',ys.toList.Perm es.toList -> Heap.SameBut a s.heap h' -> c6 prog w a S' n' h' -> Q ys { s with heap:=h' }):wpAny (model prog w) A (setWalkUnseen b [a] (some a)) Q E s:=by
 unfold setWalkUnseen
 refine a0a (hS.state ?_)
 dsimp only
 refine a0a (jT ?_)
 have stay:∀ ys:Array (Int × Value),ys.toList.Perm es.toList -> Q ys s:=λys hp=>h ys s.heap hp (a4h a s.heap) hX
 by_cases hc:(w.params.followText "set-order" || t.led && t.plain || decide (es.size <= 1)) = true
 ·rw [if_pos hc]
  refine a1Q hS ?_ stay
  cases hbt:w.params.followText "set-order" with
  | true=>exact .inl rfl
  | false =>
   right
   rw [hbt,Bool.false_or,a3n] at hc
   have hl:=(hwk.resolve_left (by rw [hbt];exact a0j)).1
   rw [hl]
   refine ⟨?_,by simp⟩
   rcases hc with z | z
   ·rw [a1e] at z;rw [z.2];rfl
   ·have:¬ es.size > 1:=by have:=a4f z;omega
    simp [this]
 ·rw [if_neg hc]
  obtain ⟨es',ep',t',hS',hel',hmem',hb',hn',hwk',hnd'⟩:=hX.at_
  refine a0a (VY hS hS' hel hel' ?_)
  rw [if_neg (by simp)]
  refine a0a (a4r ?_)
  refine a0a (hS'.state ?_)
  dsimp only
  have hbt:w.params.followText "set-order" = false:=by
   cases hq:w.params.followText "set-order" with
   | false=>rfl
   | true=>rw [hq] at hc;exact absurd rfl hc
  have hl:=(hwk.resolve_left (by rw [hbt];exact a0j)).1
  split
  ·obtain ⟨⟨o,ho,hex,hd⟩,hf⟩:=hS'
   refine a0a (a4g ho hd ?_ (a4x hb'))
   have hf2:SetTable.fits { t' with led:=t'.led && t.led,plain:=t'.plain && t.plain } es'.size = true:=hf
   obtain ⟨h2,_⟩:=a5p (knd:=intKind prog w) (S':=S') ho hex hd hel' hmem' hb' hf2
   refine a0c (h es _ (.refl _) (a2l _ a _) ⟨_,_,_,_,h2,hex,rfl,hel',hmem',hb',hf2,hn',?_,hnd'⟩)
   exact hwk'.imp id λz=>⟨by show (t'.led && t.led) = true;rw [z.1,hl];rfl,λq=>z.2 (by have:(t'.plain && t.plain) = true:=q;rw [a1e] at this;exact this.1)⟩
  ·exact a0c (stay es (.refl _))
theorem KS {a b:Addr} {es0:Array (Int × Value)} {ep:Nat} {t:SetTable} {Q:Unit -> Shared -> Prop} (id:String) (hab:a ≠ b):∀ (ys:List (Int × Value)) (s:Shared) (S:Int -> Bool) (n m:Nat),SetAt s.heap b es0 ep t -> ElemsOf (intKind prog w) ys -> c6 prog w a S n s.heap -> n <= m -> m + ys.length + 1 < scanBound ->
  (∀ h' n' S',Heap.SameBut a s.heap h' -> c6 prog w a S' n' h' -> n' <= m + ys.length -> (∀ k,S' k = ((ys.filter λe=>decide (dP e.2 = k)).foldl (λq _=>!q) (S k))) -> Q () { s with heap:=h' }) ->
  wpAny (model prog w) A (forIn ys PUnit.unit (λ(x:Int × Value) (__s:PUnit)=>match x with
   | (h,x)=>do
    (holding [x] (do
     let __do_lift <- setDiscardHashed a x h
     if (!__do_lift) = true then do
      let _ <- setAddHashed a x h
      pure ()
     else pure ()):Sem Unit)
    Builtin.Frozenset.unchanged id b ep
    pure (ForInStep.yield PUnit.unit))) (λ_ s'=>Q () s') E s
 | [],s,S,n,m,hb,hel,hX,hn,hm,k=>by
  rw [List.forIn_nil]
  exact a0c (k s.heap n S (a4h a s.heap) hX hn λj=>rfl)
 | e :: ys,s,S,n,m,hb,hel,hX,hn,hm,k=>by
  obtain ⟨⟨k0,hk0,hh0⟩,hsc⟩:=hel e a0n
  obtain ⟨e1,e2⟩:=e
  dsimp only at hk0 hh0 hsc
  rw [a2g] at hm
  rw [a5g]
  dsimp only
  subst hh0
  refine a0a (a0a (YZ hk0 hsc hX hn (by omega) λh1 n1 sb1 hX1 hn1=>?_))
  have hb1:SetAt h1 b es0 ep t:=hb.keeps λo e=>(sb1.2 b (a2d hab)).trans e
  unfold Builtin.Frozenset.unchanged setEpoch
  refine a0a (a0a (a0a (hb1.state (s:={ s with heap:=h1 }) (a0c ?_))))
  rw [if_neg (by simp)]
  refine a0c (a0c ?_)
  dsimp only
  refine KS id hab ys { s with heap:=h1 } _ n1 (m + 1) hb1 (λx hx=>hel x (a0i _ hx)) hX1 hn1 (by omega) λh2 n2 S2 sb2 hX2 hn2 hS2=>?_
  refine k h2 n2 S2 (sb1.trans sb2) hX2 (by rw [a2g];omega) λj=>?_
  rw [hS2 j,a2k]
  obtain ⟨tk,rfl⟩:=d8 hk0
  show List.foldl _ (if j = k0 then !S k0 else S j) _ = List.foldl _ (S j) (if decide (k0 = j) = true then _ else _)
  by_cases z:k0 = j
  ·subst z;simp
  ·have z':¬ j = k0:=λq=>z q.symm
   simp [z,z']
end
theorem BB:entryFor table "set.__xor__" = some Builtin.«frozenset.__xor__»:=entryFor_alias (id' := "frozenset.__xor__") (by kernel_rfl) rfl (by decide +kernel) (by kernel_rfl)
section
variable {prog:Program} {w:World} {A:Around} {E:Value -> Shared -> Prop} {s:Shared}
theorem c6.typeIs {a:Addr} {S:Int -> Bool} {n:Nat} {s:Shared} (x:c6 prog w a S n s.heap):s.TypeIs (.ref a) "set" := by
 obtain ⟨o,es,ep,t,ho,hex,_⟩:=x
 exact ⟨o,ho,hex.1⟩
theorem tN {a:Addr} {Q:Bool -> Shared -> Prop} (hT:s.TypeIs (.ref a) "set") (h:Q true s):wpAny (model prog w) A (Builtin.Frozenset.isAnySet (.ref a)) Q E s:=by
 unfold Builtin.Frozenset.isAnySet
 show wpAny _ _ (isInstance (.ref a) (.type "set") >>= _) _ _ _
 exact a0a (a5z hT sub_set_self (a0c h))
theorem CC {α:Type}:∀ (l:List α) (q:Bool),l.foldl (λq _=>!q) q = if l.length % 2 = 0 then q else !q
 | [],q=>rfl
 | a :: l,q=>by
  rw [List.foldl_cons,CC l,a2g]
  by_cases h:l.length % 2 = 0
  ·rw [if_pos h,if_neg (by omega)]
  ·rw [if_neg h,if_pos (by omega),Bool.not_not]
theorem a44 {a b:Addr} {S T:Int -> Bool} {n m:Nat} {Q:Value -> Shared -> Prop} (hA:c6 prog w a S n s.heap) (hB:c6 prog w b T m s.heap) (hn:n < 1000) (hm:m < 32)
  (k:∀ h' r U,(∀ b o,s.heap.get? b = some o -> h'.get? b = some o) -> c6 prog w s.heap.objs.size U r h' -> r <= n + m -> (∀ j,U j = (S j != T j)) -> Q (.ref s.heap.objs.size) { s with heap:=h' }) :
  wpAny (model prog w) A (binaryOp .BitXor (.ref a) (.ref b)) Q E s:=by
 have tA:=hA.typeIs
 have tB:=hB.typeIs
 refine wpAny_binaryOp_same (op:=.BitXor) tA tB F.fills_set_xor F.slot_set_xor (a2j F.slot_set_xor tA BB ?_ (F.args_set_xor_2 _ _))
 unfold Builtin.«frozenset.__xor__»
 show wpAny _ _ (do
  let (self,other) <- Builtin.Frozenset.slot1 "__xor__" ⟨[.ref a,.ref b],[]⟩
  if !(<- (Builtin.Frozenset.isAnySet self <&&> Builtin.Frozenset.isAnySet other)) then rule (toString "frozenset." ++ toString "__xor__" ++ toString ".declined");return <- ret .notImplemented
  ret (<- (do
   let result <- Builtin.Frozenset.newFrom (toString "frozenset." ++ toString "__xor__" ++ toString "") (<- Builtin.Frozenset.baseOf (<- Builtin.Frozenset.addrOf self)) other
   holding [result] (Builtin.Frozenset.symmetricDifferenceUpdate (toString "frozenset." ++ toString "__xor__" ++ toString "") (<- Builtin.Frozenset.addrOf result) (.ref a))
   return result))) _ _ _
 unfold Builtin.Frozenset.slot1
 refine a0a (a5r (a:=(Value.ref a,Value.ref b)) rfl ?_)
 dsimp only
 refine a0a ?_
 show wpAny _ _ (Builtin.Frozenset.isAnySet (.ref a) >>= _) _ _ _
 refine a0a (tN tA ?_)
 show wpAny _ _ (Builtin.Frozenset.isAnySet (.ref b)) _ _ _
 refine tN tB ?_
 rw [if_neg (by simp)]
 refine a0a ?_
 unfold Builtin.Frozenset.baseOf Builtin.Frozenset.newFrom Builtin.Frozenset.addrOf
 refine a0a (a0c (a0a (a0a (a5z tA sub_set_self (a0c ?_)))))
 rw [if_pos rfl]
 refine a0a (a0a (QP ?_))
 generalize hp:s.heap.objs.size = p at *
 have hE:(s.heap.push (bG w)).get? p = some (bG w):=by rw [<- hp];exact a0y _ rfl
 have kp:∀ c o,s.heap.get? c = some o -> (s.heap.push (bG w)).get? c = some o:=λc o e=>a0e _ e
 have nep:∀ {c:Addr} {o:Obj},s.heap.get? c = some o -> p ≠ c:=λe=>by rw [<- hp];exact a4z (a0m e)
 have hA0:c6 prog w a S n (s.heap.push (bG w)):=hA.mono λo e=>kp a o e
 have hB0:c6 prog w b T m (s.heap.push (bG w)):=hB.mono λo e=>kp b o e
 have hpa:p ≠ a:=by obtain ⟨o,_,_,_,e,_⟩:=hA;exact nep e
 have hpb:p ≠ b:=by obtain ⟨o,_,_,_,e,_⟩:=hB;exact nep e
 generalize s.heap.push (bG w) = h0 at hE kp hA0 hB0
 refine a0a (a0c (a0a (a1s ?_)))
 unfold Builtin.Frozenset.updateFrom
 refine a0a (tN (s:={ s with heap:=h0 }) hB0.typeIs ?_)
 rw [if_pos rfl]
 unfold Builtin.Frozenset.addrOf Builtin.Frozenset.merge setEpoch
 refine a0a (a0c ?_)
 obtain ⟨esb,epb,tb,hSb,_⟩:=hB0.at_
 refine a0a (a0a (hSb.state (s:={ s with heap:=h0 }) (a0c ?_)))
 refine V1 (s:={ s with heap:=h0 }) hE hpb hB0 hm λh1 sb1 hX1=>?_
 have hA1:c6 prog w a S n h1:=hA0.mono λo e=>(sb1.2 a (a2d hpa)).trans e
 refine a0c ?_
 refine a0a (a0c (a0a (a1s ?_)))
 unfold Builtin.Frozenset.symmetricDifferenceUpdate
 rw [if_neg (by simpa using a2d hpa)]
 refine a0a (wpAny_typeOf (s:={ s with heap:=h1 }) hA1.typeIs ?_)
 rw [if_neg (by decide)]
 refine a0a (tN (s:={ s with heap:=h1 }) hA1.typeIs ?_)
 rw [if_pos rfl]
 unfold Builtin.Frozenset.addrOf setEpoch
 refine a0a (a0c (a0a (a0c ?_)))
 obtain ⟨esa,epa,ta,hSa,hela,hmema,hba,hna,hwka,hnda⟩:=hA1.at_
 refine a0a (a0a (hSa.state (s:={ s with heap:=h1 }) (a0c ?_)))
 refine a1s (a0a (SN (s:={ s with heap:=h1 }) (S:=S) (n:=n) hpa hSa hela hwka hX1 λys h2 hperm sb2 hX2=>?_))
 have hS2:SetAt h2 a esa epa ta:=hSa.keeps λo e=>(sb2.2 a (a2d hpa)).trans e
 have hly:ys.toList.length = n:=by rw [hperm.length_eq,a0s,hna]
 rw [<- Array.forIn_toList]
 have h4096:scanBound = 4096:=rfl
 refine a0a (KS (Q:=λ_ s'=>wpAny (model prog w) A.in1 (pure ()) _ E s') _ hpa ys.toList { s with heap:=h2 } T m m hS2 (λe he=>hela e (hperm.mem_iff.mp he)) hX2 (a0l _) (by rw [hly];omega) λh3 r U sb3 hX3 hr hU=>?_)
 refine a0c (a0c (a0c ⟨_,rfl,(λz=>by cases z),k h3 r U (λc o e=>?_) hX3 (by rw [hly] at hr;omega) λj=>?_⟩))
 ·have hc:=a2d (nep e)
  exact (sb3.2 c hc).trans ((sb2.2 c hc).trans ((sb1.2 c hc).trans (kp c o e)))
 ·rw [hU j,CC]
  have e1:(ys.toList.filter λe=>decide (dP e.2 = j)).length = (esa.toList.filter λe=>decide (dP e.2 = j)).length:=(hperm.filter _).length_eq
  have e2:(esa.toList.filter λe=>decide (dP e.2 = j)).length = (esa.toList.map λe=>dP e.2).count j:=by
   rw [List.count_eq_countP,List.countP_map,List.countP_eq_length_filter]
   first
    | rfl
    | (congr 2;funext e;show decide (dP e.2 = j) = (dP e.2 == j);by_cases z:dP e.2 = j <;> simp [z])
  have e3:S j = true ↔ j ∈ esa.toList.map λe=>dP e.2:=by
   rw [hmema j,a0p]
   constructor
   ·rintro ⟨e,he,hk⟩
    obtain ⟨t,e2⟩:=d8 hk
    exact ⟨e,he,by rw [e2];rfl⟩
   ·rintro ⟨e,he,hk⟩
    obtain ⟨⟨k',hk',_⟩,_⟩:=hela e he
    obtain ⟨t,e2⟩:=d8 hk'
    have:k' = j:=by rw [<- hk,e2];rfl
    subst this
    exact ⟨e,he,hk'⟩
  rw [e1,e2]
  cases hS:S j with
  | true =>
   have hm1:=e3.mp hS
   have c1:(esa.toList.map λe=>dP e.2).count j = 1:=by
    have h1:=List.nodup_iff_count.mp hnda j
    have h2:=List.count_pos_iff.mpr hm1
    omega
   rw [c1]
   cases T j <;> rfl
  | false =>
   have hm1:j ∉ esa.toList.map λe=>dP e.2:=λz=>by rw [e3.mpr z] at hS;cases hS
   rw [List.count_eq_zero.mpr hm1]
   cases T j <;> rfl
end
section
variable {X:Cx}
theorem OV:bootBuiltins "set" = some (.type "set"):=by rfl
def RY (P:Program) (w:World) (K:PySem.W.Frag):List V -> Hp -> VK -> Prop:=λxs H Q=>∃ p ns,xs = [.ref p] /\ fN K H p (List.map V.int ns) /\ ns.length <= 1000 /\
 ∀ (a:Addr) (S:Int -> Bool) (n:Nat),H a = none -> (∀ k,S k = true ↔ k ∈ ns) -> n <= ns.length -> Q (.ref a) (c7 H a (fP P w a S n))
theorem CA (hc:X.calm = true):i8 X (.type "set") (RY X.prog X.w X.K):=by
 intro pins s σ H xs us Q I r h
 obtain ⟨p,ns,rfl,hp,hl,q⟩:=h
 obtain ⟨u,rfl,ru⟩:=rH r
 cases ru
 obtain ⟨its,rv,hp',hz⟩:=I.list hp
 have hi:IntsAre its ns:=zU rv
 have hvl:its.length = ns.length:=IntsAre.length hi
 have h4096:scanBound = 4096:=rfl
 refine call_set_list_x (I.ok.hd hc) hp'.isList (by simpa using hi) (by simp;omega) λh' tk hX hk=>?_
 have kp:∀ b u,s.heap.get? b = some u -> h'.get? b = some u:=λb o e=>hk b o (a0m e) e
 refine ⟨.ref s.heap.objs.size,_,I.laid (a:=s.heap.objs.size) (t':=tk) kp (a0l _) hX.ok,rfl,q _ _ _ (I.hok.fresh (a0l _)) (λk=>?_) ?_⟩
 ·have e1:((List.range its.length).map λi=>ns.getD i 0) = ns:=by
   rw [hvl]
   apply a3s
   ·simp
   ·intro i h1 h2
    simp [a0g,a0b h2]
  rw [firstMet_any]
  simp only [a0t]
  rw [e1,a5x]
  simp
 ·have:=firstMet_length_le (λi=>ns.getD i 0) its.toArray.size
  simp only [a0t] at this ⊢
  omega
def a3H (P:Program) (w:World):R2:=λx y H Q=>∃ a b S T n m,x = .ref a /\ y = .ref b /\ H a = some (fP P w a S n) /\ H b = some (fP P w b T m) /\ n < 1000 /\ m < 32 /\
 ∀ (c:Addr) (U:Int -> Bool) (r:Nat),H c = none -> r <= n + m -> (∀ j,U j = (S j != T j)) -> Q (.ref c) (c7 H c (fP P w c U r))
theorem Inv.setX {pins:List (Addr × Obj)} {σ:St} {H:Hp} {s:Shared} {p:Addr} {S:Int -> Bool} {n:Nat} (I:Inv X pins σ H s) (hp:H p = some (fP X.prog X.w p S n)):c6 X.prog X.w p S n s.heap:=by
 obtain ⟨hX,_,_⟩ : c6 X.prog X.w p S n s.heap /\ (∃ o,s.heap.get? p = some o) /\ (∀ h1 h2:Heap,c6 X.prog X.w p S n h1 -> (∀ o,h1.get? p = some o -> h2.get? p = some o) -> c6 X.prog X.w p S n h2):=I.hok p _ hp
 exact hX
theorem a2T:tJ X (binaryOp .BitXor) (a3H X.prog X.w):=by
 intro pins s σ H x y v u Q I rx ry h
 obtain ⟨a,b,S,T,n,m,rfl,rfl,ha,hb,hn,hm,q⟩:=h
 cases rx;cases ry
 refine a44 (I.setX ha) (I.setX hb) hn hm λh' r U kp hX hr hU=>?_
 exact ⟨.ref s.heap.objs.size,_,I.laid (a:=s.heap.objs.size) (t':=s.toks) kp (a0l _) hX.ok,rfl,q _ _ _ (I.hok.fresh (a0l _)) hr hU⟩
end
def qT (ns ms:List Int):List Int:=(ns.filter λk=>!decide (k ∈ ms)) ++ (ms.filter λk=>!decide (k ∈ ns))
theorem p4 {ns ms:List Int} {k:Int}:k ∈ qT ns ms ↔ (k ∈ ns /\ k ∉ ms) \/ (k ∈ ms /\ k ∉ ns):=by
 unfold qT
 rw [a1g,a2e,a2e]
 simp
def kZ (n:Nat) (x:PV) (K:List Int -> Prop):Prop:=match x with
 | .lst xs=>(match PV.ints xs with
  | some ns=>ns.length < n /\ K ns
  | none=>False)
 | _=>False
theorem CL {n:Nat} {ns:List Int} {K:List Int -> Prop} (hl:ns.length < n) (q:K ns):kZ n (.lst (ns.map PV.int)) K:=by unfold kZ;simp only [PV.ints_map];exact ⟨hl,q⟩
theorem AB {n:Nat} {x:PV} {K:List Int -> Prop} (h:kZ n x K):∃ xs ns,x = .lst xs /\ PV.ints xs = some ns /\ ns.length < n /\ K ns:=by
 unfold kZ at h
 cases x with
 | lst xs =>
  dsimp only at h
  cases hi:PV.ints xs with
  | none=>rw [hi] at h;exact h.elim
  | some ns=>rw [hi] at h;exact ⟨xs,ns,rfl,hi,h.1,h.2⟩
 | _=>exact h.elim
def pSortXor (a b:b8):b8:=λenv Q=>a env λx=>kZ 32 x λns=>b env λy=>kZ 32 y λms=>Q (.lst ((aS (qT ns ms)).map PV.int))
section
variable {X:Cx} {md:List Md} {a b:Expr} {pa pb:b8} {p p1 p2 pos pos1 pos2 pos3:Pos}
theorem HF {G:Addr -> Prop} {H:Hp} {v:V} {xs:List PV} {ns:List Int} (r:Rep G H v (.lst xs)) (h:PV.ints xs = some ns):∃ l,v = .ref l /\ H l = some (.lst (List.map V.int ns)):=by
 rw [PV.ints_of h] at r
 obtain ⟨l,vs,rfl,_,e,rs⟩:=Rep.ofList r
 rw [rs.ints] at e
 exact ⟨l,rfl,e⟩
theorem KF (hc:X.calm = true) (hg0:X.env.scope.names.lookup ("sorted" : Str) = some .globalImplicit) (hm0:X.mg "sorted" = none) (hg1:X.env.scope.names.lookup ("set" : Str) = some .globalImplicit) (hm1:X.mg "set" = none) (ha:VE X md a .bw pa) (hb:VE X md b .bw pb)
  (h1:starEach [a] X.env = (false,eval a X.env) :: starEach [] X.env:=by rfl) (h1':starEach [b] X.env = (false,eval b X.env) :: starEach [] X.env:=by rfl)
  (h2:starEach [.BinOp (.Call (.Name "set" p1) [a] [] pos1) .BitXor (.Call (.Name "set" p2) [b] [] pos2) pos3] X.env = (false,eval (.BinOp (.Call (.Name "set" p1) [a] [] pos1) .BitXor (.Call (.Name "set" p2) [b] [] pos2) pos3) X.env) :: starEach [] X.env:=by rfl)
  (hl1:(backTo pos1 (starEach [] X.env)).any (·.1) = false:=by rfl) (hl1':(backTo pos2 (starEach [] X.env)).any (·.1) = false:=by rfl) (hl2:(backTo pos (starEach [] X.env)).any (·.1) = false:=by rfl) :
  VE X md (.Call (.Name "sorted" p) [.BinOp (.Call (.Name "set" p1) [a] [] pos1) .BitXor (.Call (.Name "set" p2) [b] [] pos2) pos3] [] pos) (.o .fl) (pSortXor pa pb) :=
 ⟨(pL (CB hc) hg0 hm0 pZ (iV (GV a2T (m7 (CA hc) hg1 hm1 OV (iV ha.h nM h1) (by decide) (by decide) h1 hl1) (m7 (CA hc) hg1 hm1 OV (iV hb.h nM h1') (by decide) (by decide) h1' hl1')) nM h2) (by decide) (by decide) h2 hl2).imp λσ H Q h=>by
 obtain ⟨env,W0,H0,W,Q',R,q,k⟩:=h
 refine ⟨env,W0,H0,W,_,R,q,λx v W1 H1 g1 r1 q1=>?_⟩
 obtain ⟨xs,ns,rfl,hi,hlt,q1⟩:=AB q1
 obtain ⟨l,rfl,e⟩:=HF r1 hi
 have R1:=R.step g1
 refine ⟨l,ns,rfl,fN.of e,by omega,λc S n hc' hS hn=>?_⟩
 have gl:Go W1 H1 W1 (c7 H1 c (fP X.prog X.w c S n)):=Go.laid R1.ok hc'
 have R2:=R1.step gl
 refine ⟨env,W0,H0,W1,_,R2,q1,λy u W3 H3 g3 r3 q3=>?_⟩
 obtain ⟨ys,ms,rfl,hi2,hlt2,q3⟩:=AB q3
 obtain ⟨l',rfl,e'⟩:=HF r3 hi2
 have R3:=R2.step g3
 refine ⟨l',ms,rfl,fN.of e',by omega,λc2 T m hc2 hT hm=>?_⟩
 have gl2:Go W3 H3 W3 (c7 H3 c2 (fP X.prog X.w c2 T m)):=Go.laid R3.ok hc2
 have at1:H3 c = some (fP X.prog X.w c S n):=g3.kp c _ bK λz=>R1.ok.offS hc' z
 have nc:c ≠ c2:=λz=>by rw [z,hc2] at at1;cases at1
 refine ⟨c,c2,S,T,n,m,rfl,rfl,by rw [aG nc];exact at1,bK,by omega,by omega,λc3 U r hc3 hr hU=>?_⟩
 have gl3:Go W3 (c7 H3 c2 (fP X.prog X.w c2 T m)) W3 (c7 (c7 H3 c2 (fP X.prog X.w c2 T m)) c3 (fP X.prog X.w c3 U r)):=Go.laid gl2.ok hc3
 refine ⟨c3,U,r,rfl,bK,by omega,λl2 zs hl2' hlt3 hms=>?_⟩
 have:zs = aS (qT ns ms):=IA hlt3 λj=>by
  rw [<- hms j,hU j,p4,<- hS j,<- hT j]
  cases S j <;> cases T j <;> simp
 subst this
 exact (k.after ((((g1.trans gl).trans g3).trans gl2).trans gl3)).newL gl3.ok hl2' (qF _) q3⟩
end
def tyB (T:String) (x:PV):Prop:=match x with
 | .str _=>T = "str"
 | .lst _=>T = "list"
 | .dic _ _=>T = "dict"
 | _=>False
def pBm (T:String) (pm:PV -> PN) (a:b8) (t:tM):b8:=λenv Q=>a env λx=>tyB T x /\ t env λys=>pm x ys Q
structure SimB (r:V -> List V -> Hp -> VK -> Prop) (m0:Md) (ms:List Md) (m:Md) (pm:PV -> PN):Prop where
 h:∀ (B H0:Hp) (W:Wd) (H:Hp) (v:V) (x:PV) (vs:List V) (ys:List PV) (Q:PV -> Prop) (K:VK),Wok W H -> ResE B H0 W H m0 v x -> ResEs B H0 W H ms vs ys -> pm x ys Q -> mL B W H m Q K -> r v vs H K
def Md.see:Md -> Bool
 | .p _=>true
 | .bw=>true
 | .v _=>true
 | _=>false
theorem WV {K:PySem.W.Frag} {B H0 H:Hp} {W:Wd} {m:Md} {v:V} {x:PV} {T:String} (r:ResE B H0 W H m v x) (w:Wok W H) (hm:m.see = true) (t:tyB T x):a4C K T v H:=by
 have r':Rep (λa=>¬ W.S a) H v x:=r.lend w (by cases m <;> first | rfl | cases hm)
 cases x with
 | str s=>cases r';exact t
 | lst xs=>obtain ⟨a,vs,rfl,_,e,_⟩:=r'.ofList;exact .inl ⟨t,_,fN.of e⟩
 | dic ks xs=>obtain ⟨a,vs,rfl,_,e,_⟩:=r'.ofDic;exact .inr (.inr (.inl ⟨t,.inl ⟨_,e⟩⟩))
 | _=>exact (show False from t).elim
theorem ResE.see {B H0 H0' H1 H2:Hp} {W1 W2:Wd} {m:Md} {v:V} {x:PV} (r:ResE B H0 W1 H1 m v x) (hm:m.see = true) (w:Wok W1 H1) (g:Go W1 H1 W2 H2):ResE B H0' W2 H2 m v x:=by
 have:=r.go w g
 cases m <;> first | exact this | cases hm
section
variable {X:Cx} {md:List Md} {e o:Expr} {es:List Expr} {pt:tM} {pe:b8} {el:El} {T id:String} {r:V -> List V -> Hp -> VK -> Prop} {ms:List Md} {m0 m:Md} {pm:PV -> PN} {name:Str} {apos cpos pos p:Pos}
theorem a3Z (pa:PlainAttrs T) (slot:Slot T name id) (hty:typeOf (.builtin id) = pure (.type "method_descriptor")) (hm:QM X id r) (hs:SimB r m0 ms m pm) (hsee:m0.see = true) (ho:VE X md o m0 pe) (ha:VA X md (e :: es) ms pt)
  (hbase:attributeBase o name X.env (eval o X.env) = eval o X.env:=by rfl)
  (hfew:((backTo cpos (starEach (e :: es) X.env)).all (λx=>!x.1) && (backToKw cpos (keywordEach [] X.env)).all (λx=>x.1.isSome)
   && decide ((e :: es).length + ([]:List Keyword).length + (if ([]:List Keyword).isEmpty then 0 else 1) < 30)) = true:=by rfl)
  (hline:(apos.endLine == cpos.line) = true:=by rfl) (hse:starEach (e :: es) X.env = (false,eval e X.env) :: starEach es X.env:=by rfl) (hplain:(backTo cpos (starEach es X.env)).any (·.1) = false:=by rfl) :
  VE X md (.Call (.Attribute o name apos) (e :: es) [] cpos) m (pBm T pm pe pt):=⟨(XC pa slot hty hm.h ho.h ha.h hbase hfew hline hse hplain).imp λσ H K=>by
 rintro ⟨env,W0,H0,W,Q,R,q,k⟩
 refine ⟨env,W0,H0,W,_,R,q,λx v W1 H1 g1 r1 q1=>⟨WV r1 g1.ok hsee q1.1,env,W0,H0,W1,_,R.step g1,q1.2,λys vs W2 H2 g2 r2 q2=>?_⟩⟩
 exact hs.h H0 H1 W2 H2 v x vs ys Q K g2.ok (r1.see hsee g1.ok g2) r2 q2 (k.after (g1.trans g2))⟩
end
theorem MU {ks:List cK}:∀ {vs:List V} {xs:List PV},vs.length = xs.length -> ∀ {k:cK},FN ks xs k = none -> vF (ks.zip vs) k = none:=by
 induction ks with
 | nil=>intro vs xs _ k _;rfl
 | cons a ks ih =>
  intro vs xs hl k e
  cases xs with
  | nil=>cases vs with
   | nil=>rfl
   | cons=>cases hl
  | cons y xs =>
   cases vs with
   | nil=>cases hl
   | cons v vs =>
    unfold FN at e
    rw [a2o,a2b] at e
    rw [a2o]
    by_cases h:a = k
    ·rw [a2m h] at e;cases e
    ·rw [a1f h] at e
     rw [pW (p:=(a,v)) h]
     exact ih (xs:=xs) (by simpa using hl) e
def RS:V -> List V -> Hp -> VK -> Prop:=λx vs H Q=>∃ a kvs k z,x = .ref a /\ vs = [kV k,z] /\ H a = some (.dK kvs) /\ Q ((vF kvs k).getD z) H
theorem RN {X:Cx} (hu:X.A.units + 64 < cLine):QM X "dict.get" RS:=⟨by
 intro pins s σ H x xs v us Q I rx rv h
 obtain ⟨a,kvs,k,z,rfl,rfl,e,q⟩:=h
 cases rx
 obtain ⟨u,w,rfl,r1,r2⟩:=SR rv
 exact Y3 (by omega) I (F2.k e) r1 r2 λw' s' I' r'=>⟨_,H,I',r',q⟩⟩
def wH:PV -> PN:=λx ys Q=>match x,ys with
 | .dic ks xs,[y,z]=>(match OA y with
  | some k=>Q ((FN ks xs k).getD z)
  | none=>False)
 | _,_=>False
theorem NW {el:El}:SimB RS (.p el) [.bw,.v el] (.v el) wH:=⟨λB H0 W H v x vs ys Q K w r rs q k=>by
 obtain ⟨u1,y1,u2,y2,rfl,rfl,r1,r2⟩:=rs.two
 unfold wH at q
 cases x with
 | dic ks xs =>
  dsimp only at q
  cases hk:OA y1 with
  | none=>rw [hk] at q;exact q.elim
  | some kk =>
   rw [hk] at q
   dsimp only at q
   obtain ⟨a,us,rfl,e,hl,rr⟩:=RepP.ofDic r
   have hu:u1 = kV kk:=L4 (S:=λ_=>True) hk r1
   subst hu
   refine ⟨a,_,kk,u2,rfl,rfl,e,?_⟩
   cases hg:FN ks xs kk with
   | none =>
    rw [hg] at q
    rw [MU rr.len hg]
    exact k.val w r2 q
   | some z =>
    rw [hg] at q
    obtain ⟨w',e1,e2⟩:=rr.dget hg
    rw [e1]
    exact k.val w e2 q
 | _=>exact q.elim⟩
abbrev RD.pC (x:PV):b8:=λ_ Q=>Q x
abbrev RD.pVar (i:Nat):b8:=λenv Q=>match kL env i with
 | some (some x)=>Q x
 | _=>False
abbrev RD.pOp (r:P2) (a b:b8):b8:=λenv Q=>a env λx=>b env λy=>r x y Q
abbrev RD.pUn (r:PV -> (PV -> Prop) -> Prop) (a:b8):b8:=λenv Q=>a env λx=>r x Q
abbrev RD.pNil:tM:=λ_ Q=>Q []
abbrev RD.pCons (a:b8) (r:tM):tM:=λenv Q=>a env λx=>r env λxs=>Q (x :: xs)
abbrev RD.pCl (r:PN) (a:tM):b8:=λenv Q=>a env λxs=>r xs Q
abbrev RD.pBo (a:b8):jB:=λenv Q=>a env λx=>match x with
 | .bl b=>Q b
 | _=>False
abbrev RD.pAnd (a b:jB):jB:=λenv Q=>a env λk=>Br k (b env Q) (Q false)
abbrev RD.pOr (a b:jB):jB:=λenv Q=>a env λk=>Br k (Q true) (b env Q)
abbrev RD.pChain (r r':P2) (a b c:b8):b8:=λenv Q=>a env λx=>b env λy=>r x y λz=>match z with
 | .bl k=>Br k (c env λw=>r' y w Q) (Q (.bl false))
 | _=>False
abbrev RD.pFlat (a:b8):b8:=λenv Q=>a env λx=>x.flat = true /\ Q x
abbrev RD.pFlatL (a:b8):b8:=λenv Q=>a env λx=>match x with
 | .lst xs=>PV.flats xs = true /\ Q (.lst xs)
 | _=>False
abbrev RD.pLst (a:tM):b8:=λenv Q=>a env λxs=>Q (.lst xs)
abbrev RD.pTup (a:tM):b8:=λenv Q=>a env λxs=>Q (.tup xs)
abbrev RD.pI (C:Int -> Int -> Prop) (f:Int -> Int -> PV):P2:=λx y Q=>match x,y with
 | .int i,.int j=>C i j /\ Q (f i j)
 | _,_=>False
abbrev RD.pI0 (f:Int -> Int -> PV):P2:=λx y Q=>match x,y with
 | .int i,.int j=>Q (f i j)
 | _,_=>False
abbrev RD.pU (f:Int -> PV):PV -> (PV -> Prop) -> Prop:=λx Q=>match x with
 | .int i=>Q (f i)
 | _=>False
abbrev RD.pAddS:P2:=λx y Q=>match x,y with
 | .str i,.str j=>i.length + j.length <= sizeLine /\ Q (.str (i ++ j))
 | _,_=>False
abbrev RD.pIsN:P2:=λx y Q=>match y with
 | .non=>Q (.bl x.isNon)
 | _=>False
abbrev RD.pNotN:P2:=λx y Q=>match y with
 | .non=>Q (.bl (!x.isNon))
 | _=>False
abbrev RD.pNoPart:OJ:=λ_ Q=>Q none
abbrev RD.pPart (a:b8):OJ:=λenv Q=>a env λx=>match x with
 | .int i=>Q (some i)
 | _=>False
abbrev RD.pSlL (x:PV) (lo hi:Option Int) (Q:PV -> Prop):Prop:=match x with
 | .lst xs=>Q (.lst (FD xs lo hi))
 | _=>False
abbrev RD.pSlT (x:PV) (lo hi:Option Int) (Q:PV -> Prop):Prop:=match x with
 | .tup xs=>¬ (HT.sIx xs.length 0 lo = 0 /\ HT.sIx xs.length xs.length hi = xs.length) /\ Q (.tup (FD xs lo hi))
 | _=>False
abbrev RD.pSlice (r:PV -> Option Int -> Option Int -> (PV -> Prop) -> Prop) (a:b8) (lo hi:OJ):b8:=λenv Q=>a env λx=>lo env λl=>hi env λh=>r x l h Q
abbrev RD.pCat:P2:=λx y Q=>match x,y with
 | .lst xs,.lst ys=>xs.length + ys.length <= sizeLine /\ Q (.lst (xs ++ ys))
 | _,_=>False
abbrev RD.pRep:P2:=λx y Q=>match x,y with
 | .lst xs,.int k=>-(2 ^ 63) <= k /\ k < 2 ^ 63 /\ xs.length * k.toNat <= sizeLine /\ Q (.lst (List.replicate k.toNat xs).flatten)
 | _,_=>False
abbrev RD.pLen:PN:=λxs Q=>match xs with
 | [.lst ys]=>Q (.int ys.length)
 | [.tup ys]=>Q (.int ys.length)
 | [.str s]=>s.length <= sizeLine /\ Q (.int s.length)
 | _=>False
abbrev RD.pLenScr:PN:=λxs Q=>match xs with
 | [.scr ns]=>Q (.int ns.length)
 | _=>False
abbrev RD.pMax2:PN:=λxs Q=>match xs with
 | [.int i,.int j]=>Q (.int (max i j))
 | _=>False
abbrev RD.pMin2:PN:=λxs Q=>match xs with
 | [.int i,.int j]=>Q (.int (min i j))
 | _=>False
abbrev RD.pNext:bP:=λE env=>E.nx env
abbrev RD.pSeq (p q:bP):bP:=λE env=>p { E with nx:=q E } env
abbrev RD.pIfS (c:jB) (a b:bP):bP:=λE env=>c env λk=>Br k (a E env) (b E env)
abbrev RD.pRet (a:b8):bP:=λE env=>a env E.rt
abbrev RD.pSet (i:Nat) (a:b8):bP:=λE env=>a env λx=>E.nx (kE env i (some x))
abbrev RD.pgName (i:Nat):lC:=λx env R=>R (kE env i (some x))
abbrev RD.pgNil:y9:=λxs env R=>match xs with
 | []=>R env
 | _=>False
abbrev RD.pgCons (g:lC) (u:y9):y9:=λxs env R=>match xs with
 | x :: r=>g x env λenv'=>u r env' R
 | []=>False
abbrev RD.pgTup (n:Nat) (g:y9):lC:=λx env R=>match x with
 | .tup xs=>xs.length = n /\ g xs env R
 | _=>False
abbrev RD.pAsg (a:b8) (g:lC):bP:=λE env=>a env λx=>g x env E.nx
abbrev RD.piLst (a:b8):rT:=λenv Q=>a env λx=>match x with
 | .lst xs=>Q xs
 | _=>False
abbrev RD.piTup (a:b8):rT:=λenv Q=>a env λx=>match x with
 | .tup xs=>Q xs
 | _=>False
abbrev RD.piRng1 (a:b8):rT:=λenv Q=>a env λx=>match x with
 | .int j=>-(2 ^ 62) <= j /\ j < 2 ^ 62 /\ Q (dQ 0 j.toNat)
 | _=>False
abbrev RD.pFor (s:rT) (g:lC) (b:bP):bP:=λE env=>s env λitems=>uV g b E items env
abbrev RD.tyP (T:String) (x:PV):Prop:=match x with
 | .lst _=>T = "list"
 | .dic _ _=>T = "dict"
 | _=>False
abbrev RD.pMethT (T:String) (i:Nat) (pm:PV -> List PV -> (PV -> Prop) -> Prop) (t:tM):bP:=λE env=>match kL env i with
 | some (some x)=>RD.tyP T x /\ t env λys=>pm x ys λx'=>E.nx (kE env i (some x'))
 | _=>False
abbrev RD.pmAppend:PV -> List PV -> (PV -> Prop) -> Prop:=λx ys R=>match x,ys with
 | .lst xs,[y]=>xs.length < sizeLine /\ R (.lst (xs ++ [y]))
 | _,_=>False
abbrev RD.pPut (i:Nat) (pe pj:b8):bP:=λE env=>pe env λy=>match kL env i with
 | some (some (.lst xs))=>pj env λj=>(match j with
  | .int k=>(match yR xs.length k with
   | some n=>E.nx (kE env i (some (.lst (xs.set n y))))
   | none=>False)
  | _=>False)
 | _=>False
abbrev RD.pLc (s:rT) (g:lC) (tt:jB) (te:b8) (cp:bY -> bY):b8:=λenv Q=>s env λitems=>items.length <= sizeLine /\ pK g tt te Q items [] (cp env)
abbrev RD.pTrue:jB:=λ_ Q=>Q true
abbrev RD.pEqI:P2:=RD.pI0 λi j=>.bl (decide (i = j))
abbrev RD.pNeI:P2:=RD.pI0 λi j=>.bl (!decide (i = j))
abbrev RD.pAddI:P2:=RD.pI0 λi j=>.int (i + j)
abbrev RD.pSubI:P2:=RD.pI0 λi j=>.int (i - j)
abbrev RD.pMulI:P2:=RD.pI B6 λi j=>.int (i * j)
abbrev RD.pPowI:P2:=RD.pI B7 λi j=>.int (i ^ j.toNat)
abbrev RD.pLtI:P2:=RD.pI0 λi j=>.bl (decide (i < j))
abbrev RD.pLeI:P2:=RD.pI0 λi j=>.bl (decide (i <= j))
abbrev RD.pGtI:P2:=RD.pI0 λi j=>.bl (decide (j < i))
abbrev RD.pNegI:PV -> (PV -> Prop) -> Prop:=RD.pU λi=>.int (-i)
abbrev RD.pListR (a:b8):b8:=λenv Q=>a env λx=>match x with
 | .int j=>0 <= j /\ j <= 1000 /\ Q (.lst (dQ 0 j.toNat))
 | _=>False
abbrev RD.pEmAdd (te:b8):ID:=λacc env K=>te env λv=>match v with
 | .int i=>acc.length < 63 /\ K (acc ++ [i]) env
 | _=>False
abbrev RD.pEmIn (s:rT) (g:lC) (tt:jB) (a:ID):ID:=λacc env K=>s env λitems=>o8 g tt a K items acc env
abbrev RD.pSortSc (s:rT) (g:lC) (tt:jB) (a:ID) (cp:bY -> bY):b8:=λenv Q=>s env λitems=>o8 g tt a (λacc _=>Q (.lst ((aS acc).map PV.int))) items [] (cp env)
abbrev RD.piEnum (a:b8):rT:=λenv Q=>a env λx=>match x with
 | .lst xs=>Q (xG xs)
 | _=>False
abbrev RD.pPar (i j:Nat) (pa:tM):bP:=λE env=>pa env λxs=>match xs with
 | [x,y]=>E.nx (kE (kE env i (some x)) j (some y))
 | _=>False
abbrev RD.pRev (a k:b8):b8:=λenv Q=>a env λx=>k env λy=>match x,y with
 | .lst xs,.int i=>i = -1 /\ Q (.lst xs.reverse)
 | _,_=>False
abbrev RD.pDPut (n:Nat) (pe pj:b8):bP:=λE env=>pe env λy=>match kL env n with
 | some (some (.dic ks xs))=>pj env λj=>(match OA j with
  | some k=>ks.length < 1000 /\ E.nx (kE env n (some (.dic (MW ks k) (IE ks xs k y))))
  | none=>False)
 | _=>False
abbrev RD.piZip (a b:b8):rT:=λenv Q=>a env λx=>b env λy=>match x,y with
 | .lst xs,.lst ys=>Q (BX xs ys)
 | _,_=>False
abbrev RD.pOrL (a b:b8):b8:=λenv Q=>a env λx=>match x with
 | .lst xs=>Br (!xs.isEmpty) (Q (.lst xs)) (b env Q)
 | _=>False
abbrev RD.pPutAt (i:Nat) (y:PV) (pj:b8) (Kp:bY -> Prop) (env:bY):Prop:=match kL env i with
 | some (some (.lst xs))=>pj env λj=>(match j with
  | .int k=>(match yR xs.length k with
   | some n=>Kp (kE env i (some (.lst (xs.set n y))))
   | none=>False)
  | _=>False)
 | _=>False
abbrev RD.pPut2 (i i':Nat) (pe pj pj':b8):bP:=λE env=>pe env λt=>match t with
 | .tup [y,z]=>RD.pPutAt i y pj (λenv1=>RD.pPutAt i' z pj' E.nx env1) env
 | _=>False
abbrev RD.pDc (s:rT) (g:lC) (tt:jB) (tk tv:b8) (cp:bY -> bY):b8:=λenv Q=>s env λitems=>BL g tt tk tv Q items [] [] (cp env)
abbrev RD.pSortXor (a b:b8):b8:=λenv Q=>a env λx=>kZ 32 x λns=>b env λy=>kZ 32 y λms=>Q (.lst ((aS (qT ns ms)).map PV.int))
abbrev RD.tyB (T:String) (x:PV):Prop:=match x with
 | .str _=>T = "str"
 | .lst _=>T = "list"
 | .dic _ _=>T = "dict"
 | _=>False
abbrev RD.pBm (T:String) (pm:PV -> PN) (a:b8) (t:tM):b8:=λenv Q=>a env λx=>RD.tyB T x /\ t env λys=>pm x ys Q
theorem cg {α β:Type} {f g:α -> β} {a b:α} (h:f = g) (k:a = b):f a = g b:=congr h k
theorem a4N:@RD.pC = @pC:=rfl
theorem YW:@RD.pVar = @pVar:=rfl
theorem a2C:@RD.pOp = @pOp:=rfl
theorem a2E:@RD.pUn = @pUn:=rfl
theorem YJ:@RD.pNil = @pNil:=rfl
theorem U0:@RD.pCons = @pCons:=rfl
theorem a29:@RD.pCl = @pCl:=rfl
theorem a28:@RD.pBo = @pBo:=rfl
theorem Y6:@RD.pAnd = @pAnd:=rfl
theorem a2D:@RD.pOr = @pOr:=rfl
theorem P6:@RD.pChain = @pChain:=rfl
theorem U3:@RD.pFlat = @pFlat:=rfl
theorem P8:@RD.pFlatL = @pFlatL:=rfl
theorem YG:@RD.pLst = @pLst:=rfl
theorem YV:@RD.pTup = @pTup:=rfl
theorem TZ:@RD.pAddS = @pAddS:=rfl
theorem YD:@RD.pIsN = @pIsN:=rfl
theorem U9:@RD.pNotN = @pNotN:=rfl
theorem MZ:@RD.pNoPart = @pNoPart:=rfl
theorem UA:@RD.pPart = @pPart:=rfl
theorem YT:@RD.pSlL = @pSlL:=rfl
theorem YU:@RD.pSlT = @pSlT:=rfl
theorem PF:@RD.pSlice = @pSlice:=rfl
theorem Y8:@RD.pCat = @pCat:=rfl
theorem YN:@RD.pRep = @pRep:=rfl
theorem YF:@RD.pLen = @pLen:=rfl
theorem MY:@RD.pLenScr = @pLenScr:=rfl
theorem U4:@RD.pMax2 = @pMax2:=rfl
theorem U5:@RD.pMin2 = @pMin2:=rfl
theorem U8:@RD.pNext = @pNext:=rfl
theorem YR:@RD.pSeq = @pSeq:=rfl
theorem YC:@RD.pIfS = @pIfS:=rfl
theorem YO:@RD.pRet = @pRet:=rfl
theorem YS:@RD.pSet = @pSet:=rfl
theorem PJ:@RD.pgName = @pgName:=rfl
theorem UF:@RD.pgNil = @pgNil:=rfl
theorem PH:@RD.pgCons = @pgCons:=rfl
theorem UG:@RD.pgTup = @pgTup:=rfl
theorem Y7:@RD.pAsg = @pAsg:=rfl
theorem UH:@RD.piLst = @piLst:=rfl
theorem UI:@RD.piTup = @piTup:=rfl
theorem PM:@RD.piRng1 = @piRng1:=rfl
theorem YA:@RD.pFor = @pFor:=rfl
theorem PD:@RD.pMethT = @pMethT:=rfl
theorem J2:@RD.pmAppend = @pmAppend:=rfl
theorem YM:@RD.pPut = @pPut:=rfl
theorem a2B:@RD.pLc = @pLc:=rfl
theorem UE:@RD.pTrue = @pTrue:=rfl
theorem Y9:@RD.pEqI = @pEqI:=rfl
theorem YI:@RD.pNeI = @pNeI:=rfl
theorem TY:@RD.pAddI = @pAddI:=rfl
theorem UD:@RD.pSubI = @pSubI:=rfl
theorem U6:@RD.pMulI = @pMulI:=rfl
theorem UB:@RD.pPowI = @pPowI:=rfl
theorem YH:@RD.pLtI = @pLtI:=rfl
theorem YE:@RD.pLeI = @pLeI:=rfl
theorem YB:@RD.pGtI = @pGtI:=rfl
theorem U7:@RD.pNegI = @pNegI:=rfl
theorem P9:@RD.pListR = @pListR:=rfl
theorem P7:@RD.pEmAdd = @pEmAdd:=rfl
theorem U2:@RD.pEmIn = @pEmIn:=rfl
theorem N0:@RD.pSortSc = @pSortSc:=rfl
theorem PL:@RD.piEnum = @piEnum:=rfl
theorem YL:@RD.pPar = @pPar:=rfl
theorem YQ:@RD.pRev = @pRev:=rfl
theorem U1:@RD.pDPut = @pDPut:=rfl
theorem UJ:@RD.piZip = @piZip:=rfl
theorem YK:@RD.pOrL = @pOrL:=rfl
theorem UC:@RD.pPut2 = @pPut2:=rfl
theorem a2A:@RD.pDc = @pDc:=rfl
theorem J1:@RD.pSortXor = @pSortXor:=rfl
theorem a27:@RD.pBm = @pBm:=rfl
structure NV (N:List Str) (nm:Str) (st:Stmt) (x:Str) (i:Nat):Prop where
 lo:O6 (a8 st) x
 h:∀ {P:Program} {w:World} {K:PySem.W.Frag} {mg:Str -> Option Value} {base:Heap} {f:Addr} {cdv:Value} {A:Around} {outer:List Env} {s:Shared} {H:Hp} {E:XK} {pos:Pos},QE (D9 OE P w K mg base N nm (a8 st) f cdv A outer s H E).nox (.Name x pos) (gH i)
theorem a2R {N:List Str} {nm:Str} {st:Stmt} {x:Str} {i:Nat} (lo:O6 (a8 st) x) (h1:N[i]? = some x) (h2:(x == ("__debug__" : Str)) = false) (h3:(x == ("__classdict__" : Str)) = false):NV N nm st x i:=⟨lo,RL h1 (lo.elim Or.inl (λz=>Or.inr (Or.inl z))) h2 h3⟩
abbrev GL (st:Stmt) (x:String):Prop:=(a8 st).names.lookup (Str.ofString x) = some NameKind.globalImplicit
structure DfA (K:PySem.W.Frag) (x:Str) (st:Stmt):Prop where
 ex:∃ (f:Addr) (oc:Value) (od an:Option Addr) (osl:Array (Option Value)) (kV doc pm cdv ct:Value),PySem.W.nsIn K mainGlobals x = some (some (.ref f)) /\ K.lookup f = some ⟨oc,od,.func (PySem.W.fnOf x x (iS st) (fI st) (a8 st) .none kV doc pm an cdv ct),osl⟩ /\ PySem.W.codeIn K cdv x = true /\ PySem.W.keepIn K (.ref f) = true
theorem Y4 {K:PySem.W.Frag} {x:Str} {st:Stmt} {f:Addr} {oc:Value} {od an:Option Addr} {osl:Array (Option Value)} {kV doc pm cdv ct:Value} (a:PySem.W.nsIn K mainGlobals x = some (some (.ref f)))
  (l:K.lookup f = some ⟨oc,od,.func (PySem.W.fnOf x x (iS st) (fI st) (a8 st) .none kV doc pm an cdv ct),osl⟩) (c:PySem.W.codeIn K cdv x = true) (k:PySem.W.keepIn K (.ref f) = true):DfA K x st:=⟨⟨f,oc,od,an,osl,kV,doc,pm,cdv,ct,a,l,c,k⟩⟩
theorem DfA.df {K:PySem.W.Frag} {h:Heap} {mg:Str -> Option Value} {x:Str} {st:Stmt} (D:DfA K x st) (X:K.In h) (G:h.Ns mainGlobals mg):Df K mg x st:=by
 obtain ⟨f,oc,od,an,osl,kV,doc,pm,cdv,ct,a,l,c,k⟩:=D.ex
 exact a25 X G a l c k
end L2
set_option maxHeartbeats 4000000
local macro_rules | `(tactic| walk_at "rp") => `(tactic| simp only [L2.TY, L2.TZ, L2.Y6, L2.Y7, L2.a27, L2.a28, L2.a4N, L2.Y8, L2.P6, L2.a29, L2.U0, L2.U1, L2.a2A, L2.P7, L2.U2, L2.Y9, L2.U3, L2.P8, L2.YA, L2.YB, L2.YC, L2.YD, L2.a2B, L2.YE, L2.YF, L2.MY, L2.P9, L2.YG, L2.YH, L2.U4, L2.PD, L2.U5, L2.U6, L2.YI, L2.U7, L2.U8, L2.YJ, L2.MZ, L2.U9, L2.a2C, L2.a2D, L2.YK, L2.YL, L2.UA, L2.UB, L2.YM, L2.UC, L2.YN, L2.YO, L2.YQ, L2.YR, L2.YS, L2.YT, L2.YU, L2.PF, L2.N0, L2.J1, L2.UD, L2.UE, L2.YV, L2.a2E, L2.YW, L2.PH, L2.PJ, L2.UF, L2.UG, L2.PL, L2.UH, L2.PM, L2.UI, L2.UJ, L2.J2])
namespace Lib
open PySem L2
abbrev aH:PN:=LG
def fD:bP:=(pRet (pCl yN (pCons (pLc (piLst (pVar 1)) (pgName 0) pTrue (pOp cS (pOp cS (pVar 1) (pVar 0)) (pC (.int 3))) (λenv=>[none,jn (kL env 0)])) pNil)))
abbrev tH:bP:=(RD.pRet (RD.pCl yN (RD.pCons (RD.pLc (RD.piLst (RD.pVar 1)) (RD.pgName 0) RD.pTrue (RD.pOp cS (RD.pOp cS (RD.pVar 1) (RD.pVar 0)) (RD.pC (.int 3))) (λenv=>[none,jn (kL env 0)])) RD.pNil)))
def dN:PN:=λxs R=>match xs with
 | [a0,a1]=>tH { nx:=λ_=>R .non,rt:=R } [some a0,some a1]
 | _=>False
theorem HM:tH = fD:=by unfold tH fD;walk_at "rp"
theorem oQ (xs:List PV) (R:PV -> Prop) (h:dN xs R):fD { nx:=λ_=>bT (.v .fl) R,rt:=R } (aE ["book", "some"] xs):=by
 match xs,h with
 | [a0,a1],h=>(delta dN at h;exact (Eq.mp (congrFun (congrFun HM _) _) h:fD { nx:=λ_=>R .non,rt:=R } [some a0,some a1]))
def j7 : bP := (pSeq (pSet 2 (pC (.str "abcdefghijklmnopqrstuvwxyz")))
 (pSeq (pSet 3 (pC (.str "")))
 (pSeq (pFor (piRng1 (pCl aH (pCons (pVar 0) (pCons (pC (.int 8)) pNil)))) (pgName 4) (pSeq (pSet 3 (pOp pAddS (pVar 3) (pOp cS (pVar 2) (pCl aH (pCons (pVar 0) (pCons (pC (.int 26)) pNil))))))
 pNext))
 (pRet (pOp pAddS (pVar 3) (pOp cS (pVar 2) (pVar 1)))))))
abbrev AO : bP := (RD.pSeq (RD.pSet 2 (RD.pC (.str "abcdefghijklmnopqrstuvwxyz")))
 (RD.pSeq (RD.pSet 3 (RD.pC (.str "")))
 (RD.pSeq (RD.pFor (RD.piRng1 (RD.pCl aH (RD.pCons (RD.pVar 0) (RD.pCons (RD.pC (.int 8)) RD.pNil)))) (RD.pgName 4) (RD.pSeq (RD.pSet 3 (RD.pOp RD.pAddS (RD.pVar 3) (RD.pOp cS (RD.pVar 2) (RD.pCl aH (RD.pCons (RD.pVar 0) (RD.pCons (RD.pC (.int 26)) RD.pNil))))))
 RD.pNext))
 (RD.pRet (RD.pOp RD.pAddS (RD.pVar 3) (RD.pOp cS (RD.pVar 2) (RD.pVar 1)))))))
def fS:PN:=λxs R=>match xs with
 | [a0,a1]=>AO { nx:=λ_=>R .non,rt:=R } [some a0,some a1,none,none,none]
 | _=>False
theorem NT:AO = j7:=by unfold AO j7;walk_at "rp"
theorem w4 (xs:List PV) (R:PV -> Prop) (h:fS xs R):j7 { nx:=λ_=>bT (.v .fl) R,rt:=R } (aE ["_law_state", "_law_k", "_law_letters", "_law_spelt", "_law_j"] xs):=by
 match xs,h with
 | [a0,a1],h=>(delta fS at h;exact (Eq.mp (congrFun (congrFun NT _) _) h:j7 { nx:=λ_=>R .non,rt:=R } [some a0,some a1,none,none,none]))
def j5 : bP := (pSeq (pSet 2 (pOp cS (pLst (pCons (pC (.int 3)) (pCons (pC (.int 6)) (pCons (pC (.int 9)) (pCons (pC (.int 14)) pNil))))) (pCl aH (pCons (pVar 0) (pCons (pC (.int 4)) pNil)))))
 (pSeq (pSet 3 (pOp pAddI (pC (.int 1)) (pCl aH (pCons (pVar 0) (pCons (pOp cS (pLst (pCons (pC (.int 1)) (pCons (pC (.int 1)) (pCons (pC (.int 7)) (pCons (pOp pPowI (pC (.int 10)) (pC (.int 10))) pNil))))) (pCl aH (pCons (pVar 0) (pCons (pC (.int 4)) pNil)))) pNil)))))
 (pSeq (pSet 4 (pOp cS (pLst (pCons (pC (.int 0)) (pCons (pUn pNegI (pC (.int 3))) (pCons (pUn pNegI (pOp pPowI (pC (.int 10)) (pC (.int 12)))) (pCons (pOp pSubI (pOp pPowI (pC (.int 10)) (pC (.int 12))) (pOp pMulI (pC (.int 28)) (pVar 3))) pNil))))) (pCl aH (pCons (pVar 0) (pCons (pC (.int 4)) pNil)))))
 (pSeq (pSet 5 (pLst pNil))
 (pSeq (pFor (piRng1 (pCl aH (pCons (pVar 0) (pCons (pOp pAddI (pVar 1) (pC (.int 1))) pNil)))) (pgName 6) (pSeq (pSet 7 (pCl aH (pCons (pVar 0) (pCons (pVar 2) pNil))))
 (pSeq (pSet 8 (pOp pAddI (pOp pAddI (pVar 7) (pC (.int 1))) (pCl aH (pCons (pVar 0) (pCons (pVar 2) pNil)))))
 (pSeq (pSet 9 (pCl aH (pCons (pVar 0) (pCons (pOp cS (pLst (pCons (pC (.int 4)) (pCons (pC (.int 12)) (pCons (pC (.int 100)) (pCons (pOp pAddI (pOp pPowI (pC (.int 10)) (pC (.int 12))) (pC (.int 1))) pNil))))) (pCl aH (pCons (pVar 0) (pCons (pC (.int 4)) pNil)))) pNil))))
 (pSeq (pSet 10 (pTup (pCons (pOp pAddI (pVar 4) (pOp pMulI (pVar 3) (pVar 7))) (pCons (pOp pAddI (pVar 4) (pOp pMulI (pVar 3) (pVar 8))) pNil))))
 (pSeq (pIfS (pAnd (pBo (pOp pGtI (pVar 6) (pC (.int 0)))) (pBo (pOp pEqI (pCl aH (pCons (pVar 0) (pCons (pC (.int 6)) pNil))) (pC (.int 0))))) (pSeq (pSet 10 (pSlice pSlT (pOp cS (pVar 5) (pUn pNegI (pC (.int 1)))) (pPart (pC (.int 1))) (pPart (pC (.int 3)))))
 pNext) pNext)
 (pSeq (pMethT "list" 5 pmAppend (pCons (pTup (pCons (pCl fS (pCons (pVar 0) (pCons (pVar 6) pNil))) (pCons (pOp cS (pVar 10) (pC (.int 0))) (pCons (pOp cS (pVar 10) (pC (.int 1))) (pCons (pVar 9) pNil))))) pNil))
 pNext)))))))
 (pRet (pVar 5)))))))
abbrev AN : bP := (RD.pSeq (RD.pSet 2 (RD.pOp cS (RD.pLst (RD.pCons (RD.pC (.int 3)) (RD.pCons (RD.pC (.int 6)) (RD.pCons (RD.pC (.int 9)) (RD.pCons (RD.pC (.int 14)) RD.pNil))))) (RD.pCl aH (RD.pCons (RD.pVar 0) (RD.pCons (RD.pC (.int 4)) RD.pNil)))))
 (RD.pSeq (RD.pSet 3 (RD.pOp RD.pAddI (RD.pC (.int 1)) (RD.pCl aH (RD.pCons (RD.pVar 0) (RD.pCons (RD.pOp cS (RD.pLst (RD.pCons (RD.pC (.int 1)) (RD.pCons (RD.pC (.int 1)) (RD.pCons (RD.pC (.int 7)) (RD.pCons (RD.pOp RD.pPowI (RD.pC (.int 10)) (RD.pC (.int 10))) RD.pNil))))) (RD.pCl aH (RD.pCons (RD.pVar 0) (RD.pCons (RD.pC (.int 4)) RD.pNil)))) RD.pNil)))))
 (RD.pSeq (RD.pSet 4 (RD.pOp cS (RD.pLst (RD.pCons (RD.pC (.int 0)) (RD.pCons (RD.pUn RD.pNegI (RD.pC (.int 3))) (RD.pCons (RD.pUn RD.pNegI (RD.pOp RD.pPowI (RD.pC (.int 10)) (RD.pC (.int 12)))) (RD.pCons (RD.pOp RD.pSubI (RD.pOp RD.pPowI (RD.pC (.int 10)) (RD.pC (.int 12))) (RD.pOp RD.pMulI (RD.pC (.int 28)) (RD.pVar 3))) RD.pNil))))) (RD.pCl aH (RD.pCons (RD.pVar 0) (RD.pCons (RD.pC (.int 4)) RD.pNil)))))
 (RD.pSeq (RD.pSet 5 (RD.pLst RD.pNil))
 (RD.pSeq (RD.pFor (RD.piRng1 (RD.pCl aH (RD.pCons (RD.pVar 0) (RD.pCons (RD.pOp RD.pAddI (RD.pVar 1) (RD.pC (.int 1))) RD.pNil)))) (RD.pgName 6) (RD.pSeq (RD.pSet 7 (RD.pCl aH (RD.pCons (RD.pVar 0) (RD.pCons (RD.pVar 2) RD.pNil))))
 (RD.pSeq (RD.pSet 8 (RD.pOp RD.pAddI (RD.pOp RD.pAddI (RD.pVar 7) (RD.pC (.int 1))) (RD.pCl aH (RD.pCons (RD.pVar 0) (RD.pCons (RD.pVar 2) RD.pNil)))))
 (RD.pSeq (RD.pSet 9 (RD.pCl aH (RD.pCons (RD.pVar 0) (RD.pCons (RD.pOp cS (RD.pLst (RD.pCons (RD.pC (.int 4)) (RD.pCons (RD.pC (.int 12)) (RD.pCons (RD.pC (.int 100)) (RD.pCons (RD.pOp RD.pAddI (RD.pOp RD.pPowI (RD.pC (.int 10)) (RD.pC (.int 12))) (RD.pC (.int 1))) RD.pNil))))) (RD.pCl aH (RD.pCons (RD.pVar 0) (RD.pCons (RD.pC (.int 4)) RD.pNil)))) RD.pNil))))
 (RD.pSeq (RD.pSet 10 (RD.pTup (RD.pCons (RD.pOp RD.pAddI (RD.pVar 4) (RD.pOp RD.pMulI (RD.pVar 3) (RD.pVar 7))) (RD.pCons (RD.pOp RD.pAddI (RD.pVar 4) (RD.pOp RD.pMulI (RD.pVar 3) (RD.pVar 8))) RD.pNil))))
 (RD.pSeq (RD.pIfS (RD.pAnd (RD.pBo (RD.pOp RD.pGtI (RD.pVar 6) (RD.pC (.int 0)))) (RD.pBo (RD.pOp RD.pEqI (RD.pCl aH (RD.pCons (RD.pVar 0) (RD.pCons (RD.pC (.int 6)) RD.pNil))) (RD.pC (.int 0))))) (RD.pSeq (RD.pSet 10 (RD.pSlice RD.pSlT (RD.pOp cS (RD.pVar 5) (RD.pUn RD.pNegI (RD.pC (.int 1)))) (RD.pPart (RD.pC (.int 1))) (RD.pPart (RD.pC (.int 3)))))
 RD.pNext) RD.pNext)
 (RD.pSeq (RD.pMethT "list" 5 RD.pmAppend (RD.pCons (RD.pTup (RD.pCons (RD.pCl fS (RD.pCons (RD.pVar 0) (RD.pCons (RD.pVar 6) RD.pNil))) (RD.pCons (RD.pOp cS (RD.pVar 10) (RD.pC (.int 0))) (RD.pCons (RD.pOp cS (RD.pVar 10) (RD.pC (.int 1))) (RD.pCons (RD.pVar 9) RD.pNil))))) RD.pNil))
 RD.pNext)))))))
 (RD.pRet (RD.pVar 5)))))))
def fR:PN:=λxs R=>match xs with
 | [a0,a1]=>AN { nx:=λ_=>False,rt:=R } [some a0,some a1,none,none,none,none,none,none,none,none,none]
 | _=>False
theorem NS:AN = j5:=by unfold AN j5;walk_at "rp"
theorem vZ (xs:List PV) (R:PV -> Prop) (h:fR xs R):j5 { nx:=λ_=>bT (.o .fl) R,rt:=R } (aE ["_law_state", "_law_most", "_law_size", "_law_unit", "_law_low", "_law_book_here", "_law_k", "_law_begin", "_law_end", "_law_worth_here", "_law_span"] xs):=by
 match xs,h with
 | [a0,a1],h=>(delta fR at h;exact (Eq.mp (congrFun (congrFun NS _) _) h:j5 { nx:=λ_=>False,rt:=R } [some a0,some a1,none,none,none,none,none,none,none,none,none]))
def gJ:bP:=(pRet (pChain pLeI pLtI (pOp cS (pVar 0) (pC (.int 1))) (pVar 1) (pOp cS (pVar 0) (pC (.int 2)))))
abbrev wJ:bP:=(RD.pRet (RD.pChain RD.pLeI RD.pLtI (RD.pOp cS (RD.pVar 0) (RD.pC (.int 1))) (RD.pVar 1) (RD.pOp cS (RD.pVar 0) (RD.pC (.int 2)))))
def cL:PN:=λxs R=>match xs with
 | [a0,a1]=>wJ { nx:=λ_=>R .non,rt:=R } [some a0,some a1]
 | _=>False
theorem JY:wJ = gJ:=by unfold wJ gJ;walk_at "rp"
theorem rZ (xs:List PV) (R:PV -> Prop) (h:cL xs R):gJ { nx:=λ_=>bT (.v .fl) R,rt:=R } (aE ["stretch", "moment"] xs):=by
 match xs,h with
 | [a0,a1],h=>(delta cL at h;exact (Eq.mp (congrFun (congrFun JY _) _) h:gJ { nx:=λ_=>R .non,rt:=R } [some a0,some a1]))
def gL:bP:=(pRet (pCl pLen (pCons (pLc (piLst (pVar 1)) (pgName 0) (pBo (pCl cL (pCons (pOp cS (pVar 2) (pVar 0)) (pCons (pVar 1) pNil)))) (pVar 0) (λenv=>[none,jn (kL env 2),jn (kL env 0)])) pNil)))
abbrev wM:bP:=(RD.pRet (RD.pCl RD.pLen (RD.pCons (RD.pLc (RD.piLst (RD.pVar 1)) (RD.pgName 0) (RD.pBo (RD.pCl cL (RD.pCons (RD.pOp cS (RD.pVar 2) (RD.pVar 0)) (RD.pCons (RD.pVar 1) RD.pNil)))) (RD.pVar 0) (λenv=>[none,jn (kL env 2),jn (kL env 0)])) RD.pNil)))
def d4:PN:=λxs R=>match xs with
 | [a0,a1,a2]=>wM { nx:=λ_=>R .non,rt:=R } [some a0,some a1,some a2]
 | _=>False
theorem K1:wM = gL:=by unfold wM gL;walk_at "rp"
theorem sC (xs:List PV) (R:PV -> Prop) (h:d4 xs R):gL { nx:=λ_=>bT (.v .fl) R,rt:=R } (aE ["book", "some", "moment"] xs):=by
 match xs,h with
 | [a0,a1,a2],h=>(delta d4 at h;exact (Eq.mp (congrFun (congrFun K1 _) _) h:gL { nx:=λ_=>R .non,rt:=R } [some a0,some a1,some a2]))
def dE:bP:=(pRet (pSortSc (piLst (pVar 0)) (pgName 0) pTrue (pEmIn (piTup (pSlice pSlT (pVar 0) (pPart (pC (.int 1))) (pPart (pC (.int 3))))) (pgName 1) pTrue (pEmAdd (pVar 1))) (λenv=>[none,none])))
abbrev nQ:bP:=(RD.pRet (RD.pSortSc (RD.piLst (RD.pVar 0)) (RD.pgName 0) RD.pTrue (RD.pEmIn (RD.piTup (RD.pSlice RD.pSlT (RD.pVar 0) (RD.pPart (RD.pC (.int 1))) (RD.pPart (RD.pC (.int 3))))) (RD.pgName 1) RD.pTrue (RD.pEmAdd (RD.pVar 1))) (λenv=>[none,none])))
def bL:PN:=λxs R=>match xs with
 | [a0]=>nQ { nx:=λ_=>False,rt:=R } [some a0]
 | _=>False
theorem BU:nQ = dE:=by unfold nQ dE;walk_at "rp"
theorem lL (xs:List PV) (R:PV -> Prop) (h:bL xs R):dE { nx:=λ_=>bT (.o .fl) R,rt:=R } (aE ["book"] xs):=by
 match xs,h with
 | [a0],h=>(delta bL at h;exact (Eq.mp (congrFun (congrFun BU _) _) h:dE { nx:=λ_=>False,rt:=R } [some a0]))
def f9 : bP := (pSeq (pSet 2 (pLst pNil))
 (pSeq (pSet 3 (pC (.int 0)))
 (pSeq (pFor (piLst (pCl bL (pCons (pLc (piLst (pVar 1)) (pgName 0) pTrue (pOp cS (pVar 1) (pVar 0)) (λenv=>[none,jn (kL env 0)])) pNil))) (pgName 4) (pSeq (pSet 5 (pCl d4 (pCons (pVar 0) (pCons (pVar 1) (pCons (pVar 4) pNil)))))
 (pSeq (pIfS (pBo (pOp pNeI (pVar 5) (pVar 3))) (pSeq (pMethT "list" 2 pmAppend (pCons (pTup (pCons (pVar 4) (pCons (pVar 5) pNil))) pNil))
 pNext) pNext)
 (pSeq (pSet 3 (pVar 5))
 pNext))))
 (pRet (pVar 2)))))
abbrev tE : bP := (RD.pSeq (RD.pSet 2 (RD.pLst RD.pNil))
 (RD.pSeq (RD.pSet 3 (RD.pC (.int 0)))
 (RD.pSeq (RD.pFor (RD.piLst (RD.pCl bL (RD.pCons (RD.pLc (RD.piLst (RD.pVar 1)) (RD.pgName 0) RD.pTrue (RD.pOp cS (RD.pVar 1) (RD.pVar 0)) (λenv=>[none,jn (kL env 0)])) RD.pNil))) (RD.pgName 4) (RD.pSeq (RD.pSet 5 (RD.pCl d4 (RD.pCons (RD.pVar 0) (RD.pCons (RD.pVar 1) (RD.pCons (RD.pVar 4) RD.pNil)))))
 (RD.pSeq (RD.pIfS (RD.pBo (RD.pOp RD.pNeI (RD.pVar 5) (RD.pVar 3))) (RD.pSeq (RD.pMethT "list" 2 RD.pmAppend (RD.pCons (RD.pTup (RD.pCons (RD.pVar 4) (RD.pCons (RD.pVar 5) RD.pNil))) RD.pNil))
 RD.pNext) RD.pNext)
 (RD.pSeq (RD.pSet 3 (RD.pVar 5))
 RD.pNext))))
 (RD.pRet (RD.pVar 2)))))
def dI:PN:=λxs R=>match xs with
 | [a0,a1]=>tE { nx:=λ_=>False,rt:=R } [some a0,some a1,none,none,none,none]
 | _=>False
theorem HJ:tE = f9:=by unfold tE f9;walk_at "rp"
theorem oN (xs:List PV) (R:PV -> Prop) (h:dI xs R):f9 { nx:=λ_=>bT (.o .fl) R,rt:=R } (aE ["book", "some", "steps", "before", "moment", "load"] xs):=by
 match xs,h with
 | [a0,a1],h=>(delta dI at h;exact (Eq.mp (congrFun (congrFun HJ _) _) h:f9 { nx:=λ_=>False,rt:=R } [some a0,some a1,none,none,none,none]))
def f7 : bP := (pSeq (pAsg (pTup (pCons (pC (.int 0)) (pCons (pC .non) pNil))) (pgTup 2 (pgCons (pgName 2) (pgCons (pgName 3) pgNil))))
 (pSeq (pFor (piLst (pCl dI (pCons (pVar 0) (pCons (pVar 1) pNil)))) (pgTup 2 (pgCons (pgName 4) (pgCons (pgName 5) pgNil))) (pSeq (pIfS (pBo (pOp pGtI (pVar 5) (pVar 2))) (pSeq (pAsg (pTup (pCons (pVar 5) (pCons (pVar 4) pNil))) (pgTup 2 (pgCons (pgName 2) (pgCons (pgName 3) pgNil))))
 pNext) pNext)
 pNext))
 (pRet (pTup (pCons (pVar 2) (pCons (pVar 3) (pCons (pFlatL (pLc (piLst (pVar 1)) (pgName 0) (pBo (pCl cL (pCons (pOp cS (pVar 2) (pVar 0)) (pCons (pVar 1) pNil)))) (pVar 0) (λenv=>[none,jn (kL env 3),jn (kL env 0)]))) pNil)))))))
abbrev tD : bP := (RD.pSeq (RD.pAsg (RD.pTup (RD.pCons (RD.pC (.int 0)) (RD.pCons (RD.pC .non) RD.pNil))) (RD.pgTup 2 (RD.pgCons (RD.pgName 2) (RD.pgCons (RD.pgName 3) RD.pgNil))))
 (RD.pSeq (RD.pFor (RD.piLst (RD.pCl dI (RD.pCons (RD.pVar 0) (RD.pCons (RD.pVar 1) RD.pNil)))) (RD.pgTup 2 (RD.pgCons (RD.pgName 4) (RD.pgCons (RD.pgName 5) RD.pgNil))) (RD.pSeq (RD.pIfS (RD.pBo (RD.pOp RD.pGtI (RD.pVar 5) (RD.pVar 2))) (RD.pSeq (RD.pAsg (RD.pTup (RD.pCons (RD.pVar 5) (RD.pCons (RD.pVar 4) RD.pNil))) (RD.pgTup 2 (RD.pgCons (RD.pgName 2) (RD.pgCons (RD.pgName 3) RD.pgNil))))
 RD.pNext) RD.pNext)
 RD.pNext))
 (RD.pRet (RD.pTup (RD.pCons (RD.pVar 2) (RD.pCons (RD.pVar 3) (RD.pCons (RD.pFlatL (RD.pLc (RD.piLst (RD.pVar 1)) (RD.pgName 0) (RD.pBo (RD.pCl cL (RD.pCons (RD.pOp cS (RD.pVar 2) (RD.pVar 0)) (RD.pCons (RD.pVar 1) RD.pNil)))) (RD.pVar 0) (λenv=>[none,jn (kL env 3),jn (kL env 0)]))) RD.pNil)))))))
def dH:PN:=λxs R=>match xs with
 | [a0,a1]=>tD { nx:=λ_=>R .non,rt:=R } [some a0,some a1,none,none,none,none]
 | _=>False
theorem HI:tD = f7:=by unfold tD f7;walk_at "rp"
theorem oM (xs:List PV) (R:PV -> Prop) (h:dH xs R):f7 { nx:=λ_=>bT (.v .sn) R,rt:=R } (aE ["book", "some", "greatest", "first", "moment", "load"] xs):=by
 match xs,h with
 | [a0,a1],h=>(delta dH at h;exact (Eq.mp (congrFun (congrFun HI _) _) h:f7 { nx:=λ_=>R .non,rt:=R } [some a0,some a1,none,none,none,none]))
def gO:bP:=(pRet (pCl yN (pCons (pLc (piLst (pVar 1)) (pgTup 2 (pgCons (pgName 0) (pgCons (pgName 1) pgNil))) (pBo (pCl cL (pCons (pVar 2) (pCons (pVar 0) pNil)))) (pVar 1) (λenv=>[none,none,jn (kL env 0)])) pNil)))
abbrev wQ:bP:=(RD.pRet (RD.pCl yN (RD.pCons (RD.pLc (RD.piLst (RD.pVar 1)) (RD.pgTup 2 (RD.pgCons (RD.pgName 0) (RD.pgCons (RD.pgName 1) RD.pgNil))) (RD.pBo (RD.pCl cL (RD.pCons (RD.pVar 2) (RD.pCons (RD.pVar 0) RD.pNil)))) (RD.pVar 1) (λenv=>[none,none,jn (kL env 0)])) RD.pNil)))
def eK:PN:=λxs R=>match xs with
 | [a0,a1]=>wQ { nx:=λ_=>R .non,rt:=R } [some a0,some a1]
 | _=>False
theorem K4:wQ = gO:=by unfold wQ gO;walk_at "rp"
theorem sF (xs:List PV) (R:PV -> Prop) (h:eK xs R):gO { nx:=λ_=>bT (.v .fl) R,rt:=R } (aE ["stretch", "paper"] xs):=by
 match xs,h with
 | [a0,a1],h=>(delta eK at h;exact (Eq.mp (congrFun (congrFun K4 _) _) h:gO { nx:=λ_=>R .non,rt:=R } [some a0,some a1]))
def gK : bP := (pSeq (pSet 2 (pLst (pCons (pC (.int 0)) (pCons (pC (.int 1)) (pCons (pUn pNegI (pOp pPowI (pC (.int 10)) (pC (.int 12)))) (pCons (pOp pSubI (pOp pPowI (pC (.int 10)) (pC (.int 12))) (pC (.int 1))) pNil))))))
 (pSeq (pFor (piLst (pVar 1)) (pgTup 4 (pgCons (pgName 3) (pgCons (pgName 4) (pgCons (pgName 5) (pgCons (pgName 6) pgNil))))) (pSeq (pSet 2 (pOp pCat (pVar 2) (pLst (pCons (pVar 4) (pCons (pOp pSubI (pVar 5) (pC (.int 1))) pNil)))))
 pNext))
 (pSeq (pSet 7 (pC (.dic [] [])))
 (pSeq (pFor (piRng1 (pCl aH (pCons (pVar 0) (pCons (pC (.int 6)) pNil)))) (pgName 8) (pSeq (pSet 9 (pOp cS (pVar 2) (pCl aH (pCons (pVar 0) (pCons (pCl pLen (pCons (pVar 2) pNil)) pNil)))))
 (pSeq (pDPut 7 (pOp pAddI (pC (.int 1)) (pCl aH (pCons (pVar 0) (pCons (pOp cS (pLst (pCons (pC (.int 3)) (pCons (pC (.int 10)) (pCons (pC (.int 60)) (pCons (pOp pPowI (pC (.int 10)) (pC (.int 12))) pNil))))) (pCl aH (pCons (pVar 0) (pCons (pC (.int 4)) pNil)))) pNil)))) (pVar 9))
 pNext)))
 (pRet (pLc (piLst (pCl j4 (pCons (pVar 7) pNil))) (pgName 0) pTrue (pTup (pCons (pVar 0) (pCons (pOp iA (pVar 1) (pVar 0)) pNil))) (λenv=>[none,jn (kL env 7)])))))))
abbrev wL : bP := (RD.pSeq (RD.pSet 2 (RD.pLst (RD.pCons (RD.pC (.int 0)) (RD.pCons (RD.pC (.int 1)) (RD.pCons (RD.pUn RD.pNegI (RD.pOp RD.pPowI (RD.pC (.int 10)) (RD.pC (.int 12)))) (RD.pCons (RD.pOp RD.pSubI (RD.pOp RD.pPowI (RD.pC (.int 10)) (RD.pC (.int 12))) (RD.pC (.int 1))) RD.pNil))))))
 (RD.pSeq (RD.pFor (RD.piLst (RD.pVar 1)) (RD.pgTup 4 (RD.pgCons (RD.pgName 3) (RD.pgCons (RD.pgName 4) (RD.pgCons (RD.pgName 5) (RD.pgCons (RD.pgName 6) RD.pgNil))))) (RD.pSeq (RD.pSet 2 (RD.pOp RD.pCat (RD.pVar 2) (RD.pLst (RD.pCons (RD.pVar 4) (RD.pCons (RD.pOp RD.pSubI (RD.pVar 5) (RD.pC (.int 1))) RD.pNil)))))
 RD.pNext))
 (RD.pSeq (RD.pSet 7 (RD.pC (.dic [] [])))
 (RD.pSeq (RD.pFor (RD.piRng1 (RD.pCl aH (RD.pCons (RD.pVar 0) (RD.pCons (RD.pC (.int 6)) RD.pNil)))) (RD.pgName 8) (RD.pSeq (RD.pSet 9 (RD.pOp cS (RD.pVar 2) (RD.pCl aH (RD.pCons (RD.pVar 0) (RD.pCons (RD.pCl RD.pLen (RD.pCons (RD.pVar 2) RD.pNil)) RD.pNil)))))
 (RD.pSeq (RD.pDPut 7 (RD.pOp RD.pAddI (RD.pC (.int 1)) (RD.pCl aH (RD.pCons (RD.pVar 0) (RD.pCons (RD.pOp cS (RD.pLst (RD.pCons (RD.pC (.int 3)) (RD.pCons (RD.pC (.int 10)) (RD.pCons (RD.pC (.int 60)) (RD.pCons (RD.pOp RD.pPowI (RD.pC (.int 10)) (RD.pC (.int 12))) RD.pNil))))) (RD.pCl aH (RD.pCons (RD.pVar 0) (RD.pCons (RD.pC (.int 4)) RD.pNil)))) RD.pNil)))) (RD.pVar 9))
 RD.pNext)))
 (RD.pRet (RD.pLc (RD.piLst (RD.pCl j4 (RD.pCons (RD.pVar 7) RD.pNil))) (RD.pgName 0) RD.pTrue (RD.pTup (RD.pCons (RD.pVar 0) (RD.pCons (RD.pOp iA (RD.pVar 1) (RD.pVar 0)) RD.pNil))) (λenv=>[none,jn (kL env 7)])))))))
def d3:PN:=λxs R=>match xs with
 | [a0,a1]=>wL { nx:=λ_=>False,rt:=R } [some a0,some a1,none,none,none,none,none,none,none,none]
 | _=>False
theorem K0:wL = gK:=by unfold wL gK;walk_at "rp"
theorem sA (xs:List PV) (R:PV -> Prop) (h:d3 xs R):gK { nx:=λ_=>bT (.o .fl) R,rt:=R } (aE ["_law_state", "_law_book_here", "_law_moments", "_law_name_here", "_law_begin", "_law_end", "_law_worth_here", "_law_prices", "_law_turn", "_law_moment"] xs):=by
 match xs,h with
 | [a0,a1],h=>(delta d3 at h;exact (Eq.mp (congrFun (congrFun K0 _) _) h:gK { nx:=λ_=>False,rt:=R } [some a0,some a1,none,none,none,none,none,none,none,none]))
def gN:bP:=(pRet (pCl pMax2 (pCons (pC (.int 0)) (pCons (pOp pSubI (pOp cS (pVar 0) (pC (.int 3))) (pCl eK (pCons (pVar 0) (pCons (pVar 1) pNil)))) pNil))))
abbrev wO:bP:=(RD.pRet (RD.pCl RD.pMax2 (RD.pCons (RD.pC (.int 0)) (RD.pCons (RD.pOp RD.pSubI (RD.pOp cS (RD.pVar 0) (RD.pC (.int 3))) (RD.pCl eK (RD.pCons (RD.pVar 0) (RD.pCons (RD.pVar 1) RD.pNil)))) RD.pNil))))
def eJ:PN:=λxs R=>match xs with
 | [a0,a1]=>wO { nx:=λ_=>R .non,rt:=R } [some a0,some a1]
 | _=>False
theorem K3:wO = gN:=by unfold wO gN;walk_at "rp"
theorem sE (xs:List PV) (R:PV -> Prop) (h:eJ xs R):gN { nx:=λ_=>bT (.v .fl) R,rt:=R } (aE ["stretch", "paper"] xs):=by
 match xs,h with
 | [a0,a1],h=>(delta eJ at h;exact (Eq.mp (congrFun (congrFun K3 _) _) h:gN { nx:=λ_=>R .non,rt:=R } [some a0,some a1]))
def fA:bP:=(pRet (pCl yN (pCons (pLc (piLst (pVar 0)) (pgName 0) pTrue (pCl eJ (pCons (pVar 0) (pCons (pVar 1) pNil))) (λenv=>[none,jn (kL env 1)])) pNil)))
abbrev tF:bP:=(RD.pRet (RD.pCl yN (RD.pCons (RD.pLc (RD.piLst (RD.pVar 0)) (RD.pgName 0) RD.pTrue (RD.pCl eJ (RD.pCons (RD.pVar 0) (RD.pCons (RD.pVar 1) RD.pNil))) (λenv=>[none,jn (kL env 1)])) RD.pNil)))
def dJ:PN:=λxs R=>match xs with
 | [a0,a1]=>tF { nx:=λ_=>R .non,rt:=R } [some a0,some a1]
 | _=>False
theorem HK:tF = fA:=by unfold tF fA;walk_at "rp"
theorem oO (xs:List PV) (R:PV -> Prop) (h:dJ xs R):fA { nx:=λ_=>bT (.v .fl) R,rt:=R } (aE ["book", "paper"] xs):=by
 match xs,h with
 | [a0,a1],h=>(delta dJ at h;exact (Eq.mp (congrFun (congrFun HK _) _) h:fA { nx:=λ_=>R .non,rt:=R } [some a0,some a1]))
def e6:bP:=(pRet (pCl yN (pCons (pLc (piLst (pVar 0)) (pgTup 2 (pgCons (pgName 0) (pgCons (pgName 1) pgNil))) pTrue (pVar 1) (λenv=>[none,none])) pNil)))
abbrev pT:bP:=(RD.pRet (RD.pCl yN (RD.pCons (RD.pLc (RD.piLst (RD.pVar 0)) (RD.pgTup 2 (RD.pgCons (RD.pgName 0) (RD.pgCons (RD.pgName 1) RD.pgNil))) RD.pTrue (RD.pVar 1) (λenv=>[none,none])) RD.pNil)))
def cQ:PN:=λxs R=>match xs with
 | [a0]=>pT { nx:=λ_=>R .non,rt:=R } [some a0]
 | _=>False
theorem EN:pT = e6:=by unfold pT e6;walk_at "rp"
theorem mQ (xs:List PV) (R:PV -> Prop) (h:cQ xs R):e6 { nx:=λ_=>bT (.v .fl) R,rt:=R } (aE ["paper"] xs):=by
 match xs,h with
 | [a0],h=>(delta cQ at h;exact (Eq.mp (congrFun (congrFun EN _) _) h:e6 { nx:=λ_=>R .non,rt:=R } [some a0]))
def l3:bP:=(pRet (pOp pAddI (pOp pMulI (pCl cQ (pCons (pVar 2) pNil)) (pVar 1)) (pCl dJ (pCons (pVar 0) (pCons (pVar 2) pNil)))))
abbrev EI:bP:=(RD.pRet (RD.pOp RD.pAddI (RD.pOp RD.pMulI (RD.pCl cQ (RD.pCons (RD.pVar 2) RD.pNil)) (RD.pVar 1)) (RD.pCl dJ (RD.pCons (RD.pVar 0) (RD.pCons (RD.pVar 2) RD.pNil)))))
def cX:PN:=λxs R=>match xs with
 | [a0,a1,a2]=>EI { nx:=λ_=>R .non,rt:=R } [some a0,some a1,some a2]
 | _=>False
theorem S6:EI = l3:=by unfold EI l3;walk_at "rp"
theorem zJ (xs:List PV) (R:PV -> Prop) (h:cX xs R):l3 { nx:=λ_=>bT (.v .fl) R,rt:=R } (aE ["book", "benches", "paper"] xs):=by
 match xs,h with
 | [a0,a1,a2],h=>(delta cX at h;exact (Eq.mp (congrFun (congrFun S6 _) _) h:l3 { nx:=λ_=>R .non,rt:=R } [some a0,some a1,some a2]))
def dD : bP := (pSeq (pSet 1 (pLc (piRng1 (pCl pLen (pCons (pVar 0) pNil))) (pgName 0) pTrue (pTup (pCons (pVar 0) (pCons (pOp pAddI (pVar 0) (pC (.int 1))) (pCons (pC (.int 0)) (pCons (pC .non) pNil))))) (fun env => [none])))
 (pSeq (pSet 2 (pLc (piEnum (pVar 0)) (pgTup 2 (pgCons (pgName 0) (pgCons (pgName 1) pgNil))) (pBo (pOp pGtI (pVar 1) (pC (.int 0)))) (pTup (pCons (pOp pAddI (pVar 0) (pC (.int 1))) (pCons (pVar 0) (pCons (pC (.int 0)) (pCons (pC .non) pNil))))) (λenv=>[none,none])))
 (pRet (pFlatL (pOp pCat (pVar 1) (pRev (pVar 2) (pUn pNegI (pC (.int 1)))))))))
abbrev nP : bP := (RD.pSeq (RD.pSet 1 (RD.pLc (RD.piRng1 (RD.pCl RD.pLen (RD.pCons (RD.pVar 0) RD.pNil))) (RD.pgName 0) RD.pTrue (RD.pTup (RD.pCons (RD.pVar 0) (RD.pCons (RD.pOp RD.pAddI (RD.pVar 0) (RD.pC (.int 1))) (RD.pCons (RD.pC (.int 0)) (RD.pCons (RD.pC .non) RD.pNil))))) (fun env => [none])))
 (RD.pSeq (RD.pSet 2 (RD.pLc (RD.piEnum (RD.pVar 0)) (RD.pgTup 2 (RD.pgCons (RD.pgName 0) (RD.pgCons (RD.pgName 1) RD.pgNil))) (RD.pBo (RD.pOp RD.pGtI (RD.pVar 1) (RD.pC (.int 0)))) (RD.pTup (RD.pCons (RD.pOp RD.pAddI (RD.pVar 0) (RD.pC (.int 1))) (RD.pCons (RD.pVar 0) (RD.pCons (RD.pC (.int 0)) (RD.pCons (RD.pC .non) RD.pNil))))) (λenv=>[none,none])))
 (RD.pRet (RD.pFlatL (RD.pOp RD.pCat (RD.pVar 1) (RD.pRev (RD.pVar 2) (RD.pUn RD.pNegI (RD.pC (.int 1)))))))))
def cF:PN:=λxs R=>match xs with
 | [a0]=>nP { nx:=λ_=>False,rt:=R } [some a0,none,none]
 | _=>False
theorem BR:nP = dD:=by unfold nP dD;walk_at "rp"
theorem lK (xs:List PV) (R:PV -> Prop) (h:cF xs R):dD { nx:=λ_=>bT (.o .fl) R,rt:=R } (aE ["rooms", "ahead", "back"] xs):=by
 match xs,h with
 | [a0],h=>(delta cF at h;exact (Eq.mp (congrFun (congrFun BR _) _) h:dD { nx:=λ_=>False,rt:=R } [some a0,none,none]))
def c4 : bP := (pSeq (pSet 3 (pDc (piEnum (pVar 1)) (pgTup 2 (pgCons (pgName 0) (pgCons (pgName 1) pgNil))) pTrue (pVar 1) (pFlat (pVar 0)) (fun env => [none, none])))
 (pSeq (pSet 4 (pLst pNil))
 (pSeq (pFor (piEnum (pVar 0)) (pgTup 2 (pgCons (pgName 5) (pgCons (pgTup 4 (pgCons (pgName 6) (pgCons (pgName 7) (pgCons (pgName 8) (pgCons (pgName 9) pgNil))))) pgNil))) (pSeq (pIfS (pBo (pOp a4W (pVar 5) (pVar 2))) (pSeq (pMethT "list" 4 pmAppend (pCons (pFlat (pTup (pCons (pOp iA (pVar 3) (pVar 8)) (pCons (pOp iA (pVar 3) (pVar 7)) (pCons (pUn pNegI (pVar 9)) (pCons (pVar 5) pNil)))))) pNil))
 pNext) (pSeq (pMethT "list" 4 pmAppend (pCons (pFlat (pTup (pCons (pOp iA (pVar 3) (pVar 7)) (pCons (pOp iA (pVar 3) (pVar 8)) (pCons (pVar 9) (pCons (pVar 5) pNil)))))) pNil))
 pNext))
 pNext))
 (pRet (pVar 4)))))
abbrev jF : bP := (RD.pSeq (RD.pSet 3 (RD.pDc (RD.piEnum (RD.pVar 1)) (RD.pgTup 2 (RD.pgCons (RD.pgName 0) (RD.pgCons (RD.pgName 1) RD.pgNil))) RD.pTrue (RD.pVar 1) (RD.pFlat (RD.pVar 0)) (fun env => [none, none])))
 (RD.pSeq (RD.pSet 4 (RD.pLst RD.pNil))
 (RD.pSeq (RD.pFor (RD.piEnum (RD.pVar 0)) (RD.pgTup 2 (RD.pgCons (RD.pgName 5) (RD.pgCons (RD.pgTup 4 (RD.pgCons (RD.pgName 6) (RD.pgCons (RD.pgName 7) (RD.pgCons (RD.pgName 8) (RD.pgCons (RD.pgName 9) RD.pgNil))))) RD.pgNil))) (RD.pSeq (RD.pIfS (RD.pBo (RD.pOp a4W (RD.pVar 5) (RD.pVar 2))) (RD.pSeq (RD.pMethT "list" 4 RD.pmAppend (RD.pCons (RD.pFlat (RD.pTup (RD.pCons (RD.pOp iA (RD.pVar 3) (RD.pVar 8)) (RD.pCons (RD.pOp iA (RD.pVar 3) (RD.pVar 7)) (RD.pCons (RD.pUn RD.pNegI (RD.pVar 9)) (RD.pCons (RD.pVar 5) RD.pNil)))))) RD.pNil))
 RD.pNext) (RD.pSeq (RD.pMethT "list" 4 RD.pmAppend (RD.pCons (RD.pFlat (RD.pTup (RD.pCons (RD.pOp iA (RD.pVar 3) (RD.pVar 7)) (RD.pCons (RD.pOp iA (RD.pVar 3) (RD.pVar 8)) (RD.pCons (RD.pVar 9) (RD.pCons (RD.pVar 5) RD.pNil)))))) RD.pNil))
 RD.pNext))
 RD.pNext))
 (RD.pRet (RD.pVar 4)))))
def bC:PN:=λxs R=>match xs with
 | [a0,a1,a2]=>jF { nx:=λ_=>False,rt:=R } [some a0,some a1,some a2,none,none,none,none,none,none,none]
 | _=>False
theorem wV:jF = c4:=by unfold jF c4;walk_at "rp"
theorem iJ (xs:List PV) (R:PV -> Prop) (h:bC xs R):c4 { nx:=λ_=>bT (.o .fl) R,rt:=R } (aE ["book", "places", "chosen", "place_of", "roads", "number", "name", "begin", "end", "worth"] xs):=by
 match xs,h with
 | [a0,a1,a2],h=>(delta bC at h;exact (Eq.mp (congrFun (congrFun wV _) _) h:c4 { nx:=λ_=>False,rt:=R } [some a0,some a1,some a2,none,none,none,none,none,none,none]))
def bQ : bP := (pSeq (pPar 3 4 (pCons (pOp pRep (pLst (pCons (pC .non) pNil)) (pVar 1)) (pCons (pOp pRep (pLst (pCons (pC .non) pNil)) (pVar 1)) pNil)))
 (pSeq (pPut 3 (pC (.int 0)) (pVar 2))
 (pSeq (pSet 5 (pC (.bl true)))
 (pSeq (AD (pBo (pVar 5)) (pSeq (pSet 5 (pC (.bl false)))
 (pSeq (pFor (piLst (pVar 0)) (pgName 6) (pSeq (pAsg (pVar 6) (pgTup 4 (pgCons (pgName 7) (pgCons (pgName 8) (pgCons (pgName 9) (pgCons (pgName 10) pgNil))))))
 (pSeq (pIfS (pAnd (pBo (pOp pNotN (pOp cS (pVar 3) (pVar 7)) (pC .non))) (pOr (pBo (pOp pIsN (pOp cS (pVar 3) (pVar 8)) (pC .non))) (pBo (pOp pGtI (pOp pAddI (pOp cS (pVar 3) (pVar 7)) (pVar 9)) (pOp cS (pVar 3) (pVar 8)))))) (pSeq (pPut2 3 4 (pFlat (pTup (pCons (pOp pAddI (pOp cS (pVar 3) (pVar 7)) (pVar 9)) (pCons (pVar 6) pNil)))) (pVar 8) (pVar 8))
 (pSeq (pSet 5 (pC (.bl true)))
 pNext)) pNext)
 pNext)))
 pNext)))
 (pRet (pTup (pCons (pVar 3) (pCons (pVar 4) pNil))))))))
abbrev iM : bP := (RD.pSeq (RD.pPar 3 4 (RD.pCons (RD.pOp RD.pRep (RD.pLst (RD.pCons (RD.pC .non) RD.pNil)) (RD.pVar 1)) (RD.pCons (RD.pOp RD.pRep (RD.pLst (RD.pCons (RD.pC .non) RD.pNil)) (RD.pVar 1)) RD.pNil)))
 (RD.pSeq (RD.pPut 3 (RD.pC (.int 0)) (RD.pVar 2))
 (RD.pSeq (RD.pSet 5 (RD.pC (.bl true)))
 (RD.pSeq (AD (RD.pBo (RD.pVar 5)) (RD.pSeq (RD.pSet 5 (RD.pC (.bl false)))
 (RD.pSeq (RD.pFor (RD.piLst (RD.pVar 0)) (RD.pgName 6) (RD.pSeq (RD.pAsg (RD.pVar 6) (RD.pgTup 4 (RD.pgCons (RD.pgName 7) (RD.pgCons (RD.pgName 8) (RD.pgCons (RD.pgName 9) (RD.pgCons (RD.pgName 10) RD.pgNil))))))
 (RD.pSeq (RD.pIfS (RD.pAnd (RD.pBo (RD.pOp RD.pNotN (RD.pOp cS (RD.pVar 3) (RD.pVar 7)) (RD.pC .non))) (RD.pOr (RD.pBo (RD.pOp RD.pIsN (RD.pOp cS (RD.pVar 3) (RD.pVar 8)) (RD.pC .non))) (RD.pBo (RD.pOp RD.pGtI (RD.pOp RD.pAddI (RD.pOp cS (RD.pVar 3) (RD.pVar 7)) (RD.pVar 9)) (RD.pOp cS (RD.pVar 3) (RD.pVar 8)))))) (RD.pSeq (RD.pPut2 3 4 (RD.pFlat (RD.pTup (RD.pCons (RD.pOp RD.pAddI (RD.pOp cS (RD.pVar 3) (RD.pVar 7)) (RD.pVar 9)) (RD.pCons (RD.pVar 6) RD.pNil)))) (RD.pVar 8) (RD.pVar 8))
 (RD.pSeq (RD.pSet 5 (RD.pC (.bl true)))
 RD.pNext)) RD.pNext)
 RD.pNext)))
 RD.pNext)))
 (RD.pRet (RD.pTup (RD.pCons (RD.pVar 3) (RD.pCons (RD.pVar 4) RD.pNil))))))))
def b5:PN:=λxs R=>match xs with
 | [a0,a1,a2]=>iM { nx:=λ_=>R .non,rt:=R } [some a0,some a1,some a2,none,none,none,none,none,none,none,none]
 | _=>False
theorem uZ:iM = bQ:=by unfold iM bQ;walk_at "rp"
theorem gU (xs:List PV) (R:PV -> Prop) (h:b5 xs R):bQ { nx:=λ_=>bT (.v .sn) R,rt:=R } (aE ["roads", "many", "start", "gains", "last_roads", "better", "road", "before", "goal", "gain", "number"] xs):=by
 match xs,h with
 | [a0,a1,a2],h=>(delta b5 at h;exact (Eq.mp (congrFun (congrFun uZ _) _) h:bQ { nx:=λ_=>R .non,rt:=R } [some a0,some a1,some a2,none,none,none,none,none,none,none,none]))
def c0 : bP := (pSeq (pSet 2 (pLst pNil))
 (pSeq (AD (pBo (pOp pNotN (pOp cS (pVar 0) (pVar 1)) (pC .non))) (pSeq (pAsg (pOp cS (pVar 0) (pVar 1)) (pgTup 4 (pgCons (pgName 1) (pgCons (pgName 3) (pgCons (pgName 4) (pgCons (pgName 5) pgNil))))))
 (pSeq (pIfS (pBo (pOp pNotN (pVar 5) (pC .non))) (pSeq (pMethT "list" 2 pmAppend (pCons (pFlat (pVar 5)) pNil))
 pNext) pNext)
 pNext)))
 (pRet (pVar 2))))
abbrev jE : bP := (RD.pSeq (RD.pSet 2 (RD.pLst RD.pNil))
 (RD.pSeq (AD (RD.pBo (RD.pOp RD.pNotN (RD.pOp cS (RD.pVar 0) (RD.pVar 1)) (RD.pC .non))) (RD.pSeq (RD.pAsg (RD.pOp cS (RD.pVar 0) (RD.pVar 1)) (RD.pgTup 4 (RD.pgCons (RD.pgName 1) (RD.pgCons (RD.pgName 3) (RD.pgCons (RD.pgName 4) (RD.pgCons (RD.pgName 5) RD.pgNil))))))
 (RD.pSeq (RD.pIfS (RD.pBo (RD.pOp RD.pNotN (RD.pVar 5) (RD.pC .non))) (RD.pSeq (RD.pMethT "list" 2 RD.pmAppend (RD.pCons (RD.pFlat (RD.pVar 5)) RD.pNil))
 RD.pNext) RD.pNext)
 RD.pNext)))
 (RD.pRet (RD.pVar 2))))
def bB:PN:=λxs R=>match xs with
 | [a0,a1]=>jE { nx:=λ_=>False,rt:=R } [some a0,some a1,none,none,none,none]
 | _=>False
theorem wU:jE = c0:=by unfold jE c0;walk_at "rp"
theorem iI (xs:List PV) (R:PV -> Prop) (h:bB xs R):c0 { nx:=λ_=>bT (.o .fl) R,rt:=R } (aE ["last_roads", "goal", "numbers", "reached", "gain", "number"] xs):=by
 match xs,h with
 | [a0,a1],h=>(delta bB at h;exact (Eq.mp (congrFun (congrFun wU _) _) h:c0 { nx:=λ_=>False,rt:=R } [some a0,some a1,none,none,none,none]))
def dC:bP:=(pRet (pSortXor (pVar 0) (pVar 1)))
abbrev nO:bP:=(RD.pRet (RD.pSortXor (RD.pVar 0) (RD.pVar 1)))
def cE:PN:=λxs R=>match xs with
 | [a0,a1]=>nO { nx:=λ_=>False,rt:=R } [some a0,some a1]
 | _=>False
theorem BQ:nO = dC:=by unfold nO dC;walk_at "rp"
theorem lJ (xs:List PV) (R:PV -> Prop) (h:cE xs R):dC { nx:=λ_=>bT (.o .fl) R,rt:=R } (aE ["chosen", "numbers"] xs):=by
 match xs,h with
 | [a0,a1],h=>(delta cE at h;exact (Eq.mp (congrFun (congrFun BQ _) _) h:dC { nx:=λ_=>False,rt:=R } [some a0,some a1]))
def dZ : bP := (pSeq (pSet 2 (pLc (piRng1 (pCl pLen (pCons (pVar 1) pNil))) (pgName 0) pTrue (pOp pSubI (pOp cS (pVar 1) (pOp pAddI (pVar 0) (pC (.int 1)))) (pOp cS (pVar 1) (pVar 0))) (fun env => [none, jn (kL env 0)])))
 (pRet (pFlatL (pLc (piZip (pVar 1) (pVar 2)) (pgTup 2 (pgCons (pgName 0) (pgCons (pgName 1) pgNil))) (pBo (pOp pGtI (pVar 1) (pC (.int 0)))) (pTup (pCons (pVar 0) (pCons (pVar 1) pNil))) (λenv=>[none,none])))))
abbrev pS : bP := (RD.pSeq (RD.pSet 2 (RD.pLc (RD.piRng1 (RD.pCl RD.pLen (RD.pCons (RD.pVar 1) RD.pNil))) (RD.pgName 0) RD.pTrue (RD.pOp RD.pSubI (RD.pOp cS (RD.pVar 1) (RD.pOp RD.pAddI (RD.pVar 0) (RD.pC (.int 1)))) (RD.pOp cS (RD.pVar 1) (RD.pVar 0))) (fun env => [none, jn (kL env 0)])))
 (RD.pRet (RD.pFlatL (RD.pLc (RD.piZip (RD.pVar 1) (RD.pVar 2)) (RD.pgTup 2 (RD.pgCons (RD.pgName 0) (RD.pgCons (RD.pgName 1) RD.pgNil))) (RD.pBo (RD.pOp RD.pGtI (RD.pVar 1) (RD.pC (.int 0)))) (RD.pTup (RD.pCons (RD.pVar 0) (RD.pCons (RD.pVar 1) RD.pNil))) (λenv=>[none,none])))))
def cP:PN:=λxs R=>match xs with
 | [a0,a1]=>pS { nx:=λ_=>False,rt:=R } [some a0,some a1,none]
 | _=>False
theorem EM:pS = dZ:=by unfold pS dZ;walk_at "rp"
theorem mP (xs:List PV) (R:PV -> Prop) (h:cP xs R):dZ { nx:=λ_=>bT (.o .fl) R,rt:=R } (aE ["gains", "spots", "rises"] xs):=by
 match xs,h with
 | [a0,a1],h=>(delta cP at h;exact (Eq.mp (congrFun (congrFun EM _) _) h:dZ { nx:=λ_=>False,rt:=R } [some a0,some a1,none]))
def dY:bP:=(pRet (pOrL (pCl bL (pCons (pVar 0) pNil)) (pLst (pCons (pC (.int 0)) pNil))))
abbrev pR:bP:=(RD.pRet (RD.pOrL (RD.pCl bL (RD.pCons (RD.pVar 0) RD.pNil)) (RD.pLst (RD.pCons (RD.pC (.int 0)) RD.pNil))))
def cO:PN:=λxs R=>match xs with
 | [a0]=>pR { nx:=λ_=>False,rt:=R } [some a0]
 | _=>False
theorem EL:pR = dY:=by unfold pR dY;walk_at "rp"
theorem mO (xs:List PV) (R:PV -> Prop) (h:cO xs R):dY { nx:=λ_=>bT (.o .fl) R,rt:=R } (aE ["book"] xs):=by
 match xs,h with
 | [a0],h=>(delta cO at h;exact (Eq.mp (congrFun (congrFun EL _) _) h:dY { nx:=λ_=>False,rt:=R } [some a0]))
def fB : bP := (pSeq (pSet 4 (pLc (piZip (pVar 2) (pVar 1)) (pgTup 2 (pgCons (pgName 0) (pgCons (pgName 1) pgNil))) pTrue (pOp pSubI (pVar 0) (pCl d4 (pCons (pVar 2) (pCons (pVar 3) (pCons (pVar 1) pNil))))) (fun env => [none, none, jn (kL env 0), jn (kL env 3)])))
 (pRet (pOp pCat (pCl cF (pCons (pVar 4) pNil)) (pCl bC (pCons (pVar 0) (pCons (pVar 1) (pCons (pVar 3) pNil)))))))
abbrev tG : bP := (RD.pSeq (RD.pSet 4 (RD.pLc (RD.piZip (RD.pVar 2) (RD.pVar 1)) (RD.pgTup 2 (RD.pgCons (RD.pgName 0) (RD.pgCons (RD.pgName 1) RD.pgNil))) RD.pTrue (RD.pOp RD.pSubI (RD.pVar 0) (RD.pCl d4 (RD.pCons (RD.pVar 2) (RD.pCons (RD.pVar 3) (RD.pCons (RD.pVar 1) RD.pNil))))) (fun env => [none, none, jn (kL env 0), jn (kL env 3)])))
 (RD.pRet (RD.pOp RD.pCat (RD.pCl cF (RD.pCons (RD.pVar 4) RD.pNil)) (RD.pCl bC (RD.pCons (RD.pVar 0) (RD.pCons (RD.pVar 1) (RD.pCons (RD.pVar 3) RD.pNil)))))))
def dM:PN:=λxs R=>match xs with
 | [a0,a1,a2,a3]=>tG { nx:=λ_=>False,rt:=R } [some a0,some a1,some a2,some a3,none]
 | _=>False
theorem HL:tG = fB:=by unfold tG fB;walk_at "rp"
theorem oP (xs:List PV) (R:PV -> Prop) (h:dM xs R):fB { nx:=λ_=>bT (.o .fl) R,rt:=R } (aE ["book", "places", "limits", "chosen", "rooms"] xs):=by
 match xs,h with
 | [a0,a1,a2,a3],h=>(delta dM at h;exact (Eq.mp (congrFun (congrFun HL _) _) h:fB { nx:=λ_=>False,rt:=R } [some a0,some a1,some a2,some a3,none]))
def dB : bP := (pSeq (pSet 2 (pCl cO (pCons (pVar 0) pNil)))
 (pSeq (pPar 3 4 (pCons (pLst pNil) (pCons (pLst pNil) pNil)))
 (pSeq (pFor (piRng1 (pOp pAddI (pVar 1) (pC (.int 1)))) (pgName 5) (pSeq (pSet 6 (pCl dM (pCons (pVar 0) (pCons (pVar 2) (pCons (pOp pRep (pLst (pCons (pVar 5) pNil)) (pOp pSubI (pCl pLen (pCons (pVar 2) pNil)) (pC (.int 1)))) (pCons (pVar 3) pNil))))))
 (pSeq (pAsg (pCl b5 (pCons (pVar 6) (pCons (pCl pLen (pCons (pVar 2) pNil)) (pCons (pC (.int 0)) pNil)))) (pgTup 2 (pgCons (pgName 7) (pgCons (pgName 8) pgNil))))
 (pSeq (pMethT "list" 4 pmAppend (pCons (pTup (pCons (pVar 3) (pCons (pCl cP (pCons (pVar 7) (pCons (pSlice pSlL (pVar 2) pNoPart (pPart (pUn pNegI (pC (.int 1))))) pNil))) pNil))) pNil))
 (pSeq (pSet 3 (pCl cE (pCons (pVar 3) (pCons (pCl bB (pCons (pVar 8) (pCons (pOp pSubI (pCl pLen (pCons (pVar 2) pNil)) (pC (.int 1))) pNil))) pNil))))
 pNext)))))
 (pRet (pVar 4)))))
abbrev nN : bP := (RD.pSeq (RD.pSet 2 (RD.pCl cO (RD.pCons (RD.pVar 0) RD.pNil)))
 (RD.pSeq (RD.pPar 3 4 (RD.pCons (RD.pLst RD.pNil) (RD.pCons (RD.pLst RD.pNil) RD.pNil)))
 (RD.pSeq (RD.pFor (RD.piRng1 (RD.pOp RD.pAddI (RD.pVar 1) (RD.pC (.int 1)))) (RD.pgName 5) (RD.pSeq (RD.pSet 6 (RD.pCl dM (RD.pCons (RD.pVar 0) (RD.pCons (RD.pVar 2) (RD.pCons (RD.pOp RD.pRep (RD.pLst (RD.pCons (RD.pVar 5) RD.pNil)) (RD.pOp RD.pSubI (RD.pCl RD.pLen (RD.pCons (RD.pVar 2) RD.pNil)) (RD.pC (.int 1)))) (RD.pCons (RD.pVar 3) RD.pNil))))))
 (RD.pSeq (RD.pAsg (RD.pCl b5 (RD.pCons (RD.pVar 6) (RD.pCons (RD.pCl RD.pLen (RD.pCons (RD.pVar 2) RD.pNil)) (RD.pCons (RD.pC (.int 0)) RD.pNil)))) (RD.pgTup 2 (RD.pgCons (RD.pgName 7) (RD.pgCons (RD.pgName 8) RD.pgNil))))
 (RD.pSeq (RD.pMethT "list" 4 RD.pmAppend (RD.pCons (RD.pTup (RD.pCons (RD.pVar 3) (RD.pCons (RD.pCl cP (RD.pCons (RD.pVar 7) (RD.pCons (RD.pSlice RD.pSlL (RD.pVar 2) RD.pNoPart (RD.pPart (RD.pUn RD.pNegI (RD.pC (.int 1))))) RD.pNil))) RD.pNil))) RD.pNil))
 (RD.pSeq (RD.pSet 3 (RD.pCl cE (RD.pCons (RD.pVar 3) (RD.pCons (RD.pCl bB (RD.pCons (RD.pVar 8) (RD.pCons (RD.pOp RD.pSubI (RD.pCl RD.pLen (RD.pCons (RD.pVar 2) RD.pNil)) (RD.pC (.int 1))) RD.pNil))) RD.pNil))))
 RD.pNext)))))
 (RD.pRet (RD.pVar 4)))))
def cD:PN:=λxs R=>match xs with
 | [a0,a1]=>nN { nx:=λ_=>False,rt:=R } [some a0,some a1,none,none,none,none,none,none,none]
 | _=>False
theorem BP:nN = dB:=by unfold nN dB;walk_at "rp"
theorem lI (xs:List PV) (R:PV -> Prop) (h:cD xs R):dB { nx:=λ_=>bT (.o .sn) R,rt:=R } (aE ["book", "benches", "places", "chosen", "told", "many", "roads", "gains", "last_roads"] xs):=by
 match xs,h with
 | [a0,a1],h=>(delta cD at h;exact (Eq.mp (congrFun (congrFun BP _) _) h:dB { nx:=λ_=>False,rt:=R } [some a0,some a1,none,none,none,none,none,none,none]))
def bZ:bP:=(pRet (pOp cS (pCl dH (pCons (pVar 0) (pCons (pListR (pCl pLen (pCons (pVar 0) pNil))) pNil))) (pC (.int 0))))
abbrev jD:bP:=(RD.pRet (RD.pOp cS (RD.pCl dH (RD.pCons (RD.pVar 0) (RD.pCons (RD.pListR (RD.pCl RD.pLen (RD.pCons (RD.pVar 0) RD.pNil))) RD.pNil))) (RD.pC (.int 0))))
def bA:PN:=λxs R=>match xs with
 | [a0]=>jD { nx:=λ_=>R .non,rt:=R } [some a0]
 | _=>False
theorem wR:jD = bZ:=by unfold jD bZ;walk_at "rp"
theorem iH (xs:List PV) (R:PV -> Prop) (h:bA xs R):bZ { nx:=λ_=>bT (.v .sn) R,rt:=R } (aE ["book"] xs):=by
 match xs,h with
 | [a0],h=>(delta bA at h;exact (Eq.mp (congrFun (congrFun wR _) _) h:bZ { nx:=λ_=>R .non,rt:=R } [some a0]))
def f6:bP:=(pRet (pOp cS (pCl cD (pCons (pVar 0) (pCons (pCl pMin2 (pCons (pVar 1) (pCons (pCl bA (pCons (pVar 0) pNil)) pNil))) pNil))) (pUn pNegI (pC (.int 1)))))
abbrev sZ:bP:=(RD.pRet (RD.pOp cS (RD.pCl cD (RD.pCons (RD.pVar 0) (RD.pCons (RD.pCl RD.pMin2 (RD.pCons (RD.pVar 1) (RD.pCons (RD.pCl bA (RD.pCons (RD.pVar 0) RD.pNil)) RD.pNil))) RD.pNil))) (RD.pUn RD.pNegI (RD.pC (.int 1)))))
def dG:PN:=λxs R=>match xs with
 | [a0,a1]=>sZ { nx:=λ_=>R .non,rt:=R } [some a0,some a1]
 | _=>False
theorem HH:sZ = f6:=by unfold sZ f6;walk_at "rp"
theorem oK (xs:List PV) (R:PV -> Prop) (h:dG xs R):f6 { nx:=λ_=>bT (.v .sn) R,rt:=R } (aE ["book", "benches"] xs):=by
 match xs,h with
 | [a0,a1],h=>(delta dG at h;exact (Eq.mp (congrFun (congrFun HH _) _) h:f6 { nx:=λ_=>R .non,rt:=R } [some a0,some a1]))
def gM : bP := (pSeq (pAsg (pCl dG (pCons (pVar 0) (pCons (pVar 1) pNil))) (pgTup 2 (pgCons (pgName 2) (pgCons (pgName 3) pgNil))))
 (pRet (pTup (pCons (pCl dN (pCons (pVar 0) (pCons (pVar 2) pNil))) (pCons (pVar 2) (pCons (pVar 3) pNil))))))
abbrev wN : bP := (RD.pSeq (RD.pAsg (RD.pCl dG (RD.pCons (RD.pVar 0) (RD.pCons (RD.pVar 1) RD.pNil))) (RD.pgTup 2 (RD.pgCons (RD.pgName 2) (RD.pgCons (RD.pgName 3) RD.pgNil))))
 (RD.pRet (RD.pTup (RD.pCons (RD.pCl dN (RD.pCons (RD.pVar 0) (RD.pCons (RD.pVar 2) RD.pNil))) (RD.pCons (RD.pVar 2) (RD.pCons (RD.pVar 3) RD.pNil))))))
def eI:PN:=λxs R=>match xs with
 | [a0,a1]=>wN { nx:=λ_=>R .non,rt:=R } [some a0,some a1,none,none]
 | _=>False
theorem K2:wN = gM:=by unfold wN gM;walk_at "rp"
theorem sD (xs:List PV) (R:PV -> Prop) (h:eI xs R):gM { nx:=λ_=>bT (.v .sn) R,rt:=R } (aE ["book", "benches", "choice", "paper"] xs):=by
 match xs,h with
 | [a0,a1],h=>(delta eI at h;exact (Eq.mp (congrFun (congrFun K2 _) _) h:gM { nx:=λ_=>R .non,rt:=R } [some a0,some a1,none,none]))
end Lib
local macro_rules | `(tactic| walk_at "w") => `(tactic| with_reducible (conv => whnf))
namespace L2
open PySem
theorem fV {g:lC} {b:bP} {E:PEnds}:∀ {items:List PV} {env:bY} (I:Nat -> bY -> Prop),I 0 env ->
  (∀ (i:Nat) (x:PV) (env:bY) (N:bY -> Prop),items[i]? = some x -> I i env -> (∀ env',I (i + 1) env' -> N env') -> g x env λenv1=>b { E with nx:=N,ct:=N,bk:=E.nx } env1) ->
  (∀ env,I items.length env -> E.nx env) -> uV g b E items env
 | [],env,I,h0,hs,hd=>hd env h0
 | x :: xs,env,I,h0,hs,hd=>by
  rw [uV]
  refine hs 0 x env _ rfl h0 λenv' h=>?_
  exact fV (λi=>I (i + 1)) h (λi y e N hy=>hs (i + 1) y e N (by simpa using hy)) λe h=>hd e (by simpa using h)
theorem DJ {g:lC} {b:bP} {E:PEnds} {items:List PV} {env:bY} (J:bY -> Prop) (h0:J env)
  (hs:∀ (x:PV) (env:bY) (N:bY -> Prop),x ∈ items -> J env -> (∀ env',J env' -> N env') -> g x env λenv1=>b { E with nx:=N,ct:=N,bk:=E.nx } env1)
  (hd:∀ env,J env -> E.nx env):uV g b E items env :=
 fV (λ_=>J) h0 (λi x e N hx hJ hN=>hs x e N (a0x hx) hJ hN) hd
theorem k8 {g:lC} {tt:jB} {te:b8} {Q:PV -> Prop}:∀ {items acc:List PV} {env:bY} (I:Nat -> List PV -> bY -> Prop),I 0 acc env ->
  (∀ (i:Nat) (x:PV) (acc:List PV) (env:bY) (N:List PV -> bY -> Prop),items[i]? = some x -> I i acc env -> (∀ acc' env',I (i + 1) acc' env' -> N acc' env') -> g x env λenv1=>tt env1 λk=>Br k (te env1 λv=>N (acc ++ [v]) env1) (N acc env1)) ->
  (∀ acc env,I items.length acc env -> Q (.lst acc)) -> pK g tt te Q items acc env
 | [],acc,env,I,h0,hs,hd=>hd acc env h0
 | x :: xs,acc,env,I,h0,hs,hd=>by
  rw [pK]
  refine hs 0 x acc env (λacc env=>pK g tt te Q xs acc env) rfl h0 λacc' env' h=>?_
  exact k8 (λi=>I (i + 1)) h (λi y a e N hy=>hs (i + 1) y a e N (by simpa using hy)) λa e h=>hd a e (by simpa using h)
theorem oX {g:lC} {tt:jB} {te:b8} {Q:PV -> Prop}:∀ {items acc:List PV} {env:bY} (f:PV -> Option PV) (J:bY -> Prop),J env ->
  (∀ (x:PV) (env:bY) (N:Option PV -> bY -> Prop),x ∈ items -> J env -> (∀ env',J env' -> N (f x) env') -> g x env λenv1=>tt env1 λk=>Br k (te env1 λv=>N (some v) env1) (N none env1)) ->
  Q (.lst (acc ++ items.filterMap f)) -> pK g tt te Q items acc env
 | [],acc,env,f,J,h0,hs,hq=>by simpa [pK] using hq
 | x :: xs,acc,env,f,J,h0,hs,hq=>by
  rw [pK]
  refine hs x env (λo e=>match o with | some v=>pK g tt te Q xs (acc ++ [v]) e | none=>pK g tt te Q xs acc e) a0n h0 λenv' h=>?_
  rw [a1h] at hq
  cases hf:f x with
  | none =>
   rw [hf] at hq
   exact oX f J h (λy e N hy=>hs y e N (a0i _ hy)) hq
  | some v =>
   rw [hf] at hq
   exact oX f J h (λy e N hy=>hs y e N (a0i _ hy)) (by simpa using hq)
theorem a5U {x y:Prop} (h:x):Br true x y:=h
theorem a5T {x y:Prop} (h:y):Br false x y:=h
theorem OS {p:Prop} [Decidable p] {x y:Prop} (h1:p -> x) (h2:¬ p -> y):Br (decide p) x y:=a1S (λh=>h1 (a4f h)) λh=>h2 (of_decide_eq_false h)
theorem a1Y {p:Prop} [Decidable p] {x y:Prop} (h1:¬ p -> x) (h2:p -> y):Br (!decide p) x y:=a1S (λh=>h1 (by simpa using h)) λh=>h2 (by simpa using h)
theorem A1 {lo:Int} {n:Nat} {x:PV} (h:x ∈ dQ lo n):∃ i:Int,x = .int i /\ lo <= i /\ i < lo + n:=by
 unfold dQ at h
 obtain ⟨k,hk,rfl⟩:=a0p.mp h
 have:=a1l.mp hk
 exact ⟨_,rfl,by omega,by omega⟩
theorem g8 {lo:Int} {n i:Nat} {x:PV} (h:(dQ lo n)[i]? = some x):x = .int (lo + i) /\ i < n:=by
 have hi:i < n:=by
  have:=(a0k.mp h).1
  rwa [bS] at this
 rw [CF hi] at h
 exact ⟨(a1i h).symm,hi⟩
theorem cJ {n:Nat} (h:n <= 1000):n <= sizeLine:=a1b h (by decide)
theorem qG {n:Nat} (h:n <= 1000):n < sizeLine:=a5j h (by decide)
theorem m5 {ns:List Int} {P:Int -> Prop} {r:Int} {Q:PV -> Prop} (h0:0 <= r) (h1:r < ns.length) (hP:∀ n ∈ ns,P n) (q:∀ n,P n -> Q (.int n)):cS (.lst (ns.map PV.int)) (.int r) Q:=by
 have h:r.toNat < ns.length:=by omega
 refine eZ (z:=.int ns[r.toNat]) (dO h0 (by rw [a0h,a0b h];rfl)) (q _ (hP _ (a1x h)))
end L2
namespace Lib
open PySem L2
def wX (s:Sr):PV:=.tup [.str s.nm,.int s.b,.int s.e,.int s.w]
abbrev o6 (bk:List Sr):PV:=.lst (bk.map wX)
abbrev kK (ks:List Int):PV:=.lst (ks.map PV.int)
structure BkOk (bk:List Sr) (n:Nat):Prop where
 len:bk.length <= n
 at_:∀ (i:Nat) (s:Sr),bk[i]? = some s -> SrOk s i
theorem N4 (ks:List Int):PV.flats (ks.map PV.int) = true:=PV.flats_of λx h=>by obtain ⟨s,_,rfl⟩:=a0p.mp h;rfl
def aY (s:Sr) (m:Int):Bool:=decide (s.b <= m) && decide (m < s.e)
theorem vT {s:Sr} {m:Int} {R:PV -> Prop} (h:R (.bl (aY s m))):cL [wX s,.int m] R:=by
 unfold cL wX
 walk_at "w"
 refine kD CY ?_
 walk_at "w"
 unfold aY at h
 refine OS (λh1=>?_) (λh1=>?_)
 ·rw [a2m h1,Bool.true_and] at h
  refine kD CZ ?_
  walk_at "w"
  exact h
 ·rw [a1f h1,Bool.false_and] at h
  exact h
theorem XU {bk:List Sr} {k:Int} (h0:0 <= k) (h1:k < bk.length):∃ s,bk[k.toNat]? = some s /\ lD (bk.map wX) k = some (wX s):=by
 have h:k.toNat < bk.length:=by omega
 exact ⟨bk[k.toNat],a0b h,dO h0 (by rw [a0h,a0b h];rfl)⟩
theorem zC {k:Int} {R:PV -> Prop} (k0:0 <= k) (k1:k < 26) (h:∀ nm:Str,NmOk nm k.toNat -> R (.str nm)):fS [.st,.int k] R:=by
 unfold fS
 walk_at "w"
 refine ⟨by decide,by decide,λr r0 r1=>?_⟩
 walk_at "w"
 refine ⟨by omega,?_⟩
 refine ⟨by omega,?_⟩
 refine fV (λi env=>∃ (sp:Str) (t:Option PV),env = [some .st,some (.int k),some (.str a47),some (.str sp),t] /\ sp.cps.toList.length = i /\ ∀ c ∈ sp.cps.toList,97 <= c /\ c <= 122) ⟨Str.ofString "",none,rfl,by decide +kernel,by intro c hc;rw [show (Str.ofString "").cps.toList = [] by decide +kernel] at hc;cases hc⟩ ?_ ?_
 ·rintro i x env N hx ⟨sp,t,rfl,hl,hc⟩ hN
  obtain ⟨rfl,hi⟩:=g8 hx
  walk_at "w"
  refine ⟨by decide,by decide,λr2 r20 r21=>?_⟩
  walk_at "w"
  refine XB (KI r20 r21) (by rw [KH];decide) ?_
  walk_at "w"
  have l1:sp.length = i:=by show sp.cps.size = i;rw [<- hl,a0s]
  refine ⟨?_,?_⟩
  ·rw [l1]
   show i + 1 <= sizeLine
   exact cJ (by omega)
  ·refine hN _ ⟨_,_,rfl,?_,?_⟩
   ·show (sp.cps ++ #[97 + r2.toNat]).toList.length = _
    rw [a4n,a1d,hl];rfl
   ·intro c hc'
    have hc':c ∈ (sp.cps ++ #[97 + r2.toNat]).toList:=hc'
    rw [a4n] at hc'
    rcases a1g.mp hc' with z | z
    ·exact hc c z
    ·have:c = 97 + r2.toNat:=by simpa using z
     omega
 ·rintro env ⟨sp,t,rfl,hl,hc⟩
  rw [bS] at hl
  walk_at "w"
  refine XB (KI k0 k1) (by rw [KH];decide) ?_
  walk_at "w"
  have l1:sp.length = r.toNat:=by show sp.cps.size = _;rw [<- hl,a0s]
  refine ⟨?_,?_⟩
  ·rw [l1]
   show r.toNat + 1 <= sizeLine
   exact cJ (by omega)
  ·refine h _ ⟨⟨sp.cps.toList,?_,by omega,hc⟩⟩
   show (sp.cps ++ #[97 + k.toNat]).toList = _
   rw [a4n]
structure SmOk (ks:List Int) (n:Nat):Prop where
 lt:ks.Pairwise (· < ·)
 at_:∀ k ∈ ks,0 <= k /\ k < (n:Int)
theorem SmOk.len {ks:List Int} {n:Nat} (h:SmOk ks n):ks.length <= n:=by
 have h2:∀ (n:Nat) (ks:List Int),ks.Pairwise (· < ·) -> (∀ k ∈ ks,0 <= k /\ k < (n:Int)) -> ks.length <= n:=by
  intro n
  induction n with
  | zero=>intro ks _ h;cases ks with
   | nil=>simp
   | cons a l=>have:=h a a0n;omega
  | succ n ih =>
   intro ks hp h
   by_cases hm:(n:Int) ∈ ks
   ·have:(ks.erase (n:Int)).length <= n:=by
     refine ih _ (hp.sublist List.erase_sublist) λk hk=>?_
     have hk':=List.mem_of_mem_erase hk
     have nd:ks.Nodup:=hp.imp λh=>by omega
     have hne:k ≠ (n:Int):=λz=>by subst z;exact (List.Nodup.not_mem_erase nd) hk
     have:=h k hk'
     omega
    rw [List.length_erase_of_mem hm] at this
    omega
   ·have:=ih ks hp λk hk=>by
     have h1:=h k hk
     have:k ≠ (n:Int):=λz=>by subst z;exact hm hk
     omega
    omega
 exact h2 n ks h.lt h.at_
theorem G7 {u x:Int} (u0:1 <= u) (x1:x <= 28):u * x <= u * 28:=Int.mul_le_mul_of_nonneg_left x1 (by omega)
theorem IU {a b:Int} (h0:0 <= a) (h1:a < 18446744073709551616):B6 a b:=.inl ⟨by omega,by omega⟩
theorem QN {P:Int -> Prop} {a b c d:Int} (ha:P a) (hb:P b) (hc:P c) (hd:P d):∀ n ∈ [a,b,c,d],P n:=by
 intro n hn
 simp only [a0q,a1y,a3u] at hn
 rcases hn with rfl | rfl | rfl | rfl <;> assumption
theorem OW {n:Nat} {R:PV -> Prop} (hn:n <= 24) (h:∀ bk:List Sr,BkOk bk n -> R (o6 bk)):fR [.st,.int n] R:=by
  unfold fR
  walk_at "w"
  refine ⟨by decide,by decide,λr1 r10 r11=>?_⟩
  walk_at "w"
  refine m5 (ns:=[3,6,9,14]) (P:=λx=>0 < x /\ x <= 14) r10 r11 (QN (by omega) (by omega) (by omega) (by omega)) λsize hsz=>?_
  walk_at "w"
  refine ⟨⟨by decide,by decide,by decide⟩,?_⟩
  walk_at "w"
  refine ⟨by decide,by decide,λr2 r20 r21=>?_⟩
  walk_at "w"
  refine m5 (ns:=[1,1,7,10 ^ (10:Int).toNat]) (P:=λx=>0 < x /\ x <= 10000000000) r20 r21 (QN (by omega) (by omega) (by omega) (by decide)) λmany hmn=>?_
  walk_at "w"
  refine ⟨by omega, by have : (10000000000 : Int) < 2 ^ 250 := by decide
                       omega,λr3 r30 r31=>?_⟩
  walk_at "w"
  have u0:1 <= 1 + r3:=by omega
  have u1:1 + r3 <= 10000000000:=by omega
  refine ⟨⟨by decide,by decide,by decide⟩,?_⟩
  walk_at "w"
  refine ⟨⟨by decide,by decide,by decide⟩,?_⟩
  walk_at "w"
  refine ⟨IU (by decide) (by decide),?_⟩
  walk_at "w"
  refine ⟨by decide,by decide,λr4 r40 r41=>?_⟩
  walk_at "w"
  refine m5 (ns:=[0,-3,-(10 ^ (12:Int).toNat),10 ^ (12:Int).toNat - 28 * (1 + r3)]) (P:=λx=>-1000000000000 <= x /\ x + 28 * (1 + r3) <= 1000000000000) r40 r41
    (QN (by omega) (by omega) (by   have : (10 : Int) ^ (12 : Int).toNat = 1000000000000 := by decide
                                    rw [this]; omega) (by have : (10 : Int) ^ (12 : Int).toNat = 1000000000000 := by decide
                                                          rw [this];omega)) λlow hlow=>?_
  walk_at "w"
  refine ⟨by omega, by have : (25 : Int) < 2 ^ 250 := by decide
                       omega,λr5 r50 r51=>?_⟩
  walk_at "w"
  refine ⟨by omega,?_⟩
  refine ⟨by omega,?_⟩
  refine fV (λi env=>∃ (bk:List Sr) (t1 t2 t3 t4 t5:Option PV),env = [some .st,some (.int n),some (.int size),some (.int (1 + r3)),some (.int low),some (o6 bk),t1,t2,t3,t4,t5] /\ bk.length = i /\ ∀ (j:Nat) (s:Sr),bk[j]? = some s -> SrOk s j) ⟨[],none,none,none,none,none,rfl,rfl,by simp⟩ ?_ ?_
  · rintro i x env N hx ⟨bk,t1,t2,t3,t4,t5,rfl,hl,hb⟩ hN
    obtain ⟨rfl,hi⟩:=g8 hx
    walk_at "w"
    refine ⟨by omega, by have : (14 : Int) < 2 ^ 250 := by decide
                         omega,λb b0 b1=>?_⟩
    walk_at "w"
    refine ⟨by omega, by have : (14 : Int) < 2 ^ 250 := by decide
                         omega,λl l0 l1=>?_⟩
    walk_at "w"
    refine ⟨⟨by decide,by decide,by decide⟩,?_⟩
    walk_at "w"
    refine ⟨by decide,by decide,λr6 r60 r61=>?_⟩
    walk_at "w"
    refine m5 (ns:=[4,12,100,10 ^ (12:Int).toNat + 1]) (P:=λx=>0 < x /\ x <= 1000000000001) r60 r61 (QN (by omega) (by omega) (by omega) (by decide)) λwm hwm=>?_
    walk_at "w"
    refine ⟨by omega, by have : (1000000000001 : Int) < 2 ^ 250 := by decide
                         omega,λwo w0 w1=>?_⟩
    walk_at "w"
    refine ⟨IU (by omega) (by omega),?_⟩
    walk_at "w"
    refine ⟨IU (by omega) (by omega),?_⟩
    walk_at "w"
    have hb0:(1 + r3) * b <= (1 + r3) * 28:=G7 u0 (by omega)
    have he0:(1 + r3) * (b + 1 + l) <= (1 + r3) * 28:=G7 u0 (by omega)
    have hbn:0 <= (1 + r3) * b:=Int.mul_nonneg (by omega) b0
    have hlt:(1 + r3) * b < (1 + r3) * (b + 1 + l):=Int.mul_lt_mul_of_pos_left (by omega) (by omega)
    have add:∀ (nm:Str) (p e:Int),NmOk nm (0 + (i:Int)).toNat -> p < e -> -1000000000000 <= p -> e <= 1000000000000 -> ∀ (t1' t2' t3' t4' t5':Option PV),
        N [some .st,some (.int n),some (.int size),some (.int (1 + r3)),some (.int low),some (.lst (bk.map wX ++ [.tup [.str nm,.int p,.int e,.int wo]])),t1',t2',t3',t4',t5']:=by
      intro nm p e hnm h1 h2 h3 t1' t2' t3' t4' t5'
      refine hN _ ⟨bk ++ [⟨nm,p,e,wo⟩],t1',t2',t3',t4',t5',by simp [wX],by simp [hl],?_⟩
      intro j s hj
      by_cases hjl:j < bk.length
      · rw [a1p hjl] at hj;exact hb j s hj
      · rw [a1n (by omega)] at hj
        have hj0:j - bk.length = 0:=by
          have:=(a0k.mp hj).1
          simp at this;omega
        rw [hj0] at hj
        simp at hj
        subst hj
        have:(0 + (i:Int)).toNat = j:=by omega
        rw [this] at hnm
        exact ⟨hnm,h1,h2,h3,w0,show wo <= 1000000000000 by omega⟩
    have hsz:(bk.map wX).length < sizeLine:=qG (by simp;omega)
    refine OS (λh1=>?_) (λh1=>?_)
    · walk_at "w"
      refine ⟨by decide,by decide,λr7 r70 r71=>?_⟩
      walk_at "w"
      refine OS (λh2=>?_) (λh2=>?_)
      · walk_at "w"
        obtain ⟨s,es⟩ : ∃ s,bk[i - 1]? = some s:=⟨bk[i - 1]'(by omega),a0b (by omega)⟩
        have ix:lD (bk.map wX) (-1) = some (wX s):=by
          unfold lD yR
          rw [if_neg (by decide),if_pos (by rw [a0d];omega)]
          show (bk.map wX)[((-1:Int) + ((bk.map wX).length:Nat)).toNat]? = _
          rw [a0d,show ((-1:Int) + (bk.length:Nat)).toNat = i - 1 by omega,a0h,es];rfl
        refine eZ ix ?_
        unfold wX
        walk_at "w"
        refine ⟨(by decide:¬ (HT.sIx 4 0 (some 1) = 0 /\ HT.sIx 4 4 (some 3) = 4)),?_⟩
        walk_at "w"
        refine ⟨rfl,?_⟩
        have so:=hb _ _ es
        refine zC (by omega) (by omega) λnm hnm=>?_
        walk_at "w"
        refine kD (z:=.int s.b) rfl ?_
        walk_at "w"
        refine kD (z:=.int s.e) rfl ?_
        walk_at "w"
        exact ⟨hsz,add nm s.b s.e hnm so.lt so.b0 so.e1 _ _ _ _ _⟩
      · walk_at "w"
        refine ⟨rfl,?_⟩
        refine zC (by omega) (by omega) λnm hnm=>?_
        walk_at "w"
        refine kD yZ ?_
        walk_at "w"
        refine kD CY ?_
        walk_at "w"
        exact ⟨hsz,add nm _ _ hnm (by omega) (by omega) (by omega) _ _ _ _ _⟩
    · walk_at "w"
      refine ⟨rfl,?_⟩
      refine zC (by omega) (by omega) λnm hnm=>?_
      walk_at "w"
      refine kD yZ ?_
      walk_at "w"
      refine kD CY ?_
      walk_at "w"
      exact ⟨hsz,add nm _ _ hnm (by omega) (by omega) (by omega) _ _ _ _ _⟩
  · rintro env ⟨bk,t1,t2,t3,t4,t5,rfl,hl,hb⟩
    rw [bS] at hl
    walk_at "w"
    exact h bk ⟨by omega,hb⟩
end Lib
namespace L2
open PySem
theorem KO (i:Int):(PV.int i).dep = 0:=by rw [PV.dep]
theorem J8 (n:Nat):dQ 0 n = ((List.range n).map λ(i:Nat)=>(i:Int)).map PV.int:=by simp [dQ]
end L2
namespace Lib
open PySem L2
theorem K7 (n:Nat):SmOk ((List.range n).map λ(i:Nat)=>(i:Int)) n:=⟨by
 rw [a3q];exact List.pairwise_lt_range.imp λh=>by omega,λk h=>by
 obtain ⟨i,hi,rfl⟩:=a0p.mp h
 have:=a1l.mp hi
 omega⟩
end Lib
local macro_rules | `(tactic| walk_at "w") => `(tactic| ((with_reducible (conv => whnf)); (repeat ((with_reducible first | refine L2.a5U ?_ | refine L2.a5T ?_ | refine L2.brNT ?_ | refine L2.brNF ?_); (with_reducible (conv => whnf))))))
namespace L2
open PySem
theorem PP {g:lC} {tt:jB} {a:ID} {K:List Int -> bY -> Prop}:∀ {items:List PV} {acc:List Int} {env:bY} (I:Nat -> List Int -> bY -> Prop),I 0 acc env ->
  (∀ (i:Nat) (x:PV) (acc:List Int) (env:bY) (N:List Int -> bY -> Prop),items[i]? = some x -> I i acc env -> (∀ acc' env',I (i + 1) acc' env' -> N acc' env') -> g x env λenv1=>tt env1 λk=>Br k (a acc env1 N) (N acc env1)) ->
  (∀ acc env,I items.length acc env -> K acc env) -> o8 g tt a K items acc env
 | [],acc,env,I,h0,hs,hd=>hd acc env h0
 | x :: xs,acc,env,I,h0,hs,hd=>by
  rw [o8]
  refine hs 0 x acc env (λacc env=>o8 g tt a K xs acc env) rfl h0 λacc' env' h=>?_
  exact PP (λi=>I (i + 1)) h (λi y a e N hy=>hs (i + 1) y a e N (by simpa using hy)) λa e h=>hd a e (by simpa using h)
end L2
namespace Lib
open PySem L2
def jK (ss:List Sr):List Int:=ss.flatMap λs=>[s.b,s.e]
theorem DS (ss:List Sr):(jK ss).length = 2 * ss.length:=by
 induction ss with
 | nil=>rfl
 | cons s ss ih=>rw [jK,List.flatMap_cons,a1d,<- jK,ih];simp;omega
theorem iT {ss:List Sr} {m:Int}:m ∈ jK ss ↔ ∃ s ∈ ss,m = s.b \/ m = s.e:=by
 simp [jK]
theorem C9 {ss:List Sr} {R:PV -> Prop} (hl:ss.length <= 31) (q:R (kK (aS (jK ss)))):bL [o6 ss] R:=by
 unfold bL
 walk_at "w"
 refine PP (λi acc env=>acc = jK (ss.take i) /\ ∃ t1 t2,env = [t1,t2]) ⟨rfl,none,none,rfl⟩ ?_ ?_
 ·rintro i x acc env N hx ⟨rfl,t1,t2,rfl⟩ hN
  rw [a0h,a0u] at hx
  obtain ⟨s,hs,rfl⟩:=hx
  have hi:i < ss.length:=(a0k.mp hs).1
  have hlen:(jK (ss.take i)).length <= 60:=by rw [DS,a2f];omega
  have he:jK (ss.take (i + 1)) = jK (ss.take i) ++ [s.b] ++ [s.e]:=by
   rw [a1o,hs,jK,List.flatMap_append,<- jK];simp
  unfold wX
  walk_at "w"
  refine ⟨(by decide:¬ (HT.sIx 4 0 (some 1) = 0 /\ HT.sIx 4 4 (some 3) = 4)),?_⟩
  show o8 _ _ _ _ [.int s.b,.int s.e] _ _
  rw [o8]
  walk_at "w"
  refine ⟨by omega,?_⟩
  show o8 _ _ _ _ [.int s.e] _ _
  rw [o8]
  walk_at "w"
  refine ⟨by rw [a1d,a5a];omega,?_⟩
  show o8 _ _ _ _ [] _ _
  rw [o8]
  exact hN _ _ ⟨he.symm,_,_,rfl⟩
 ·rintro acc env ⟨rfl,t1,t2,rfl⟩
  rw [a0d,a1z]
  exact q
def iX (bk:List Sr) (k:Int):Sr:=(bk[k.toNat]?).getD ⟨Str.empty,0,0,0⟩
def aZ (bk:List Sr) (ks:List Int):List Sr:=ks.map (iX bk)
theorem KJ {bk:List Sr} {k:Int} (h0:0 <= k) (h1:k < bk.length):lD (bk.map wX) k = some (wX (iX bk k)):=by
 obtain ⟨s,e1,e2⟩:=XU h0 h1
 rw [e2];unfold iX;rw [e1];rfl
def b6 (ss:List Sr) (m:Int):Nat:=ss.countP λs=>aY s m
theorem ZK {bk:List Sr} {m:Int} (ks:List Int):((ks.map PV.int).filterMap λx=>match x with | .int k=>if aY (iX bk k) m then some (PV.int k) else none | _=>none).length = b6 (aZ bk ks) m:=by
 unfold b6 aZ
 induction ks with
 | nil=>rfl
 | cons k ks ih =>
  rw [a0f,a0f,List.countP_cons,<- ih,a1h]
  by_cases h:aY (iX bk k) m = true
  ·simp [h]
  ·simp [h]
theorem C8 {bk:List Sr} {ks:List Int} {m:Int} {R:PV -> Prop} (hl:ks.length <= 1000) (ok:∀ k ∈ ks,0 <= k /\ k < (bk.length:Int)) (q:R (.int (b6 (aZ bk ks) m))):d4 [o6 bk,kK ks,.int m] R:=by
 unfold d4
 walk_at "w"
 refine ⟨cJ (by simpa using hl),?_⟩
 refine oX (λx=>match x with | .int k=>if aY (iX bk k) m then some (PV.int k) else none | _=>none) (λenv=>∃ t,env = [t,some (.int m),some (o6 bk)]) ⟨_,rfl⟩ ?_ ?_
 ·rintro x env N hx ⟨t,rfl⟩ hN
  obtain ⟨k,hk,rfl⟩:=a0p.mp hx
  walk_at "w"
  refine eZ (KJ (ok k hk).1 (ok k hk).2) ?_
  walk_at "w"
  refine vT ?_
  walk_at "w"
  have hN:=hN [some (.int k),some (.int m),some (o6 bk)] ⟨_,rfl⟩
  dsimp only at hN
  refine a1S (λh=>?_) (λh=>?_)
  ·rw [if_pos h] at hN;exact hN
  ·rw [if_neg (by rw [h];exact a0j)] at hN;exact hN
 ·rw [a3m]
  walk_at "w"
  rw [ZK]
  exact q
end Lib
namespace L2
open PySem
theorem u3:∀ (n:Nat) (ks:List Int),ks.length <= n -> ks.eraseDups.length <= ks.length
 | 0,ks,h=>by
  have:ks = []:=a3d.mp (by omega)
  subst this;simp
 | n + 1,[],h=>by simp
 | n + 1,k :: ks,h=>by
  rw [List.eraseDups_cons,a2g,a2g]
  have h1:=a4a (λb=>!b == k) ks
  have:=u3 n (ks.filter λb=>!b == k) (by simp at h;omega)
  omega
theorem CV (ks:List Int):(aS ks).length <= ks.length:=by
 unfold aS
 rw [(cT _).length_eq]
 exact u3 _ ks (a0l _)
theorem TC {ds:List Int} {x:Int}:((ds.map PV.int).any λz=>z.eqB (.int x)) = decide (x ∈ ds):=by
 rw [List.any_map]
 induction ds with
 | nil=>simp
 | cons d ds ih =>
  rw [a4d,ih]
  show ((PV.int d).eqB (.int x) || _) = _
  rw [eqB_ii]
  by_cases h:d = x
  ·subst h;simp
  ·have:¬ x = d:=λz=>h z.symm
   simp [h,this]
end L2
namespace Lib
open PySem L2
theorem zZ {ss:List Sr} {x y:Int} (h:∀ s ∈ ss,aY s x = aY s y):b6 ss x = b6 ss y:=by
 unfold b6
 exact List.countP_congr λs hs=>by rw [h s hs]
theorem iK {s:Sr} {m:Int}:aY s m = true ↔ s.b <= m /\ m < s.e:=by
 unfold aY;simp
theorem oV {s:Sr} {x y:Int} (h:(s.b <= x ↔ s.b <= y) /\ (x < s.e ↔ y < s.e)):aY s x = aY s y:=by
 rw [a4s,iK,iK,h.1,h.2]
theorem QD {ss:List Sr} {m:Int} (hm:(aS (jK ss))[0]? = some m):b6 ss (m - 1) = 0:=by
 unfold b6
 refine List.countP_eq_zero.mpr λs hs=>?_
 rw [iK]
 have hb:s.b ∈ aS (jK ss):=c8.mpr (iT.mpr ⟨s,hs,.inl rfl⟩)
 obtain ⟨j,hj,ej⟩:=a1v hb
 obtain ⟨h0,e0⟩:=a0k.mp hm
 have:m <= s.b:=by
  rcases Nat.eq_zero_or_pos j with z | z
  ·subst z;rw [<- ej,e0];exact a3l _
  ·have:=(a2y.mp (jA (jK ss))) 0 j h0 hj z
   rw [e0,ej] at this;omega
 omega
theorem UT {ss:List Sr} {i:Nat} {x m:Int} (hx:(aS (jK ss))[i]? = some x) (hm:(aS (jK ss))[i + 1]? = some m):b6 ss x = b6 ss (m - 1):=by
 obtain ⟨h0,e0⟩:=a0k.mp hx
 obtain ⟨h1,e1⟩:=a0k.mp hm
 have pw:=a2y.mp (jA (jK ss))
 have lt:=pw i (i + 1) h0 h1 (by omega)
 rw [e0,e1] at lt
 have off:∀ v ∈ aS (jK ss),v <= x \/ m <= v:=by
  intro v hv
  obtain ⟨j,hj,ej⟩:=a1v hv
  rcases Nat.lt_trichotomy j i with z | z | z
  ·have:=pw j i hj h0 z
   rw [e0,ej] at this;omega
  ·subst z;rw [e0] at ej;omega
  ·rcases a4u (Nat.succ_le_of_lt z) with z2 | z2
   ·subst z2;right;rw [<- ej,<- e1];exact a3l _
   ·have:=pw (i + 1) j h1 hj z2
    rw [e1,ej] at this;omega
 refine zZ λs hs=>oV ?_
 have hb:=off s.b (c8.mpr (iT.mpr ⟨s,hs,.inl rfl⟩))
 have he:=off s.e (c8.mpr (iT.mpr ⟨s,hs,.inr rfl⟩))
 constructor <;> constructor <;> intro h <;> omega
def NX (ss:List Sr) (m:Int):Option PV:=if b6 ss m = b6 ss (m - 1) then none else some (.tup [.int m,.int (b6 ss m)])
def yO (ss:List Sr) (i:Nat):List PV:=((aS (jK ss)).take i).filterMap (NX ss)
def ET (ss:List Sr):List PV:=(aS (jK ss)).filterMap (NX ss)
theorem SE (ss:List Sr) (i:Nat):(yO ss i).length <= 2 * ss.length:=by
 unfold yO
 have h1:=List.length_filterMap_le (NX ss) ((aS (jK ss)).take i)
 have h2:=List.length_take_le i (aS (jK ss))
 have h3:=CV (jK ss)
 rw [DS] at h3
 have:((aS (jK ss)).take i).length <= (aS (jK ss)).length:=by rw [a2f];omega
 omega
theorem NY {ss:List Sr} {i:Nat} {m:Int} (hm:(aS (jK ss))[i]? = some m) (h:b6 ss m = b6 ss (m - 1)):yO ss (i + 1) = yO ss i:=by
 unfold yO
 rw [a1o,hm,List.filterMap_append]
 simp [NX,h]
theorem SF {ss:List Sr} {i:Nat} {m:Int} (hm:(aS (jK ss))[i]? = some m) (h:¬ b6 ss m = b6 ss (m - 1)):yO ss (i + 1) = yO ss i ++ [.tup [.int m,.int (b6 ss m)]]:=by
 unfold yO
 rw [a1o,hm,List.filterMap_append]
 simp [NX,h]
theorem GW (bk:List Sr) (ks:List Int):(aZ bk ks).length = ks.length:=by simp [aZ]
theorem UQ {bk:List Sr} {ks:List Int} {Q:PV -> Prop} {e1:Option PV} (ok:∀ k ∈ ks,0 <= k /\ k < (bk.length:Int)) (q:Q (o6 (aZ bk ks))) :
  pK (RD.pgName 0) RD.pTrue (RD.pOp cS (RD.pVar 1) (RD.pVar 0)) Q (ks.map PV.int) [] [e1,some (o6 bk)]:=by
 refine oX (λx=>match x with | .int k=>some (wX (iX bk k)) | _=>none) (λenv=>∃ t,env = [t,some (o6 bk)]) ⟨e1,rfl⟩ ?_ ?_
 ·rintro x env N hx ⟨t,rfl⟩ hN
  obtain ⟨k,hk,rfl⟩:=a0p.mp hx
  walk_at "w"
  refine eZ (KJ (ok k hk).1 (ok k hk).2) ?_
  exact hN _ ⟨_,rfl⟩
 ·rw [a3m]
  have:(ks.map PV.int).filterMap (λx=>match x with | .int k=>some (wX (iX bk k)) | _=>none) = (aZ bk ks).map wX:=by
   rw [aZ,a3i,a2i,<- a4c];rfl
  rw [this];exact q
theorem IQ {bk:List Sr} {ks:List Int} {R:PV -> Prop} (hl:ks.length <= 31) (ok:∀ k ∈ ks,0 <= k /\ k < (bk.length:Int)) (q:R (.lst (ET (aZ bk ks)))):dI [o6 bk,kK ks] R:=by
 unfold dI
 walk_at "w"
 refine ⟨cJ (by simp;omega),?_⟩
 refine UQ ok ?_
 walk_at "w"
 refine C9 (by rw [GW];exact hl) ?_
 walk_at "w"
 refine fV (λi env=>∃ (b:Int) (t4 t5:Option PV),env = [some (o6 bk),some (kK ks),some (.lst (yO (aZ bk ks) i)),some (.int b),t4,t5] /\ ∀ m,(aS (jK (aZ bk ks)))[i]? = some m -> b = (b6 (aZ bk ks) (m - 1):Nat)) ⟨0,none,none,rfl,λm hm=>by rw [QD hm];rfl⟩ ?_ ?_
 ·rintro i x env N hx ⟨b,t4,t5,rfl,hb⟩ hN
  rw [a0h,a0u] at hx
  obtain ⟨m,hm,rfl⟩:=hx
  have hb:=hb m hm
  subst hb
  walk_at "w"
  refine C8 (by omega) ok ?_
  walk_at "w"
  have go:∀ t5,N [some (o6 bk),some (kK ks),some (.lst (yO (aZ bk ks) (i + 1))),some (.int (b6 (aZ bk ks) m)),some (.int m),t5]:=λt5=>hN _ ⟨_,_,_,rfl,λm' hm'=>by rw [UT hm hm']⟩
  refine a1Y (λh=>?_) λh=>?_
  ·walk_at "w"
   refine ⟨rfl,?_⟩
   walk_at "w"
   refine ⟨qG (n:=(yO (aZ bk ks) i).length) (by have:=SE (aZ bk ks) i;rw [GW] at this;omega),?_⟩
   rw [SF hm (by omega)] at go
   exact go _
  ·rw [NY hm (by omega)] at go
   exact go _
 ·rintro env ⟨b,t4,t5,rfl,hb⟩
  walk_at "w"
  rw [a0d,yO,a1z]
  exact q
theorem a10 {bk:List Sr} {i:Nat} {s:Sr} (h:bk[i]? = some s):iX bk (i:Int) = s:=by
 unfold iX;rw [a1j,h];rfl
def lP (ss:List Sr):Int:=(ss.map Sr.w).sum
theorem Q9 {bk:List Sr} {ks:List Int} {Q:PV -> Prop} {e1:Option PV} (ok:∀ k ∈ ks,0 <= k /\ k < (bk.length:Int)) (q:Q (kK ((aZ bk ks).map Sr.w))) :
  pK (RD.pgName 0) RD.pTrue (RD.pOp cS (RD.pOp cS (RD.pVar 1) (RD.pVar 0)) (RD.pC (PV.int 3))) Q (ks.map PV.int) [] [e1,some (o6 bk)]:=by
 refine oX (λx=>match x with | .int k=>some (.int (iX bk k).w) | _=>none) (λenv=>∃ t,env = [t,some (o6 bk)]) ⟨e1,rfl⟩ ?_ ?_
 ·rintro x env N hx ⟨t,rfl⟩ hN
  obtain ⟨k,hk,rfl⟩:=a0p.mp hx
  walk_at "w"
  refine eZ (KJ (ok k hk).1 (ok k hk).2) ?_
  unfold wX
  walk_at "w"
  refine kD IK ?_
  exact hN _ ⟨_,rfl⟩
 ·rw [a3m]
  have:(ks.map PV.int).filterMap (λx=>match x with | .int k=>some (.int (iX bk k).w) | _=>none) = ((aZ bk ks).map Sr.w).map PV.int:=by
   rw [aZ,a3i,a2i,a2i,<- a4c];rfl
  rw [this];exact q
theorem TN {bk:List Sr} {ks:List Int} {R:PV -> Prop} (hl:ks.length <= 1000) (ok:∀ k ∈ ks,0 <= k /\ k < (bk.length:Int)) (q:R (.int (lP (aZ bk ks)))):dN [o6 bk,kK ks] R:=by
 unfold dN
 walk_at "w"
 refine ⟨cJ (by simpa using hl),?_⟩
 refine Q9 ok ?_
 walk_at "w"
 exact E8 q
def HY (ss:List Sr) (m:Int):Option (Int × Nat):=if b6 ss m = b6 ss (m - 1) then none else some (m,b6 ss m)
def EU (ss:List Sr):List (Int × Nat):=(aS (jK ss)).filterMap (HY ss)
def a5P (p:Int × Nat):PV:=.tup [.int p.1,.int p.2]
theorem K9 (ss:List Sr):ET ss = (EU ss).map a5P:=by
 unfold ET EU
 rw [List.map_filterMap]
 congr 1;funext m
 unfold NX HY
 split <;> rfl
theorem uE {ss:List Sr} {m:Int} {l:Nat}:(m,l) ∈ EU ss ↔ m ∈ aS (jK ss) /\ b6 ss m ≠ b6 ss (m - 1) /\ l = b6 ss m:=by
 unfold EU
 rw [a3w]
 constructor
 ·rintro ⟨u,hu,e⟩
  unfold HY at e
  split at e
  ·cases e
  ·rename_i h
   cases e
   exact ⟨hu,h,rfl⟩
 ·rintro ⟨hu,h,rfl⟩
  exact ⟨m,hu,by unfold HY;rw [if_neg h]⟩
theorem a16 (ss:List Sr):(EU ss).Pairwise λp q=>p.1 < q.1:=by
 unfold EU
 refine List.Pairwise.filterMap (R:=λ(a b:Int)=>a < b) _ (λa b hab p hp q hq=>?_) (jA _)
 unfold HY at hp hq
 split at hp
 ·cases hp
 ·split at hq
  ·cases hq
  ·cases hp;cases hq;exact hab
theorem DR {ss:List Sr} {m:Int} (h:∀ s ∈ ss,¬ (s.b <= m /\ m < s.e)):b6 ss m = 0:=by
 unfold b6
 refine List.countP_eq_zero.mpr λs hs=>?_
 rw [iK]
 exact h s hs
theorem ZL {ss:List Sr} {s:Sr} {m:Int} (hs:s ∈ ss) (h:s.b <= m /\ m < s.e):0 < b6 ss m:=by
 unfold b6
 exact List.countP_pos_iff.mpr ⟨s,hs,iK.mpr h⟩
theorem UR {ss:List Sr} {m y:Int} {l:List Int} (h:(aS (jK ss)).filter (λx=>decide (x <= m)) = l ++ [y]):b6 ss m = b6 ss y /\ y <= m /\ y ∈ aS (jK ss) /\ ∀ v ∈ aS (jK ss),v <= m -> v <= y:=by
 have hp:(l ++ [y]).Pairwise (· < ·):=by rw [<- h];exact (jA _).sublist List.filter_sublist
 have hm:y ∈ (aS (jK ss)).filter (λx=>decide (x <= m)):=by rw [h];simp
 have hy:y <= m:=a4f (a2e.mp hm).2
 have top:∀ v ∈ aS (jK ss),v <= m -> v <= y:=by
  intro v hv hm
  have:v ∈ l ++ [y]:=by rw [<- h];exact a2e.mpr ⟨hv,a2m hm⟩
  rcases a1g.mp this with z | z
  ·have:=(a5e.mp hp).2.2 v z y (by simp);omega
  ·simp at z;omega
 refine ⟨zZ λs hs=>oV ?_,hy,(a2e.mp hm).1,top⟩
 have hb:=top s.b (c8.mpr (iT.mpr ⟨s,hs,.inl rfl⟩))
 have he:=top s.e (c8.mpr (iT.mpr ⟨s,hs,.inr rfl⟩))
 constructor <;> constructor <;> intro h <;> omega
theorem UU {ss:List Sr} {m:Int} (h:(aS (jK ss)).filter (λx=>decide (x <= m)) = []):b6 ss m = 0:=DR λs hs z=>by
 have:=List.filter_eq_nil_iff.mp h s.b (c8.mpr (iT.mpr ⟨s,hs,.inl rfl⟩))
 rw [a3x] at this
 exact this z.1
theorem L7 (ss:List Sr):∀ (n:Nat) (m:Int),((aS (jK ss)).filter λx=>decide (x <= m)).length <= n -> (b6 ss m = 0 /\ ∀ p ∈ EU ss,¬ p.1 <= m) \/ ∃ m',(m',b6 ss m) ∈ EU ss /\ m' <= m /\ ∀ p ∈ EU ss,p.1 <= m -> p.1 <= m'
 | n,m,hn=>by
  rcases List.eq_nil_or_concat ((aS (jK ss)).filter λx=>decide (x <= m)) with h | ⟨l,y,h⟩
  ·refine .inl ⟨UU h,λp hp z=>?_⟩
   have:=List.filter_eq_nil_iff.mp h p.1 (uE (l:=p.2).mp hp).1
   rw [a3x] at this
   exact this z
  ·rw [List.concat_eq_append] at h
   obtain ⟨e,hy,hu,top⟩:=UR h
   by_cases hs:b6 ss y = b6 ss (y - 1)
   ·
    have hf:((aS (jK ss)).filter λx=>decide (x <= y - 1)).length < ((aS (jK ss)).filter λx=>decide (x <= m)).length:=by
     have hsub:((aS (jK ss)).filter λx=>decide (x <= y - 1)) = ((aS (jK ss)).filter λx=>decide (x <= m)).filter λx=>decide (x <= y - 1):=by
      rw [List.filter_filter]
      refine List.filter_congr λx _=>?_
      by_cases hx:x <= y - 1
      ·have:x <= m:=by omega
       simp [hx,this]
      ·simp [hx]
     rw [hsub]
     refine List.length_filter_lt_length_iff_exists.mpr ⟨y,by rw [h];simp,by simp;omega⟩
    match n,hn with
    | 0,hn=>omega
    | n + 1,hn =>
     have key:∀ p ∈ EU ss,p.1 <= m -> p.1 <= y - 1:=λp hp hm=>by
      obtain ⟨h1,h2,h3⟩:=uE (l:=p.2).mp hp
      have:=top _ h1 hm
      have:p.1 ≠ y:=λz=>h2 (by rw [z];exact hs)
      omega
     rcases L7 ss n (y - 1) (by omega) with ⟨z1,z2⟩ | ⟨m',z1,z2,z3⟩
     ·exact .inl ⟨by rw [e,hs,z1],λp hp hm=>z2 p hp (key p hp hm)⟩
     ·exact .inr ⟨m',by rw [e,hs];exact z1,by omega,λp hp hm=>z3 p hp (key p hp hm)⟩
   ·exact .inr ⟨y,by rw [e];exact uE.mpr ⟨hu,hs,rfl⟩,hy,λp hp hm=>top _ (uE (l:=p.2).mp hp).1 hm⟩
theorem L8 (ss:List Sr) (m:Int):(b6 ss m = 0 /\ ∀ p ∈ EU ss,¬ p.1 <= m) \/ ∃ m',(m',b6 ss m) ∈ EU ss /\ m' <= m /\ ∀ p ∈ EU ss,p.1 <= m -> p.1 <= m':=L7 ss _ m (a0l _)
structure Crowd (ss:List Sr) (G:Nat) (f:Option Int):Prop where
 top:∀ m,b6 ss m <= G
 non:f = none -> G = 0
 fst:∀ m0,f = some m0 -> b6 ss m0 = G /\ 0 < G /\ ∀ m < m0,b6 ss m < G
theorem Crowd.none_nil {ss:List Sr} {G:Nat} (h:Crowd ss G none) (lt:∀ s ∈ ss,s.b < s.e):ss = []:=by
 rw [List.eq_nil_iff_forall_not_mem]
 intro s hs
 have:=ZL hs (m:=s.b) ⟨a3l _,lt s hs⟩
 have:=h.top s.b
 have:=h.non rfl
 omega
def kM:Option Int -> PV
 | none=>.non
 | some m=>.int m
def QY (bk:List Sr) (ks:List Int):Option Int -> List Int
 | none=>[]
 | some m=>ks.filter λk=>aY (iX bk k) m
structure CrSo (sl:List (Int × Nat)) (i:Nat) (g:Nat) (f:Option Int):Prop where
 top:∀ j p,j < i -> sl[j]? = some p -> p.2 <= g
 non:f = none -> g = 0
 fst:∀ m0,f = some m0 -> 0 < g /\ ∃ j0,j0 < i /\ sl[j0]? = some (m0,g) /\ ∀ j p,j < j0 -> sl[j]? = some p -> p.2 < g
theorem CrSo.crowd {ss:List Sr} {g:Nat} {f:Option Int} (h:CrSo (EU ss) (EU ss).length g f):Crowd ss g f:=by
 have at_:∀ {p:Int × Nat},p ∈ EU ss -> ∃ j,j < (EU ss).length /\ (EU ss)[j]? = some p:=λhp=>by
  obtain ⟨j,hj,e⟩:=a1v hp
  exact ⟨j,hj,by rw [a0b hj,e]⟩
 refine ⟨λm=>?_,h.non,λm0 e=>?_⟩
 ·rcases L8 ss m with ⟨z,_⟩ | ⟨m',hp,_⟩
  ·omega
  ·obtain ⟨j,hj,e⟩:=at_ hp
   exact h.top j _ hj e
 ·obtain ⟨g0,j0,hj0,ej0,bef⟩:=h.fst m0 e
  have hm0:=uE.mp (a0x ej0)
  refine ⟨hm0.2.2.symm,g0,λm hm=>?_⟩
  rcases L8 ss m with ⟨z,_⟩ | ⟨m',hp,hle,_⟩
  ·omega
  ·obtain ⟨j,hj,ej⟩:=at_ hp
   refine bef j _ ?_ ej
   refine a5w λhle2=>?_
   rcases a4u hle2 with z | z
   ·subst z;rw [ej0] at ej;cases ej;omega
   ·have:=(a2y.mp (a16 ss)) j0 j hj0 hj z
    rw [(a0k.mp ej0).2,(a0k.mp ej).2] at this
    dsimp only at this
    omega
theorem CrSo.grow {sl:List (Int × Nat)} {i g l:Nat} {m:Int} {f:Option Int} (h:CrSo sl i g f) (e:sl[i]? = some (m,l)) (hl:g < l):CrSo sl (i + 1) l (some m):=by
 refine ⟨λj p hj ej=>?_,λz=>(by cases z),λm0 z=>?_⟩
 ·rcases a4u (Nat.le_of_lt_succ hj) with z | z
  ·subst z;rw [e] at ej;cases ej;exact a0l _
  ·have:=h.top j p z ej;omega
 ·cases z
  refine ⟨by omega,i,by omega,e,λj p hj ej=>?_⟩
  have:=h.top j p hj ej;omega
theorem CrSo.stay {sl:List (Int × Nat)} {i g l:Nat} {m:Int} {f:Option Int} (h:CrSo sl i g f) (e:sl[i]? = some (m,l)) (hl:¬ g < l):CrSo sl (i + 1) g f:=by
 refine ⟨λj p hj ej=>?_,h.non,λm0 z=>?_⟩
 ·rcases a4u (Nat.le_of_lt_succ hj) with z | z
  ·subst z;rw [e] at ej;cases ej;show l <= g;omega
  ·exact h.top j p z ej
 ·obtain ⟨g0,j0,h1,h2,h3⟩:=h.fst m0 z
  exact ⟨g0,j0,by omega,h2,h3⟩
theorem IP {bk:List Sr} {ks:List Int} {R:PV -> Prop} (hl:ks.length <= 31) (ok:∀ k ∈ ks,0 <= k /\ k < (bk.length:Int)) (lt:∀ s ∈ aZ bk ks,s.b < s.e)
  (q:∀ G f,Crowd (aZ bk ks) G f -> R (.tup [.int (G:Nat),kM f,kK (QY bk ks f)])):dH [o6 bk,kK ks] R:=by
 unfold dH
 walk_at "w"
 refine ⟨rfl,?_⟩
 walk_at "w"
 refine IQ hl ok ?_
 rw [K9]
 walk_at "w"
 refine fV (λi env=>∃ (g:Nat) (f:Option Int) (t4 t5:Option PV),env = [some (o6 bk),some (kK ks),some (.int g),some (kM f),t4,t5] /\ CrSo (EU (aZ bk ks)) i g f)
  ⟨0,none,none,none,rfl,⟨λj p hj _=>absurd hj (Nat.not_lt_zero j),λ_=>rfl,λ_ z=>(by cases z)⟩⟩ ?_ ?_
 ·rintro i x env N hx ⟨g,f,t4,t5,rfl,hc⟩ hN
  rw [a0h,a0u] at hx
  obtain ⟨⟨m,l⟩,hp,rfl⟩:=hx
  unfold a5P
  walk_at "w"
  refine ⟨rfl,?_⟩
  walk_at "w"
  refine OS (λh=>?_) (λh=>?_)
  ·walk_at "w"
   refine ⟨rfl,?_⟩
   exact hN _ ⟨l,some m,_,_,rfl,hc.grow hp (by omega)⟩
  ·exact hN _ ⟨g,f,_,_,rfl,hc.stay hp (by omega)⟩
 ·rintro env ⟨g,f,t4,t5,rfl,hc⟩
  rw [a0d] at hc
  have cr:=hc.crowd
  walk_at "w"
  refine ⟨cJ (by rw [a0d];omega),?_⟩
  cases f with
  | none =>
   have hn:=cr.none_nil lt
   have hk:ks = []:=by
    unfold aZ at hn
    exact List.map_eq_nil_iff.mp hn
   subst hk
   exact ⟨rfl,q g none cr⟩
  | some m =>
   refine oX (λx=>match x with | .int k=>if aY (iX bk k) m then some (PV.int k) else none | _=>none) (λenv=>∃ t,env = [t,some (.int m),some (o6 bk)]) ⟨_,rfl⟩ ?_ ?_
   ·rintro x env N hx ⟨t,rfl⟩ hN
    obtain ⟨k,hk,rfl⟩:=a0p.mp hx
    walk_at "w"
    refine eZ (KJ (ok k hk).1 (ok k hk).2) ?_
    walk_at "w"
    refine vT ?_
    walk_at "w"
    have hN:=hN [some (.int k),some (.int m),some (o6 bk)] ⟨_,rfl⟩
    dsimp only at hN
    refine a1S (λh=>?_) (λh=>?_)
    ·rw [if_pos h] at hN;exact hN
    ·rw [if_neg (by rw [h];exact a0j)] at hN;exact hN
   ·have e1:(ks.map PV.int).filterMap (λx=>match x with | .int k=>if aY (iX bk k) m then some (PV.int k) else none | _=>none) = (QY bk ks (some m)).map PV.int:=by
     unfold QY
     rw [a3i,<- a4c,List.filterMap_filter]
     rfl
    rw [a3m,e1]
    exact ⟨N4 _,q g (some m) cr⟩
theorem AG {bk:List Sr} {ks:List Int} (ok:∀ k ∈ ks,0 <= k /\ k < (bk.length:Int)) {s:Sr} (h:s ∈ aZ bk ks):s ∈ bk:=by
 obtain ⟨k,hk,rfl⟩:=a0p.mp h
 obtain ⟨h0,h1⟩:=ok k hk
 refine a0x (i:=k.toNat) ?_
 unfold iX
 rw [a0b (by omega)];rfl
abbrev Pr:=Int × Int
def RB (p:Pr):PV:=.tup [.int p.1,.int p.2]
abbrev dS (pp:List Pr):PV:=.lst (pp.map RB)
theorem FS (pp:List Pr):PV.flats (pp.map RB) = true:=PV.flats_of λx h=>by obtain ⟨s,_,rfl⟩:=a0p.mp h;rfl
def MS (kv:List Pr):PV:=.dic (kv.map λp=>.inl p.1) (kv.map λp=>.int p.2)
def zX (kv:List Pr) (m v:Int):List Pr:=if (kv.any λp=>decide (p.1 = m)) = true then kv.map (λp=>if p.1 = m then (p.1,v) else p) else kv ++ [(m,v)]
theorem UO (kv:List Pr) (m:Int):kIn (kv.map λp=>(.inl p.1:cK)) (.inl m) = kv.any λp=>decide (p.1 = m):=by
 unfold kIn
 rw [List.any_map]
 congr 1;funext p
 show decide ((Sum.inl p.1:cK) = .inl m) = _
 by_cases h:p.1 = m
 ·simp [h]
 ·simp [h]
theorem LN (kv:List Pr) (m v:Int):PV.dic (MW (kv.map λp=>.inl p.1) (.inl m)) (IE (kv.map λp=>.inl p.1) (kv.map λp=>PV.int p.2) (.inl m) (.int v)) = MS (zX kv m v):=by
 unfold MW IE MS zX
 rw [UO]
 cases (kv.any λp=>decide (p.1 = m)) with
 | true =>
  rw [if_pos rfl]
  dsimp only
  congr 1
  ·rw [a2i]
   refine a4p λp _=>?_
   show _ = Sum.inl (if p.1 = m then (p.1,v) else p).1
   split <;> rfl
  ·rw [a2i,List.zip_map,a2i]
   have:kv.zip kv = kv.map λp=>(p,p):=by
    induction kv with
    | nil=>rfl
    | cons a l ih=>rw [a2o,ih];rfl
   rw [this,a2i]
   refine a4p λp _=>?_
   show (if (Sum.inl p.1:cK) = .inl m then PV.int v else PV.int p.2) = PV.int (if p.1 = m then (p.1,v) else p).2
   by_cases h:p.1 = m
   ·rw [if_pos h,if_pos (by rw [h])]
   ·rw [if_neg h,if_neg (λz=>h (by injection z))]
 | false =>
  rw [if_neg a0j]
  simp
def iL (kv:List Pr) (m:Int):Option Int:=(kv.find? λp=>decide (p.1 = m)).map (·.2)
theorem KZ (kv:List Pr) (m:Int):FN (kv.map λp=>(.inl p.1:cK)) (kv.map λp=>PV.int p.2) (.inl m) = (iL kv m).map PV.int:=by
 unfold FN iL
 induction kv with
 | nil=>rfl
 | cons p kv ih =>
  rw [a0f,a0f,a2o,a2b,a2b]
  by_cases h:p.1 = m
  ·rw [a2m (show (Sum.inl p.1:cK) = .inl m by rw [h]),a2m h];rfl
  ·rw [a1f (show ¬ (Sum.inl p.1:cK) = .inl m from λz=>h (by injection z)),a1f h];exact ih
structure KvOk (kv:List Pr) (P:Int -> Int -> Prop) (n:Nat):Prop where
 nd:(kv.map (·.1)).Nodup
 at_:∀ p ∈ kv,P p.1 p.2
 len:kv.length <= n
theorem KvOk.nil {P:Int -> Int -> Prop}:KvOk [] P 0:=⟨by simp,λp h=>(by cases h),a0l _⟩
theorem KvOk.put {kv:List Pr} {P:Int -> Int -> Prop} {n:Nat} (h:KvOk kv P n) {m v:Int} (hP:P m v):KvOk (zX kv m v) P (n + 1):=by
 unfold zX
 split
 ·refine ⟨?_,λp hp=>?_,by rw [a0d];have:=h.len;omega⟩
  ·have:(kv.map λp=>if p.1 = m then (p.1,v) else p).map (·.1) = kv.map (·.1):=by
    rw [a2i]
    refine a4p λp _=>?_
    show (if p.1 = m then (p.1,v) else p).1 = p.1
    split <;> rfl
   rw [this];exact h.nd
  ·obtain ⟨q,hq,rfl⟩:=a0p.mp hp
   by_cases e:q.1 = m
   ·rw [if_pos e,e];exact hP
   ·rw [if_neg e];exact h.at_ q hq
 ·rename_i hn
  refine ⟨?_,λp hp=>?_,by rw [a1d,a5a];have:=h.len;omega⟩
  ·rw [a1c,a6m]
   refine ⟨h.nd,by simp,λa ha b hb z=>hn ?_⟩
   obtain ⟨p,hp,rfl⟩:=a0p.mp ha
   simp at hb
   exact a5x.mpr ⟨p,hp,by rw [z,hb];simp⟩
  ·rcases a1g.mp hp with z | z
   ·exact h.at_ p z
   ·simp at z;subst z;exact hP
theorem G1 {kv:List Pr} {m:Int} (h:m ∈ kv.map (·.1)):∃ v,iL kv m = some v /\ (m,v) ∈ kv:=by
 unfold iL
 cases e:kv.find? λp=>decide (p.1 = m) with
 | none =>
  rw [List.find?_eq_none] at e
  obtain ⟨p,hp,rfl⟩:=a0p.mp h
  exact absurd (by simp) (e p hp)
 | some p =>
  have h1:=List.find?_some e
  have h2:=List.mem_of_find?_eq_some e
  rw [a3x] at h1
  exact ⟨p.2,rfl,by rw [<- h1];exact h2⟩
structure PpOk (pp:List Pr) (P:Int -> Int -> Prop) (n:Nat):Prop where
 lt:pp.Pairwise λa b=>a.1 < b.1
 at_:∀ p ∈ pp,P p.1 p.2
 len:pp.length <= n
def oW (kv:List Pr):List Pr:=(nZ (kv.map (·.1))).map λm=>(m,(iL kv m).getD 0)
theorem KvOk.sort {kv:List Pr} {P:Int -> Int -> Prop} {n:Nat} (h:KvOk kv P n):PpOk (oW kv) P n:=by
 have nd:(nZ (kv.map (·.1))).Nodup:=(cT _).nodup_iff.mpr h.nd
 have lt:(nZ (kv.map (·.1))).Pairwise (· < ·):=((mZ _).and nd).imp fun {x y} ⟨h1,h2⟩=>by omega
 refine ⟨?_,λp hp=>?_,?_⟩
 ·unfold oW;rw [a3q];exact lt.imp λh=>h
 ·obtain ⟨m,hm,rfl⟩:=a0p.mp hp
  obtain ⟨v,e,hv⟩:=G1 ((cT _).mem_iff.mp hm)
  rw [e];exact h.at_ (m,v) hv
 ·unfold oW;rw [a0d,(cT _).length_eq,a0d];exact h.len
theorem CI {kv:List Pr} {Q:PV -> Prop} {e1:Option PV} (q:Q (dS (oW kv))) :
  pK (RD.pgName 0) RD.pTrue (RD.pTup (RD.pCons (RD.pVar 0) (RD.pCons (RD.pOp iA (RD.pVar 1) (RD.pVar 0)) RD.pNil))) Q ((nZ (kv.map (·.1))).map PV.int) [] [e1,some (MS kv)]:=by
 refine oX (λx=>match x with | .int m=>some (RB (m,(iL kv m).getD 0)) | _=>none) (λenv=>∃ t,env = [t,some (MS kv)]) ⟨e1,rfl⟩ ?_ ?_
 ·rintro x env N hx ⟨t,rfl⟩ hN
  obtain ⟨m,hm,rfl⟩:=a0p.mp hx
  obtain ⟨v,e,hv⟩:=G1 ((cT _).mem_iff.mp hm)
  have hN:=hN [some (.int m),some (MS kv)] ⟨_,rfl⟩
  dsimp only at hN
  rw [e] at hN
  walk_at "w"
  show iA (MS kv) (.int m) _
  unfold iA MS
  dsimp only
  rw [KZ,e]
  exact hN
 ·rw [a3m]
  have:((nZ (kv.map (·.1))).map PV.int).filterMap (λx=>match x with | .int m=>some (RB (m,(iL kv m).getD 0)) | _=>none) = (oW kv).map RB:=by
   unfold oW
   generalize nZ (kv.map (·.1)) = ms
   rw [a3i,a2i,<- a4c];rfl
  rw [this];exact q
theorem AC {kv:List Pr} {Q:PV -> Prop} (hl:kv.length < 64) (q:Q (.lst ((nZ (kv.map (·.1))).map PV.int))):j4 [MS kv] Q:=by
 unfold j4 MS
 dsimp only
 have:kv.map (λp=>(.inl p.1:cK)) = (kv.map (·.1)).map Sum.inl:=by rw [a2i];rfl
 rw [this,NC]
 exact ⟨by rw [a0d];exact hl,q⟩
structure PcOk (m v:Int):Prop where
 m0:-1000000000000 <= m
 m1:m < 1000000000000
 v0:1 <= v
 v1:v <= 1000000000000
theorem C7 {bk:List Sr} {n:Nat} {R:PV -> Prop} (hb:BkOk bk n) (hl:bk.length <= 100) (q:∀ pp,PpOk pp PcOk 5 -> R (dS pp)):d3 [.st,o6 bk] R:=by
  unfold d3
  walk_at "w"
  refine ⟨⟨by decide,by decide,by decide⟩,?_⟩
  walk_at "w"
  refine ⟨⟨by decide,by decide,by decide⟩,?_⟩
  walk_at "w"
  refine fV (λi env=>∃ (ms:List Int) (t3 t4 t5 t6:Option PV),env = [some .st,some (o6 bk),some (kK ms),t3,t4,t5,t6,none,none,none] /\ ms.length = 4 + 2 * i /\ ∀ m ∈ ms,-1000000000000 <= m /\ m < 1000000000000)
    ⟨[0,1,-(10 ^ (12:Int).toNat),10 ^ (12:Int).toNat - 1],none,none,none,none,rfl,rfl,λm hm=>by
      simp only [a0q,a1y,a3u] at hm
      rcases hm with rfl | rfl | rfl | rfl <;> decide⟩ ?_ ?_
  · rintro i x env N hx ⟨ms,t3,t4,t5,t6,rfl,hml,hms⟩ hN
    rw [a0h,a0u] at hx
    obtain ⟨s,hs,rfl⟩:=hx
    have so:=hb.at_ _ _ hs
    have hi:=(a0k.mp hs).1
    show RD.pgTup 4 _ (.tup [.str s.nm,.int s.b,.int s.e,.int s.w]) _ _
    walk_at "w"
    refine ⟨rfl,?_⟩
    walk_at "w"
    refine ⟨cJ (by simp;omega),?_⟩
    refine hN _ ⟨ms ++ [s.b,s.e - 1],some (.str s.nm),some (.int s.b),some (.int s.e),some (.int s.w),by simp,by simp;omega,λm hm=>?_⟩
    have:=so.lt
    have:=so.b0
    have:=so.e1
    rcases a1g.mp hm with z | z
    · exact hms m z
    · simp at z;omega
  · rintro env ⟨ms,t3,t4,t5,t6,rfl,hml,hms⟩
    rw [a0d] at hml
    walk_at "w"
    refine ⟨by decide,by decide,λr r0 r1=>?_⟩
    walk_at "w"
    refine ⟨by omega,by omega,?_⟩
    refine fV (λi env=>∃ (kv:List Pr) (t8 t9:Option PV),env = [some .st,some (o6 bk),some (kK ms),t3,t4,t5,t6,some (MS kv),t8,t9] /\ KvOk kv PcOk i) ⟨[],none,none,rfl,.nil⟩ ?_ ?_
    · rintro i x env N hx ⟨kv,t8,t9,rfl,hk⟩ hN
      obtain ⟨rfl,hi⟩:=g8 hx
      have hkl:=hk.len
      walk_at "w"
      refine ⟨by rw [a0d];omega,by rw [a0d];omega,λr2 r20 r21=>?_⟩
      rw [a0d] at r21
      refine m5 (P:=λm=>-1000000000000 <= m /\ m < 1000000000000) r20 r21 hms λm hm=>?_
      walk_at "w"
      refine ⟨⟨by decide,by decide,by decide⟩,?_⟩
      walk_at "w"
      refine ⟨by decide,by decide,λr3 r30 r31=>?_⟩
      walk_at "w"
      refine m5 (ns:=[3,10,60,10 ^ (12:Int).toNat]) (P:=λx=>0 < x /\ x <= 1000000000000) r30 r31 (QN (by omega) (by omega) (by omega) (by decide)) λtop htop=>?_
      walk_at "w"
      refine ⟨by omega, by have : (1000000000000 : Int) < 2 ^ 250 := by decide
                           omega,λr4 r40 r41=>?_⟩
      walk_at "w"
      refine ⟨by rw [a0d];omega,?_⟩
      rw [LN]
      exact hN _ ⟨_,_,_,rfl,hk.put ⟨hm.1,hm.2,by omega,by omega⟩⟩
    · rintro env ⟨kv,t8,t9,rfl,hk⟩
      rw [bS] at hk
      have hkl:=hk.len
      walk_at "w"
      refine AC (by omega) ?_
      walk_at "w"
      refine ⟨cJ (by rw [a0d,(cT _).length_eq,a0d];omega),?_⟩
      refine CI ?_
      have so:=hk.sort
      exact q _ ⟨so.lt,so.at_,by have:=so.len;omega⟩
def kG (s:Sr) (pp:List Pr):Int:=((pp.filter λp=>aY s p.1).map (·.2)).sum
def gE (s:Sr) (pp:List Pr):Int:=max 0 (s.w - kG s pp)
def jQ (bk:List Sr) (pp:List Pr):Int:=(bk.map λs=>gE s pp).sum
theorem Q8 {s:Sr} {pp:List Pr}:(pp.map RB).filterMap (λx=>match x with | .tup [.int m,.int v]=>if aY s m then some (PV.int v) else none | _=>none) = ((pp.filter λp=>aY s p.1).map (·.2)).map PV.int:=by
 rw [a3i,a2i,<- a4c,List.filterMap_filter]
 rfl
theorem MI {s:Sr} {pp:List Pr} {R:PV -> Prop} (hl:pp.length <= 1000) (q:R (.int (kG s pp))):eK [wX s,dS pp] R:=by
 unfold eK
 walk_at "w"
 refine ⟨cJ (by rw [a0d];omega),?_⟩
 refine oX (λx=>match x with | .tup [.int m,.int v]=>if aY s m then some (PV.int v) else none | _=>none) (λenv=>∃ t1 t2,env = [t1,t2,some (wX s)]) ⟨_,_,rfl⟩ ?_ ?_
 ·rintro x env N hx ⟨t1,t2,rfl⟩ hN
  obtain ⟨⟨m,v⟩,hp,rfl⟩:=a0p.mp hx
  have hN:=hN [some (.int m),some (.int v),some (wX s)] ⟨_,_,rfl⟩
  unfold RB at hN
  dsimp only at hN
  show RD.pgTup 2 _ (.tup [.int m,.int v]) _ _
  walk_at "w"
  refine ⟨rfl,?_⟩
  walk_at "w"
  refine vT ?_
  walk_at "w"
  refine a1S (λh=>?_) (λh=>?_)
  ·rw [if_pos h] at hN;exact hN
  ·rw [if_neg (by rw [h];exact a0j)] at hN;exact hN
 ·rw [a3m,Q8]
  exact E8 q
theorem MG {s:Sr} {pp:List Pr} {R:PV -> Prop} (hl:pp.length <= 1000) (q:R (.int (gE s pp))):eJ [wX s,dS pp] R:=by
 unfold eJ
 have e:cS (wX s) (.int 3) = λQ=>cS (wX s) (.int 3) Q:=rfl
 walk_at "w"
 refine kD (xs:=[.str s.nm,.int s.b,.int s.e,.int s.w]) IK ?_
 walk_at "w"
 refine MI hl ?_
 exact q
theorem IR {bk:List Sr} {pp:List Pr} {R:PV -> Prop} (hb:bk.length <= 1000) (hl:pp.length <= 1000) (q:R (.int (jQ bk pp))):dJ [o6 bk,dS pp] R:=by
 unfold dJ
 walk_at "w"
 refine ⟨cJ (by rw [a0d];omega),?_⟩
 refine k8 (λi acc env=>acc = ((bk.take i).map λs=>gE s pp).map PV.int /\ ∃ t,env = [t,some (dS pp)]) ⟨rfl,_,rfl⟩ ?_ ?_
 ·rintro i x acc env N hx ⟨rfl,t,rfl⟩ hN
  rw [a0h,a0u] at hx
  obtain ⟨s,hs,rfl⟩:=hx
  walk_at "w"
  refine MG hl ?_
  refine hN _ _ ⟨?_,_,rfl⟩
  rw [a1o,hs];simp
 ·rintro acc env ⟨rfl,t,rfl⟩
  rw [a0d,a1z]
  exact E8 q
theorem Crowd.le_of {ss:List Sr} {G:Nat} {f:Option Int} (h:Crowd ss G f) {b:Nat} (hb:∀ m,b6 ss m <= b):G <= b:=by
 cases f with
 | none=>rw [h.non rfl];omega
 | some m=>rw [<- (h.fst m rfl).1];exact hb m
theorem NF {ms:List Int} {P:Int -> Prop} [DecidablePred P]:(∀ x ∈ ms,¬ P x) \/ ∃ x ∈ ms,P x /\ ∀ y ∈ ms,P y -> y <= x:=by
 induction ms with
 | nil=>exact .inl λx hx=>(by cases hx)
 | cons a ms ih =>
  by_cases ha:P a
  ·rcases ih with h | ⟨x,hx,px,top⟩
   ·refine .inr ⟨a,a0n,ha,λy hy py=>?_⟩
    rcases a0q.mp hy with z | z
    ·omega
    ·exact absurd py (h y z)
   ·by_cases hax:a <= x
    ·refine .inr ⟨x,a0i _ hx,px,λy hy py=>?_⟩
     rcases a0q.mp hy with z | z
     ·omega
     ·exact top y z py
    ·refine .inr ⟨a,a0n,ha,λy hy py=>?_⟩
     rcases a0q.mp hy with z | z
     ·omega
     ·have:=top y z py;omega
  ·rcases ih with h | ⟨x,hx,px,top⟩
   ·refine .inl λy hy=>?_
    rcases a0q.mp hy with z | z
    ·rw [z];exact ha
    ·exact h y z
   ·refine .inr ⟨x,a0i _ hx,px,λy hy py=>?_⟩
    rcases a0q.mp hy with z | z
    ·rw [z] at py;exact absurd py ha
    ·exact top y z py
theorem tI (ss:List Sr):∀ pp:List Pr,(ss.map λs=>kG s pp).sum = (pp.map λp=>p.2 * (b6 ss p.1:Int)).sum
 | []=>by
  have:∀ s,kG s [] = 0:=λs=>rfl
  simp only [this,a5i,List.sum_nil]
  induction ss with
  | nil=>rfl
  | cons a l ih=>rw [a0f,a0o,ih];rfl
 | p :: pp=>by
  have ih:=tI ss pp
  rw [a0f,a0o,<- ih]
  clear ih
  induction ss with
  | nil=>simp [b6]
  | cons s ss ih =>
   rw [a0f,a0o,a0f,a0o,ih]
   unfold b6 kG
   rw [List.countP_cons,a2k]
   by_cases h:aY s p.1 = true
   ·rw [if_pos h,if_pos h,a0f,a0o]
    rw [show ((List.countP (λs=>aY s p.1) ss + 1:Nat):Int) = (List.countP (λs=>aY s p.1) ss:Int) + 1 by omega,Int.mul_add]
    omega
   ·rw [if_neg h,if_neg h,Nat.add_zero]
    omega
theorem LT (s:Sr) (pp:List Pr):0 <= gE s pp:=by unfold gE;omega
theorem nR {bk:List Sr} {pp:List Pr}:∀ (n:Nat) (ks:List Int),SmOk ks n -> n <= bk.length -> ((aZ bk ks).map λs=>gE s pp).sum <= ((bk.take n).map λs=>gE s pp).sum
 | 0,ks,h,_=>by
  have:ks = []:=a3d.mp (by have:=h.len;omega)
  subst this;simp [aZ]
 | n + 1,ks,h,hn=>by
  have es:bk[n]? = some (iX bk n):=by unfold iX;rw [a1j,a0b (by omega)];rfl
  rw [a1o,es,a1c,List.sum_append]
  rcases List.eq_nil_or_concat ks with z | ⟨l,k,z⟩
  ·subst z
   have:=nR (bk:=bk) (pp:=pp) n [] ⟨.nil,by simp⟩ (by omega)
   have:=LT (iX bk n) pp
   simp [aZ] at *
   omega
  ·rw [List.concat_eq_append] at z
   subst z
   have hp:=a5e.mp h.lt
   have hk:=h.at_ k (by simp)
   have lt:∀ j ∈ l,j < k:=λj hj=>hp.2.2 j hj k (by simp)
   by_cases e:k = n
   ·subst e
    have:=nR (bk:=bk) (pp:=pp) n l ⟨hp.1,λj hj=>⟨(h.at_ j (by simp [hj])).1,lt j hj⟩⟩ (by omega)
    simp [aZ] at *
    omega
   ·have:=nR (bk:=bk) (pp:=pp) n (l ++ [k]) ⟨h.lt,λj hj=>⟨(h.at_ j hj).1,by
     rcases a1g.mp hj with z | z
     ·have:=lt j z;omega
     ·simp at z;omega⟩⟩ (by omega)
    have:=LT (iX bk n) pp
    simp [aZ] at *
    omega
theorem a42 (ss:List Sr) (pp:List Pr):lP ss <= (ss.map λs=>kG s pp).sum + (ss.map λs=>gE s pp).sum:=by
 unfold lP
 induction ss with
 | nil=>simp
 | cons s ss ih =>
  rw [a0f,a0o,a0f,a0o,a0f,a0o]
  have:s.w <= kG s pp + gE s pp:=by unfold gE;omega
  omega
def dF (bk:List Sr) (b:Int) (pp:List Pr):Int:=(pp.map (·.2)).sum * b + jQ bk pp
theorem GM {bk:List Sr} {b:Int} {pp:List Pr} {ks:List Int} (hk:SmOk ks bk.length) (h:∀ m,(b6 (aZ bk ks) m:Int) <= b) (hp:∀ p ∈ pp,0 <= p.2):lP (aZ bk ks) <= dF bk b pp:=by
 have h1:=a42 (aZ bk ks) pp
 rw [tI] at h1
 have h2:=nR (bk:=bk) (pp:=pp) bk.length ks hk (a0l _)
 rw [a1z] at h2
 have h3:(pp.map λp=>p.2 * (b6 (aZ bk ks) p.1:Int)).sum <= (pp.map (·.2)).sum * b:=by
  clear h1 h2
  induction pp with
  | nil=>simp
  | cons p pp ih =>
   rw [a0f,a0o,a0f,a0o,Int.add_mul]
   have a1:=ih λq hq=>hp q (a0i _ hq)
   have a2:=Int.mul_le_mul_of_nonneg_left (h p.1) (hp p a0n)
   omega
 unfold dF jQ
 omega
theorem F9 {pp:List Pr} {R:PV -> Prop} (hl:pp.length <= 1000) (q:R (.int (pp.map (·.2)).sum)):cQ [dS pp] R:=by
 unfold cQ
 walk_at "w"
 refine ⟨cJ (by rw [a0d];omega),?_⟩
 refine k8 (λi acc env=>acc = ((pp.take i).map (·.2)).map PV.int /\ ∃ t1 t2,env = [t1,t2]) ⟨rfl,_,_,rfl⟩ ?_ ?_
 ·rintro i x acc env N hx ⟨rfl,t1,t2,rfl⟩ hN
  rw [a0h,a0u] at hx
  obtain ⟨⟨m,v⟩,hp,rfl⟩:=hx
  show RD.pgTup 2 _ (.tup [.int m,.int v]) _ _
  walk_at "w"
  refine ⟨rfl,?_⟩
  walk_at "w"
  refine hN _ _ ⟨?_,_,_,rfl⟩
  rw [a1o,hp];simp
 ·rintro acc env ⟨rfl,t1,t2,rfl⟩
  rw [a0d,a1z]
  walk_at "w"
  exact E8 q
theorem tP {bk:List Sr} {b:Int} {pp:List Pr} {R:PV -> Prop} (hb:bk.length <= 1000) (hl:pp.length <= 1000) (hp:∀ p ∈ pp,0 <= p.2) (b0:0 <= b) (b1:b <= 1000) (q:R (.int (dF bk b pp))):cX [o6 bk,.int b,dS pp] R:=by
 unfold cX
 walk_at "w"
 refine F9 hl ?_
 walk_at "w"
 refine ⟨.inr ⟨by omega,by omega⟩,?_⟩
 walk_at "w"
 refine IR hb hl ?_
 exact q
structure Rd where
 u:Nat
 v:Nat
 g:Int
 k:Option Int
 deriving DecidableEq
abbrev Gs:=List (Option Int)
abbrev Ls:=List (Option Rd)
def gt {α:Type} (l:List (Option α)) (v:Nat):Option α:=l.getD v none
theorem zT {α:Type} {l:List (Option α)} {v w:Nat} {x:Option α} (hv:v < l.length):gt (l.set v x) w = if w = v then x else gt l w:=by
 unfold gt
 rw [a0g,a0g,a2w]
 by_cases h:w = v
 ·subst h;simp [hv]
 ·have h':¬ v = w:=λz=>h z.symm
  simp [h,h']
def y8 (φ:Nat -> Int) (rs:List Rd):Prop:=∀ r ∈ rs,φ r.u + r.g <= φ r.v
inductive Ch (ls:Ls) (st:Nat):Nat -> Nat -> Prop where
 | base:Ch ls st 0 st
 | step {k v:Nat} {r:Rd}:gt ls v = some r -> Ch ls st k r.u -> Ch ls st (k + 1) v
def IV (gs:Gs):Nat:=gs.countP Option.isSome
structure GI (φ:Nat -> Int) (rs:List Rd) (n st:Nat) (Gm:Int) (gs:Gs) (ls:Ls):Prop where
 lg:gs.length = n
 ll:ls.length = n
 st0:gt gs st = some 0
 stl:gt ls st = none
 ub:∀ v b,gt gs v = some b -> b <= φ v - φ st
 lb:∀ v b,gt gs v = some b -> -((IV gs:Int) * Gm) <= b
 las:∀ v r,gt ls v = some r -> r ∈ rs /\ r.v = v /\ ∃ a b,gt gs r.u = some a /\ gt gs v = some b /\ b <= a + r.g
 has:∀ v b,gt gs v = some b -> v = st \/ ∃ r,gt ls v = some r
 ch:∀ v b,gt gs v = some b -> ∃ k,Ch ls st k v
section
variable {φ:Nat -> Int} {rs:List Rd} {n st:Nat} {Gm:Int} {gs:Gs} {ls:Ls}
structure Bet (gs:Gs) (r:Rd) (a:Int):Prop where
 fr:gt gs r.u = some a
 up:∀ b,gt gs r.v = some b -> b < a + r.g
theorem a23 (h:GI φ rs n st Gm gs ls) (hF:y8 φ rs) {v:Nat} {x:Option Rd} (hv:v < n) (hvs:v ≠ st):∀ (k u:Nat) (a:Int),Ch ls st k u -> gt gs u = some a -> Ch (ls.set v x) st k u \/ ∃ b,gt gs v = some b /\ a <= b + φ u - φ v:=by
 intro k
 induction k with
 | zero =>
  intro u a hc ha
  cases hc
  exact .inl .base
 | succ k ih =>
  intro u a hc ha
  cases hc with
  | step e c =>
   rename_i r
   by_cases huv:u = v
   ·subst huv
    exact .inr ⟨a,ha,by omega⟩
   ·obtain ⟨hr,hrv,a',b',e1,e2,e3⟩:=h.las u r e
    rw [ha] at e2
    cases e2
    rcases ih r.u a' c e1 with z | ⟨b,z1,z2⟩
    ·refine .inl (.step (r:=r) ?_ z)
     rw [zT (by rw [h.ll];exact hv),if_neg huv];exact e
    ·have:=hF r hr
     rw [hrv] at this
     exact .inr ⟨b,z1,by omega⟩
theorem GI.step (h:GI φ rs n st Gm gs ls) (hF:y8 φ rs) (hG:∀ r ∈ rs,-Gm <= r.g) (G0:0 <= Gm) {r:Rd} {a:Int} (hr:r ∈ rs) (hb:Bet gs r a) (hu:r.u < n) (hv:r.v < n):GI φ rs n st Gm (gs.set r.v (some (a + r.g))) (ls.set r.v (some r)):=by
 have fr:=hF r hr
 have ua:=h.ub r.u a hb.fr
 have hvs:r.v ≠ st:=λz=>by
  have:=hb.up 0 (by rw [z];exact h.st0)
  rw [z] at fr
  omega
 have huv:r.u ≠ r.v:=λz=>by
  have:=hb.up a (by rw [<- z];exact hb.fr)
  rw [z] at fr
  omega
 have gg:∀ w,gt (gs.set r.v (some (a + r.g))) w = if w = r.v then some (a + r.g) else gt gs w:=λw=>zT (by rw [h.lg];exact hv)
 have gl:∀ w,gt (ls.set r.v (some r)) w = if w = r.v then some r else gt ls w:=λw=>zT (by rw [h.ll];exact hv)
 have hc1:IV gs <= IV (gs.set r.v (some (a + r.g))) /\ (gt gs r.v = none -> IV (gs.set r.v (some (a + r.g))) = IV gs + 1):=by
  unfold IV
  rw [List.countP_set (by rw [h.lg];exact hv)]
  have e:gt gs r.v = gs[r.v]'(by rw [h.lg];exact hv):=by
   unfold gt
   rw [a0g,a0b (by rw [h.lg];exact hv)];rfl
  have pos:(gs[r.v]'(by rw [h.lg];exact hv)).isSome = true -> 0 < gs.countP Option.isSome:=λz=>List.countP_pos_iff.mpr ⟨_,a1x _,z⟩
  constructor
  ·split
   ·rename_i z
    have:=pos z
    simp;omega
   ·simp
  ·intro z
   rw [e] at z
   rw [z];simp
 have mul1:-((IV (gs.set r.v (some (a + r.g))):Int) * Gm) <= -((IV gs:Int) * Gm):=by
  have:(IV gs:Int) * Gm <= (IV (gs.set r.v (some (a + r.g))):Int) * Gm:=Int.mul_le_mul_of_nonneg_right (by exact_mod_cast hc1.1) G0
  omega
 have chu:∃ k,Ch (ls.set r.v (some r)) st k r.u:=by
  obtain ⟨k,hk⟩:=h.ch r.u a hb.fr
  rcases a23 h hF (x:=some r) hv hvs k r.u a hk hb.fr with z | ⟨b,z1,z2⟩
  ·exact ⟨k,z⟩
  ·have:=hb.up b z1
   omega
 have chv:∃ k,Ch (ls.set r.v (some r)) st k r.v:=by
  obtain ⟨k,hk⟩:=chu
  exact ⟨k + 1,.step (by rw [gl,if_pos rfl]) hk⟩
 have chall:∀ k w,Ch ls st k w -> ∃ k',Ch (ls.set r.v (some r)) st k' w:=by
  intro k
  induction k with
  | zero=>intro w hw;cases hw;exact ⟨0,.base⟩
  | succ k ih =>
   intro w hw
   cases hw with
   | step e c =>
    by_cases z:w = r.v
    ·rw [z];exact chv
    ·obtain ⟨k',hk'⟩:=ih _ c
     exact ⟨k' + 1,.step (by rw [gl,if_neg z];exact e) hk'⟩
 refine ⟨by simp [h.lg],by simp [h.ll],by rw [gg,if_neg (a2d hvs)];exact h.st0,by rw [gl,if_neg (a2d hvs)];exact h.stl,λw b hw=>?_,λw b hw=>?_,λw r' hw=>?_,λw b hw=>?_,λw b hw=>?_⟩
 ·rw [gg] at hw
  split at hw
  ·rename_i z;cases hw;rw [z];omega
  ·exact h.ub w b hw
 ·rw [gg] at hw
  split at hw
  ·cases hw
   cases hgv:gt gs r.v with
   | some b' =>
    have:=h.lb r.v b' hgv
    have:=hb.up b' hgv
    omega
   | none =>
    rw [hc1.2 hgv]
    have:=h.lb r.u a hb.fr
    have:=hG r hr
    have e:((IV gs + 1:Nat):Int) * Gm = (IV gs:Int) * Gm + Gm:=by rw [Int.natCast_add,Int.add_mul];simp
    rw [e];omega
  ·have:=h.lb w b hw;omega
 ·rw [gl] at hw
  split at hw
  ·rename_i z
   cases hw
   exact ⟨hr,z.symm,a,a + r.g,by rw [gg,if_neg huv];exact hb.fr,by rw [gg,if_pos z],a3l _⟩
  ·rename_i z
   obtain ⟨h1,h2,a',b',e1,e2,e3⟩:=h.las w r' hw
   by_cases zu:r'.u = r.v
   ·have:=hb.up a' (by rw [<- zu];exact e1)
    exact ⟨h1,h2,a + r.g,b',by rw [gg,if_pos zu],by rw [gg,if_neg z];exact e2,by omega⟩
   ·exact ⟨h1,h2,a',b',by rw [gg,if_neg zu];exact e1,by rw [gg,if_neg z];exact e2,e3⟩
 ·by_cases z:w = r.v
  ·exact .inr ⟨r,by rw [gl,if_pos z]⟩
  ·rw [gg,if_neg z] at hw
   rcases h.has w b hw with y | ⟨r',y⟩
   ·exact .inl y
   ·exact .inr ⟨r',by rw [gl,if_neg z];exact y⟩
 ·by_cases z:w = r.v
  ·rw [z];exact chv
  ·rw [gg,if_neg z] at hw
   obtain ⟨k,hk⟩:=h.ch w b hw
   exact chall k w hk
def a3W (φ:Nat -> Int) (st:Nat) (C:Nat) (gs:Gs) (v:Nat):Nat:=match gt gs v with
 | none=>C
 | some b=>(φ v - φ st - b).toNat
def oY (φ:Nat -> Int) (st C n:Nat) (gs:Gs):Nat:=((List.range n).map (a3W φ st C gs)).sum
theorem SG {α:Type} {f f':α -> Nat}:∀ {l:List α},(∀ a ∈ l,f' a <= f a) -> (∃ a ∈ l,f' a < f a) -> (l.map f').sum < (l.map f).sum
 | [],_,h=>by obtain ⟨a,ha,_⟩:=h;cases ha
 | x :: l,h1,h2=>by
  rw [a0f,a0o,a0f,a0o]
  have le:(l.map f').sum <= (l.map f).sum:=by
   clear h2
   induction l with
   | nil=>simp
   | cons y l ih =>
    rw [a0f,a0o,a0f,a0o]
    have:=h1 y (by simp)
    have:=ih λa ha=>h1 a (by
     rcases a0q.mp ha with z | z
     ·simp [z]
     ·simp [z])
    omega
  have hx:=h1 x a0n
  obtain ⟨a,ha,hlt⟩:=h2
  rcases a0q.mp ha with z | z
  ·subst z;omega
  ·have:=SG (l:=l) (λb hb=>h1 b (a0i _ hb)) ⟨a,z,hlt⟩
   omega
theorem UV (h:GI φ rs n st Gm gs ls) (hF:y8 φ rs) (hG:∀ r ∈ rs,-Gm <= r.g) (G0:0 <= Gm) {C:Nat} (hC:∀ v,v < n -> φ v - φ st + n * Gm < C) {r:Rd} {a:Int} (hr:r ∈ rs) (hb:Bet gs r a) (hu:r.u < n) (hv:r.v < n) :
  oY φ st C n (gs.set r.v (some (a + r.g))) < oY φ st C n gs:=by
 have h':=h.step hF hG G0 hr hb hu hv
 have gg:∀ w,gt (gs.set r.v (some (a + r.g))) w = if w = r.v then some (a + r.g) else gt gs w:=λw=>zT (by rw [h.lg];exact hv)
 have hcn:(IV (gs.set r.v (some (a + r.g))):Int) * Gm <= n * Gm:=by
  refine Int.mul_le_mul_of_nonneg_right ?_ G0
  have:IV (gs.set r.v (some (a + r.g))) <= (gs.set r.v (some (a + r.g))).length:=List.countP_le_length
  rw [List.length_set,h.lg] at this
  exact_mod_cast this
 have ub:=h'.ub r.v (a + r.g) (by rw [gg,if_pos rfl])
 have lb:=h'.lb r.v (a + r.g) (by rw [gg,if_pos rfl])
 have hlt:a3W φ st C (gs.set r.v (some (a + r.g))) r.v < a3W φ st C gs r.v:=by
  unfold a3W
  rw [gg,if_pos rfl]
  dsimp only
  cases hgv:gt gs r.v with
  | none =>
   dsimp only
   have:=hC r.v hv
   omega
  | some b =>
   dsimp only
   have:=hb.up b hgv
   omega
 refine SG (λw _=>?_) ⟨r.v,a1l.mpr hv,hlt⟩
 by_cases z:w = r.v
 ·rw [z];exact a2t hlt
 ·unfold a3W
  rw [gg,if_neg z]
  exact a0l _
def X0 (gs:Gs) (rs:List Rd):Prop:=∀ r ∈ rs,∀ a,gt gs r.u = some a -> ∃ b,gt gs r.v = some b /\ a + r.g <= b
theorem TU (hn:gt ls st = none):∀ {k k' v:Nat},Ch ls st k v -> Ch ls st k' v -> k = k':=by
 intro k
 induction k with
 | zero =>
  intro k' v h h'
  cases h
  cases h' with
  | base=>rfl
  | step e _=>rw [hn] at e;cases e
 | succ k ih =>
  intro k' v h h'
  cases h with
  | step e c =>
   cases h' with
   | base=>rw [hn] at e;cases e
   | step e' c'=>rw [e] at e';cases e';rw [ih c c']
inductive Way (ls:Ls) (st:Nat):Nat -> List Rd -> Prop where
 | base:Way ls st st []
 | step {v:Nat} {r:Rd} {p:List Rd}:gt ls v = some r -> Way ls st r.u p -> Way ls st v (r :: p)
theorem a1R:∀ {k v:Nat},Ch ls st k v -> ∃ p,Way ls st v p /\ p.length = k:=by
 intro k
 induction k with
 | zero=>intro v h;cases h;exact ⟨[],.base,rfl⟩
 | succ k ih =>
  intro v h
  cases h with
  | step e c =>
   obtain ⟨p,hp,hl⟩:=ih c
   exact ⟨_ :: p,.step e hp,by simp [hl]⟩
theorem Way.ch {v:Nat} {p:List Rd} (h:Way ls st v p):Ch ls st p.length v:=by
 induction h with
 | base=>exact .base
 | step e _ ih=>exact .step e ih
end
def IG (r:Rd):PV:=.tup [.int (r.u:Nat),.int (r.v:Nat),.int r.g,kM r.k]
def T3:Option Rd -> PV
 | none=>.non
 | some r=>IG r
abbrev Z5 (gs:Gs):PV:=.lst (gs.map kM)
abbrev UY (ls:Ls):PV:=.lst (ls.map T3)
abbrev OB (rs:List Rd):PV:=.lst (rs.map IG)
theorem N1 (o:Option Int):(kM o).flat = true:=by cases o <;> rfl
theorem FR (r:Rd):(IG r).flat = true:=by
 unfold IG
 rw [PV.flat,PV.flats,PV.flats,PV.flats,PV.flats,PV.flats,N1];rfl
theorem UK (x:Int) (r:Rd):(PV.tup [.int x,IG r]).flat = true:=by
 rw [PV.flat,PV.flats,PV.flats,PV.flats,FR];rfl
theorem X6 {gs:Gs} {v:Nat} (h:v < gs.length):lD (gs.map kM) (v:Int) = some (kM (gt gs v)):=by
 refine dO (by omega) ?_
 rw [a1j,a0h,a0b h]
 unfold gt
 rw [a0g,a0b h];rfl
theorem XA {ls:Ls} {v:Nat} (h:v < ls.length):lD (ls.map T3) (v:Int) = some (T3 (gt ls v)):=by
 refine dO (by omega) ?_
 rw [a1j,a0h,a0b h]
 unfold gt
 rw [a0g,a0b h];rfl
theorem F6:∀ rs:List Rd,∃ Gm:Int,0 <= Gm /\ ∀ r ∈ rs,-Gm <= r.g
 | []=>⟨0,a3l _,λr h=>by cases h⟩
 | r :: rs=>by
  obtain ⟨G,h0,h⟩:=F6 rs
  refine ⟨max G (-r.g),by omega,λq hq=>?_⟩
  rcases a0q.mp hq with z | z
  ·subst z;omega
  ·have:=h q z;omega
theorem F5 (f:Nat -> Int):∀ n:Nat,∃ C:Nat,∀ v,v < n -> f v < C
 | 0=>⟨0,λv h=>by omega⟩
 | n + 1=>by
  obtain ⟨C,h⟩:=F5 f n
  refine ⟨max C ((f n).toNat + 1),λv hv=>?_⟩
  by_cases e:v = n
  ·subst e;omega
  ·have:=h v (by omega);omega
theorem DM {n v:Nat} (h:v < n):yR n (v:Int) = some v:=by
 unfold yR
 rw [if_pos (by omega),if_pos (by omega),a1j]
theorem a3J (n:Nat):(List.replicate (n:Int).toNat [PV.non]).flatten = (List.replicate n (none:Option Int)).map kM:=by
 rw [a1j,a6g];simp [kM]
theorem a3L (n:Nat):(List.replicate (n:Int).toNat [PV.non]).flatten = (List.replicate n (none:Option Rd)).map T3:=by
 rw [a1j,a6g];simp [T3]
theorem J6 {α:Type} {n v:Nat}:gt (List.replicate n (none:Option α)) v = none:=by
 unfold gt
 rw [a0g,a2q]
 split <;> rfl
theorem map_set {α:Type} (f:α -> PV) (l:List α) (i:Nat) (x:α):(l.map f).set i (f x) = (l.set i x).map f:=by rw [List.map_set]
theorem Q1 {φ:Nat -> Int} {rs:List Rd} {n st:Nat} {Gm:Int} (hst:st < n) (G0:0 <= Gm):GI φ rs n st Gm ((List.replicate n none).set st (some 0)) (List.replicate n none):=by
 have gg:∀ w,gt ((List.replicate n (none:Option Int)).set st (some 0)) w = if w = st then some 0 else none:=λw=>by rw [zT (by simpa using hst),J6]
 have one:∀ v b,gt ((List.replicate n (none:Option Int)).set st (some 0)) v = some b -> v = st /\ b = 0:=λv b h=>by
  rw [gg] at h
  split at h
  ·rename_i z;cases h;exact ⟨z,rfl⟩
  ·cases h
 refine ⟨by simp,by simp,by rw [gg,if_pos rfl],J6,λv b h=>?_,λv b h=>?_,λv r h=>?_,λv b h=>.inl (one v b h).1,λv b h=>?_⟩
 ·obtain ⟨rfl,rfl⟩:=one v b h;omega
 ·obtain ⟨rfl,rfl⟩:=one v b h
  have:0 <= (IV ((List.replicate n (none:Option Int)).set v (some 0)):Int) * Gm:=Int.mul_nonneg (by omega) G0
  omega
 ·rw [J6] at h;cases h
 ·obtain ⟨rfl,rfl⟩:=one v b h;exact ⟨0,.base⟩
theorem vS {rs:List Rd} {n st:Nat} {φ:Nat -> Int} {R:PV -> Prop} (hF:y8 φ rs) (hrs:∀ r ∈ rs,r.u < n /\ r.v < n) (hst:st < n) (hn:n <= 100)
  (q:∀ gs ls Gm,GI φ rs n st Gm gs ls -> X0 gs rs -> R (.tup [Z5 gs,UY ls])):b5 [OB rs,.int n,.int st] R:=by
 obtain ⟨Gm,G0,hG⟩:=F6 rs
 obtain ⟨C,hC⟩:=F5 (λv=>φ v - φ st + n * Gm) n
 unfold b5
 have h1000:n <= sizeLine:=cJ (by omega)
 walk_at "w"
 refine ⟨by omega,by omega,by simpa using h1000,?_⟩
 rw [a3J]
 walk_at "w"
 refine ⟨by omega,by omega,by simpa using h1000,?_⟩
 rw [a3L]
 walk_at "w"
 rw [show yR ((List.replicate n (none:Option Int)).map kM).length (st:Int) = some st from DM (by simpa using hst)]
 walk_at "w"
 rw [show ((List.replicate n (none:Option Int)).map kM).set st (PV.int 0) = ((List.replicate n (none:Option Int)).set st (some 0)).map kM from map_set kM _ st (some 0)]
 refine ⟨λm env=>∃ (gs:Gs) (ls:Ls) (bet:Bool) (t6 t7 t8 t9 t10:Option PV),env = [some (OB rs),some (.int n),some (.int st),some (Z5 gs),some (UY ls),some (.bl bet),t6,t7,t8,t9,t10] /\ GI φ rs n st Gm gs ls /\ (bet = true -> m = oY φ st C n gs + 1) /\ (bet = false -> m = 0 /\ X0 gs rs),⟨_,_,_,true,none,none,none,none,none,rfl,Q1 hst G0,λ_=>rfl,λz=>by cases z⟩,?_⟩
 rintro m env ⟨gs,ls,bet,t6,t7,t8,t9,t10,rfl,hI,hbt,hbf⟩
 walk_at "w"
 cases bet with
 | false =>
  walk_at "w"
  exact q gs ls Gm hI (hbf rfl).2
 | true =>
  have hm:=hbt rfl
  refine ⟨λenv'=>∃ (gs':Gs) (ls':Ls) (bet:Bool) (t6 t7 t8 t9 t10:Option PV),env' = [some (OB rs),some (.int n),some (.int st),some (Z5 gs'),some (UY ls'),some (.bl bet),t6,t7,t8,t9,t10] /\ GI φ rs n st Gm gs' ls' /\ (bet = true -> oY φ st C n gs' < oY φ st C n gs) /\ (bet = false -> X0 gs' rs),?_,?_⟩
  ·rintro env' ⟨gs',ls',bet',s6,s7,s8,s9,s10,rfl,hI',h1,h2⟩
   cases bet' with
   | true=>exact ⟨oY φ st C n gs' + 1,by have:=h1 rfl;omega,gs',ls',true,_,_,_,_,_,rfl,hI',λ_=>rfl,λz=>by cases z⟩
   | false=>exact ⟨0,by omega,gs',ls',false,_,_,_,_,_,rfl,hI',(λz=>by cases z),λ_=>⟨rfl,h2 rfl⟩⟩
  walk_at "w"
  refine fV (λi env=>∃ (gs':Gs) (ls':Ls) (bet:Bool) (t6 t7 t8 t9 t10:Option PV),env = [some (OB rs),some (.int n),some (.int st),some (Z5 gs'),some (UY ls'),some (.bl bet),t6,t7,t8,t9,t10] /\ GI φ rs n st Gm gs' ls' /\ (bet = true -> oY φ st C n gs' < oY φ st C n gs) /\ (bet = false -> gs' = gs /\ X0 gs' (rs.take i))) ⟨gs,ls,false,_,_,_,_,_,rfl,hI,(λz=>by cases z),λ_=>⟨rfl,λr hr=>by simp at hr⟩⟩ ?_ ?_
  ·rintro i x env N hx ⟨gs',ls',bet,s6,s7,s8,s9,s10,rfl,hI',h1,h2⟩ hN
   rw [a0h,a0u] at hx
   obtain ⟨r,hr,rfl⟩:=hx
   have hrm:=a0x hr
   obtain ⟨hu,hv⟩:=hrs r hrm
   have au:=X6 (gs:=gs') (v:=r.u) (by rw [hI'.lg];exact hu)
   have av:=X6 (gs:=gs') (v:=r.v) (by rw [hI'.lg];exact hv)
   have later:∀ bb:Option Int,gt gs' r.v = bb -> ∀ t6' t7' t8' t9' t10':Option PV,(∀ a,gt gs' r.u = some a -> ∃ b,bb = some b /\ a + r.g <= b) -> N [some (OB rs),some (.int n),some (.int st),some (Z5 gs'),some (UY ls'),some (.bl bet),t6',t7',t8',t9',t10']:=by
    intro bb hbb t6' t7' t8' t9' t10' hh
    refine hN _ ⟨gs',ls',bet,_,_,_,_,_,rfl,hI',h1,λz=>⟨(h2 z).1,λr' hr' a ha=>?_⟩⟩
    rw [a1o,hr] at hr'
    rcases a1g.mp hr' with y | y
    ·exact (h2 z).2 r' y a ha
    ·simp at y
     subst y
     rw [hbb];exact hh a ha
   show RD.pgName 6 (.tup [.int (r.u:Nat),.int (r.v:Nat),.int r.g,kM r.k]) _ _
   walk_at "w"
   refine ⟨rfl,?_⟩
   walk_at "w"
   refine eZ au ?_
   cases hgu:gt gs' r.u with
   | none =>
    walk_at "w"
    exact later _ rfl _ _ _ _ _ λa ha=>by rw [hgu] at ha;cases ha
   | some a =>
    walk_at "w"
    refine eZ av ?_
    have better:Bet gs' r a -> RD.pSeq (RD.pPut2 3 4 (RD.pFlat (RD.pTup (RD.pCons (RD.pOp RD.pAddI (RD.pOp cS (RD.pVar 3) (RD.pVar 7)) (RD.pVar 9)) (RD.pCons (RD.pVar 6) RD.pNil)))) (RD.pVar 8) (RD.pVar 8)) (RD.pSeq (RD.pSet 5 (RD.pC (.bl true))) RD.pNext) { nx:=N,rt:=R } [some (OB rs),some (.int n),some (.int st),some (Z5 gs'),some (UY ls'),some (.bl bet),some (IG r),some (.int (r.u:Nat)),some (.int (r.v:Nat)),some (.int r.g),some (kM r.k)]:=by
     intro hb
     walk_at "w"
     refine eZ au ?_
     rw [hgu]
     walk_at "w"
     refine ⟨UK _ r,?_⟩
     walk_at "w"
     rw [show yR (gs'.map kM).length (r.v:Int) = some r.v from DM (by rw [a0d,hI'.lg];exact hv)]
     walk_at "w"
     rw [show yR (ls'.map T3).length (r.v:Int) = some r.v from DM (by rw [a0d,hI'.ll];exact hv)]
     walk_at "w"
     rw [show (gs'.map kM).set r.v (PV.int (a + r.g)) = (gs'.set r.v (some (a + r.g))).map kM from map_set kM _ r.v (some (a + r.g))]
     rw [show (ls'.map T3).set r.v (IG r) = (ls'.set r.v (some r)).map T3 from map_set T3 _ r.v (some r)]
     refine hN _ ⟨gs'.set r.v (some (a + r.g)),ls'.set r.v (some r),true,_,_,_,_,_,rfl,hI'.step hF hG G0 hrm hb hu hv,λ_=>?_,λz=>by cases z⟩
     have l1:=UV hI' hF hG G0 hC hrm hb hu hv
     cases bet with
     | true=>have:=h1 rfl;omega
     | false=>rw [(h2 rfl).1] at l1 ⊢;exact l1
    cases hgv:gt gs' r.v with
    | none =>
     walk_at "w"
     exact better ⟨hgu,λb hb=>by rw [hgv] at hb;cases hb⟩
    | some b =>
     walk_at "w"
     refine eZ au ?_
     rw [hgu]
     walk_at "w"
     refine eZ av ?_
     rw [hgv]
     walk_at "w"
     refine OS (λh=>?_) λh=>?_
     ·exact better ⟨hgu,λb' hb'=>by rw [hgv] at hb';cases hb';exact h⟩
     ·exact later _ hgv _ _ _ _ _ λa' ha'=>by
       rw [hgu] at ha';cases ha'
       exact ⟨b,rfl,by omega⟩
  ·rintro env ⟨gs',ls',bet,s6,s7,s8,s9,s10,rfl,hI',h1,h2⟩
   rw [a0d,a1z] at h2
   walk_at "w"
   exact ⟨gs',ls',bet,_,_,_,_,_,rfl,hI',h1,λz=>(h2 z).2⟩
theorem QO:∀ (n:Nat) (l:List Nat),l.Nodup -> (∀ x ∈ l,x < n) -> l.length <= n:=by
 intro n
 induction n with
 | zero=>intro l _ h;cases l with
  | nil=>simp
  | cons a l=>have:=h a a0n;omega
 | succ n ih =>
  intro l nd h
  by_cases hm:n ∈ l
  ·have:(l.erase n).length <= n:=by
    refine ih _ (nd.sublist List.erase_sublist) λx hx=>?_
    have hx':=List.mem_of_mem_erase hx
    have hne:x ≠ n:=λz=>by subst z;exact (List.Nodup.not_mem_erase nd) hx
    have:=h x hx'
    omega
   rw [List.length_erase_of_mem hm] at this
   omega
  ·have:=ih l nd λx hx=>by
    have h1:=h x hx
    have:x ≠ n:=λz=>by subst z;exact hm hx
    omega
   omega
section
variable {φ:Nat -> Int} {rs:List Rd} {n st:Nat} {Gm:Int} {gs:Gs} {ls:Ls}
theorem MB {v:Nat} {p:List Rd} (h:Way ls st v p):∀ r ∈ p,∃ w k,gt ls w = some r /\ Ch ls st k w /\ k <= p.length /\ 0 < k:=by
 induction h with
 | base=>intro r hr;cases hr
 | @step v r p e w ih =>
  intro r' hr'
  rcases a0q.mp hr' with z | z
  ·subst z
   exact ⟨v,p.length + 1,e,.step e w.ch,by simp,by omega⟩
  ·obtain ⟨w',k,h1,h2,h3,h4⟩:=ih r' z
   exact ⟨w',k,h1,h2,by simp;omega,h4⟩
theorem GI.wayIn (h:GI φ rs n st Gm gs ls) {v:Nat} {p:List Rd} (w:Way ls st v p):∀ r ∈ p,r ∈ rs /\ gt ls r.v = some r:=by
 intro r hr
 obtain ⟨w',k,e,_⟩:=MB w r hr
 obtain ⟨h1,h2,_⟩:=h.las w' r e
 exact ⟨h1,by rw [h2];exact e⟩
theorem GI.wayNd (h:GI φ rs n st Gm gs ls) {v:Nat} {p:List Rd} (w:Way ls st v p):(p.map Rd.v).Nodup:=by
 induction w with
 | base=>exact List.nodup_nil
 | @step v r p e w ih =>
  rw [a0f,a1w]
  refine ⟨λhm=>?_,ih⟩
  obtain ⟨r',hr',z⟩:=a0p.mp hm
  obtain ⟨w',k,e',c',hk,_⟩:=MB w r' hr'
  obtain ⟨_,h2,_⟩:=h.las w' r' e'
  obtain ⟨_,h3,_⟩:=h.las v r e
  have:w' = v:=by rw [<- h2,z,h3]
  subst this
  have:=TU h.stl c' (.step e w.ch)
  omega
theorem GI.wayLen (h:GI φ rs n st Gm gs ls) (hrs:∀ r ∈ rs,r.u < n /\ r.v < n) {v:Nat} {p:List Rd} (w:Way ls st v p):p.length <= n:=by
 have:=QO n (p.map Rd.v) (h.wayNd w) λx hx=>by
  obtain ⟨r,hr,rfl⟩:=a0p.mp hx
  exact (hrs r (h.wayIn w r hr).1).2
 simpa using this
end
theorem yC {ls:Ls} {st goal:Nat} {p:List Rd} {R:PV -> Prop} (hw:Way ls st goal p) (hn:gt ls st = none) (hg:goal < ls.length) (hu:∀ r ∈ p,r.u < ls.length) (hp:p.length <= 1000) (q:R (kK (p.filterMap Rd.k))):bB [UY ls,.int goal] R:=by
 unfold bB
 walk_at "w"
 refine ⟨λm env=>∃ (v:Nat) (p':List Rd) (ds:List Int) (t3 t4 t5:Option PV),env = [some (UY ls),some (.int v),some (kK ds),t3,t4,t5] /\ Way ls st v p' /\ m = p'.length /\ ds ++ p'.filterMap Rd.k = p.filterMap Rd.k /\ v < ls.length /\ (∀ r ∈ p',r.u < ls.length),⟨_,goal,p,[],none,none,none,rfl,hw,rfl,rfl,hg,hu⟩,?_⟩
 rintro m env ⟨v,p',ds,t3,t4,t5,rfl,w,rfl,ht,hv,hu'⟩
 walk_at "w"
 refine eZ (XA hv) ?_
 have hdl:ds.length <= 1000:=by
  have:=congrArg List.length ht
  have:=List.length_filterMap_le Rd.k p
  rw [a1d] at *
  omega
 cases w with
 | base =>
  rw [hn]
  walk_at "w"
  rw [List.filterMap_nil,a69] at ht
  rw [ht];exact q
 | @step _ r p'' e w =>
  rw [e]
  unfold T3 IG
  walk_at "w"
  refine ⟨λenv'=>∃ (v:Nat) (ds:List Int) (t3 t4 t5:Option PV),env' = [some (UY ls),some (.int v),some (kK ds),t3,t4,t5] /\ Way ls st v p'' /\ ds ++ p''.filterMap Rd.k = p.filterMap Rd.k /\ v < ls.length,?_,?_⟩
  ·rintro env' ⟨v',ds',s3,s4,s5,rfl,w',ht',hv'⟩
   exact ⟨p''.length,by simp,v',p'',ds',s3,s4,s5,rfl,w',rfl,ht',hv',λr' hr'=>hu' r' (a0i _ hr')⟩
  walk_at "w"
  refine eZ (z:=IG r) (by rw [XA hv,e];rfl) ?_
  unfold IG
  walk_at "w"
  refine ⟨rfl,?_⟩
  walk_at "w"
  have hr:=hu' r a0n
  rw [a1h] at ht
  cases hk:r.k with
  | none =>
   rw [hk] at ht
   walk_at "w"
   exact ⟨r.u,ds,_,_,_,rfl,w,ht,hr⟩
  | some k =>
   rw [hk] at ht
   walk_at "w"
   refine ⟨rfl,?_⟩
   walk_at "w"
   refine ⟨rfl,?_⟩
   walk_at "w"
   refine ⟨qG (n:=(ds.map PV.int).length) (by rw [a0d];exact hdl),?_⟩
   have ei:kK (ds ++ [k]) = .lst (ds.map PV.int ++ [kM (some k)]):=by unfold kK;rw [a1c];rfl
   exact ⟨r.u,ds ++ [k],some (.int (r.v:Nat)),some (.int r.g),some (kM (some k)),by rw [ei],w,by rw [a6j];exact ht,hr⟩
theorem D5 {ks ms:List Int} {R:PV -> Prop} (h1:ks.length < 32) (h2:ms.length < 32) (q:R (kK (aS (qT ks ms)))):cE [kK ks,kK ms] R:=by
 unfold cE
 walk_at "w"
 refine CL h1 ?_
 walk_at "w"
 refine CL h2 ?_
 exact q
def BM (bk:List Sr):List Int:=if aS (jK bk) = [] then [0] else aS (jK bk)
theorem F7 {bk:List Sr} {R:PV -> Prop} (hl:bk.length <= 31) (q:R (kK (BM bk))):cO [o6 bk] R:=by
 unfold cO
 walk_at "w"
 refine C9 hl ?_
 walk_at "w"
 unfold BM at q
 refine a1S (λh=>?_) λh=>?_
 ·rw [if_neg (λz=>by rw [z] at h;cases h)] at q;exact q
 ·have:aS (jK bk) = []:=by
   cases hu:aS (jK bk) with
   | nil=>rfl
   | cons a l=>rw [hu] at h;cases h
  rw [if_pos this] at q
  walk_at "w"
  exact q
def i7 (γ:Nat -> Int) (i:Nat):Int:=γ (i + 1) - γ i
def lN (γ:Nat -> Int) (sp:List Int):List Pr:=(sp.zipIdx.filter λz=>decide (0 < i7 γ z.2)).map λz=>(z.1,i7 γ z.2)
theorem F8 {γ:Nat -> Int} {n:Nat} {sp:List Int} {R:PV -> Prop} (hn:n <= 1000) (hs:sp.length < n) (q:R (dS (lN γ sp))):cP [kK ((List.range n).map γ),kK sp] R:=by
 unfold cP
 have hat:∀ i,i < n -> lD (((List.range n).map γ).map PV.int) (i:Int) = some (.int (γ i)):=λi hi=>dO (by omega) (by
  rw [a1j,a0h,a0h,a6d hi];rfl)
 walk_at "w"
 refine ⟨by omega,by rw [a0d];omega,?_⟩
 refine ⟨by rw [bS];exact cJ (by rw [a0d];omega),?_⟩
 refine k8 (λi acc env=>acc = ((List.range i).map (i7 γ)).map PV.int /\ ∃ t,env = [t,some (kK ((List.range n).map γ))]) ⟨rfl,_,rfl⟩ ?_ ?_
 ·rintro i x acc env N hx ⟨rfl,t,rfl⟩ hN
  obtain ⟨rfl,hi⟩:=g8 hx
  rw [a0d] at hi
  have x0:(0:Int) + (i:Int) = i:=by omega
  rw [x0]
  walk_at "w"
  refine eZ (by have:=hat (i + 1) (by omega);rw [<- this];congr 1) ?_
  walk_at "w"
  refine eZ (hat i (by omega)) ?_
  walk_at "w"
  refine hN _ _ ⟨?_,_,rfl⟩
  rw [a4b];simp [i7]
 ·rintro acc env ⟨rfl,t,rfl⟩
  have e1:(dQ 0 ((sp.map PV.int).length:Int).toNat).length = sp.length:=by rw [bS,a0d];omega
  rw [e1]
  walk_at "w"
  refine ⟨by rw [mE];exact cJ (by simp;omega),?_⟩
  refine k8 (λi acc env=>acc = (((sp.take i).zipIdx.filter λz=>decide (0 < i7 γ z.2)).map λz=>(z.1,i7 γ z.2)).map RB /\ ∃ t1 t2,env = [t1,t2]) ⟨rfl,_,_,rfl⟩ ?_ ?_
  ·rintro i x acc env N hx ⟨rfl,t1,t2,rfl⟩ hN
   rw [F0] at hx
   obtain ⟨a,b,ha,hb,rfl⟩:=hx
   rw [a0h,a0u] at ha hb
   obtain ⟨s,hs',rfl⟩:=ha
   obtain ⟨v,hv,rfl⟩:=hb
   rw [a0h,a0u] at hv
   obtain ⟨j,hj,rfl⟩:=hv
   have hjl:=(a0k.mp hj).1
   rw [a4w] at hjl
   rw [a6d hjl] at hj
   cases hj
   have ez:(sp.take (i + 1)).zipIdx = (sp.take i).zipIdx ++ [(s,i)]:=by
    rw [a1o,hs',a6h]
    have:(sp.take i).length = i:=by rw [a2f];omega
    simp [this]
   walk_at "w"
   refine ⟨rfl,?_⟩
   walk_at "w"
   refine OS (λh=>?_) λh=>?_
   ·refine hN _ _ ⟨?_,_,_,rfl⟩
    rw [ez,a4v,a2k,if_pos (by simpa using h)]
    simp [RB]
   ·refine hN _ _ ⟨?_,_,_,rfl⟩
    rw [ez,a4v,a2k,if_neg (by simpa using h)]
    simp
  ·rintro acc env ⟨rfl,t1,t2,rfl⟩
   have e2:(BX (sp.map PV.int) (((List.range sp.length).map (i7 γ)).map PV.int)).length = sp.length:=by rw [mE];simp
   rw [e2,a1z]
   exact ⟨FS _,q⟩
end Lib
namespace L2
open PySem
theorem P3 {g:lC} {tt:jB} {tk tv:b8} {Q:PV -> Prop}:∀ {items:List PV} {ks:List cK} {xs:List PV} {env:bY} (I:Nat -> List cK -> List PV -> bY -> Prop),I 0 ks xs env ->
  (∀ (i:Nat) (x:PV) (ks:List cK) (xs:List PV) (env:bY) (N:List cK -> List PV -> bY -> Prop),items[i]? = some x -> I i ks xs env -> (∀ ks' xs' env',I (i + 1) ks' xs' env' -> N ks' xs' env') -> g x env λenv1=>tt env1 λb=>Br b (tk env1 λk=>tv env1 λy=>match OA k with
   | some kk=>ks.length < 1000 /\ N (MW ks kk) (IE ks xs kk y) env1
   | none=>False) (N ks xs env1)) ->
  (∀ ks xs env,I items.length ks xs env -> Q (.dic ks xs)) -> BL g tt tk tv Q items ks xs env
 | [],ks,xs,env,I,h0,hs,hd=>hd ks xs env h0
 | x :: items,ks,xs,env,I,h0,hs,hd=>by
  rw [BL]
  refine hs 0 x ks xs env (λks xs env=>BL g tt tk tv Q items ks xs env) rfl h0 λks' xs' env' h=>?_
  exact P3 (λi=>I (i + 1)) h (λi y a b e N hy=>hs (i + 1) y a b e N (by simpa using hy)) λa b e h=>hd a b e (by simpa using h)
end L2
namespace Lib
open PySem L2
theorem PQ (rs:List Rd):PV.flats (rs.map IG) = true:=PV.flats_of λx h=>by obtain ⟨s,_,rfl⟩:=a0p.mp h;exact FR s
def yY (m:Nat):List Rd:=(List.range m).map λi=>⟨i,i + 1,0,none⟩
def z7 (rooms:List Int) (m:Nat):List Rd:=((List.range m).filter λi=>decide (0 < rooms.getD i 0)).map λi=>⟨i + 1,i,0,none⟩
def FU (rooms:List Int):List Rd:=yY rooms.length ++ (z7 rooms rooms.length).reverse
theorem D6 {rooms:List Int} {R:PV -> Prop} (hl:rooms.length <= 100) (q:R (OB (FU rooms))):cF [kK rooms] R:=by
 unfold cF
 walk_at "w"
 refine ⟨by omega,by rw [a0d];omega,?_⟩
 refine ⟨by rw [bS];exact cJ (by rw [a0d];omega),?_⟩
 refine k8 (λi acc env=>acc = (yY i).map IG /\ ∃ t,env = [t]) ⟨rfl,_,rfl⟩ ?_ ?_
 ·rintro i x acc env N hx ⟨rfl,t,rfl⟩ hN
  obtain ⟨rfl,hi⟩:=g8 hx
  have x0:(0:Int) + (i:Int) = i:=by omega
  rw [x0]
  walk_at "w"
  refine hN _ _ ⟨?_,_,rfl⟩
  unfold yY
  rw [a4b,a1c,a1c];rfl
 ·rintro acc env ⟨rfl,t,rfl⟩
  have e1:(dQ 0 ((rooms.map PV.int).length:Int).toNat).length = rooms.length:=by rw [bS,a0d];omega
  rw [e1]
  walk_at "w"
  refine ⟨cJ (by rw [jU,a0d];omega),?_⟩
  refine k8 (λi acc env=>acc = (z7 rooms i).map IG /\ ∃ t1 t2,env = [t1,t2]) ⟨rfl,_,_,rfl⟩ ?_ ?_
  ·rintro i x acc env N hx ⟨rfl,t1,t2,rfl⟩ hN
   rw [tZ,a0h,Option.map_map,a0u] at hx
   obtain ⟨r,hr,rfl⟩:=hx
   have eg:rooms.getD i 0 = r:=by rw [a0g,hr];rfl
   show RD.pgTup 2 _ (.tup [.int (i:Int),.int r]) _ _
   walk_at "w"
   refine ⟨rfl,?_⟩
   walk_at "w"
   refine OS (λh=>?_) λh=>?_
   ·refine hN _ _ ⟨?_,_,_,rfl⟩
    unfold z7
    rw [a4b,a4v,a2k,if_pos (by rw [eg];simpa using h),a1c,a1c];rfl
   ·refine hN _ _ ⟨?_,_,_,rfl⟩
    unfold z7
    rw [a4b,a4v,a2k,if_neg (by rw [eg];simpa using h)];simp
  ·rintro acc env ⟨rfl,t1,t2,rfl⟩
   rw [jU,a0d]
   walk_at "w"
   refine ⟨rfl,?_⟩
   have hb:(z7 rooms rooms.length).length <= rooms.length:=by
    unfold z7
    rw [a0d]
    have:=a4a (λi=>decide (0 < rooms.getD i 0)) (List.range rooms.length)
    simpa using this
   refine ⟨cJ (by simp [yY];omega),?_⟩
   rw [<- List.map_reverse,<- a1c]
   exact ⟨PQ _,q⟩
def jV (pl:List Int) (m:Int):Nat:=pl.idxOf m
theorem X2:∀ (pl:List Int) (o:Nat) (m:Int),m ∈ pl -> FN (pl.map λp=>(Sum.inl p:cK)) ((List.range' o pl.length).map λ(i:Nat)=>PV.int (i:Int)) (.inl m) = some (.int ((o + jV pl m:Nat):Int))
 | [],o,m,h=>by cases h
 | p :: pl,o,m,h=>by
  unfold FN jV
  rw [a2g,List.range'_succ,a0f,a0f,a2o,a2b]
  by_cases e:p = m
  ·subst e
   simp
  ·have e':decide ((Sum.inl p:cK) = .inl m) = false:=by simp [e]
   dsimp only
   rw [e']
   have hm:m ∈ pl:=(a0q.mp h).resolve_left λz=>e z.symm
   have ih:=X2 pl (o + 1) m hm
   unfold FN jV at ih
   dsimp only
   rw [ih,List.idxOf_cons]
   have:(p == m) = false:=by simpa using e
   rw [this]
   simp
   omega
theorem X3 {pl:List Int} {m:Int} (h:m ∈ pl):FN (pl.map λp=>(Sum.inl p:cK)) ((List.range pl.length).map λ(i:Nat)=>PV.int (i:Int)) (.inl m) = some (.int (jV pl m:Nat)):=by
 have:=X2 pl 0 m h
 rw [<- List.range_eq_range',a6c] at this
 exact this
def fG (pl ks:List Int) (s:Sr) (k:Nat):Rd:=if (k:Int) ∈ ks then ⟨jV pl s.e,jV pl s.b,-s.w,some (k:Int)⟩ else ⟨jV pl s.b,jV pl s.e,s.w,some (k:Int)⟩
def WH (bk:List Sr) (pl ks:List Int):List Rd:=bk.zipIdx.map λz=>fG pl ks z.1 z.2
theorem MT (ks:List Int):PV.deps (ks.map PV.int) <= 60:=a1b (PV.deps_of (n:=0) λx h=>by obtain ⟨k,_,rfl⟩:=a0p.mp h;rw [KO];exact a0l _) (by decide)
theorem yS {ks:List cK} {xs:List PV} {m:Int} {z:PV} {Q:PV -> Prop} (h:FN ks xs (.inl m) = some z) (q:Q z):iA (.dic ks xs) (.int m) Q:=by
 show (match FN ks xs (.inl m) with | some z=>Q z | none=>False)
 rw [h];exact q
theorem yD {bk:List Sr} {pl ks:List Int} {R:PV -> Prop} (hb:bk.length <= 31) (hp:pl.length <= 100) (nd:pl.Nodup) (hin:∀ s ∈ bk,s.b ∈ pl /\ s.e ∈ pl) (hk:ks.length <= 100) (q:R (OB (WH bk pl ks))):bC [o6 bk,kK pl,kK ks] R:=by
 unfold bC
 walk_at "w"
 refine P3 (λi a b env=>a = (pl.take i).map (λp=>(Sum.inl p:cK)) /\ b = (List.range i).map (λ(i:Nat)=>PV.int (i:Int)) /\ ∃ t1 t2,env = [t1,t2]) ⟨rfl,rfl,_,_,rfl⟩ ?_ ?_
 ·rintro i x a b env N hx ⟨rfl,rfl,t1,t2,rfl⟩ hN
  rw [tZ,a0h,Option.map_map,a0u] at hx
  obtain ⟨m,hm,rfl⟩:=hx
  have hi:=(a0k.mp hm).1
  show RD.pgTup 2 _ (.tup [.int (i:Int),.int m]) _ _
  walk_at "w"
  refine ⟨rfl,?_⟩
  walk_at "w"
  refine ⟨rfl,?_⟩
  walk_at "w"
  have nk:kIn ((pl.take i).map (λp=>(Sum.inl p:cK))) (.inl m) = false:=by
   unfold kIn
   rw [List.any_eq_false]
   intro k hk'
   obtain ⟨p,hp',rfl⟩:=a0p.mp hk'
   have:p ≠ m:=by
    rintro rfl
    obtain ⟨j,hj,ej⟩:=a1v hp'
    rw [a2f] at hj
    rw [List.getElem_take] at ej
    obtain ⟨_,em⟩:=a0k.mp hm
    have:=(List.nodup_iff_pairwise_ne.mp nd)
    have:=(a2y.mp this) j i (by omega) hi (by omega)
    exact this (ej.trans em.symm)
   simp [this]
  refine ⟨by rw [a0d,a2f];omega,?_⟩
  refine hN _ _ _ ⟨?_,?_,_,_,rfl⟩
  ·unfold MW
   rw [nk,a1o,hm,a1c];rfl
  ·unfold IE
   rw [nk,a4b,a1c];rfl
 ·rintro a b env ⟨rfl,rfl,t1,t2,rfl⟩
  rw [jU,a0d,a1z]
  generalize hd:PV.dic (pl.map λp=>(Sum.inl p:cK)) ((List.range pl.length).map λ(i:Nat)=>PV.int (i:Int)) = dd
  walk_at "w"
  refine fV (λi env=>∃ t5 t6 t7 t8 t9,env = [some (o6 bk),some (kK pl),some (kK ks),some dd,some (OB ((bk.take i).zipIdx.map λz=>fG pl ks z.1 z.2)),t5,t6,t7,t8,t9]) ⟨_,_,_,_,_,rfl⟩ ?_ ?_
  ·rintro i x env N hx ⟨t5,t6,t7,t8,t9,rfl⟩ hN
   rw [tZ,a0h,Option.map_map,a0u] at hx
   obtain ⟨s,hs,rfl⟩:=hx
   have hi:=(a0k.mp hs).1
   obtain ⟨mb,me⟩:=hin s (a0x hs)
   have gb:=X3 mb
   have ge:=X3 me
   have ez:(bk.take (i + 1)).zipIdx = (bk.take i).zipIdx ++ [(s,i)]:=by
    rw [a1o,hs,a6h]
    have:(bk.take i).length = i:=by rw [a2f];omega
    simp [this]
   have hlen:(((bk.take i).zipIdx.map λz=>fG pl ks z.1 z.2).map IG).length <= 1000:=by
    rw [a0d,a0d,a6i,a2f];omega
   have es:OB ((bk.take (i + 1)).zipIdx.map λz=>fG pl ks z.1 z.2) = .lst ((((bk.take i).zipIdx.map λz=>fG pl ks z.1 z.2).map IG) ++ [IG (fG pl ks s i)]):=by
    rw [ez];unfold OB;rw [a1c,a1c];rfl
   show RD.pgTup 2 _ (.tup [.int (i:Int),.tup [.str s.nm,.int s.b,.int s.e,.int s.w]]) _ _
   walk_at "w"
   refine ⟨rfl,?_⟩
   walk_at "w"
   refine ⟨rfl,?_⟩
   walk_at "w"
   refine ⟨by rw [KO];decide,MT ks,?_⟩
   rw [TC]
   subst hd
   refine OS (λh=>?_) λh=>?_
   ·walk_at "w"
    refine ⟨rfl,?_⟩
    walk_at "w"
    refine yS ge ?_
    walk_at "w"
    refine yS gb ?_
    walk_at "w"
    refine ⟨rfl,?_⟩
    walk_at "w"
    refine ⟨qG hlen,?_⟩
    refine hN _ ⟨some (.int (i:Int)),some (.str s.nm),some (.int s.b),some (.int s.e),some (.int s.w),?_⟩
    rw [es]
    have:fG pl ks s i = ⟨jV pl s.e,jV pl s.b,-s.w,some (i:Int)⟩:=if_pos h
    rw [this];rfl
   ·walk_at "w"
    refine ⟨rfl,?_⟩
    walk_at "w"
    refine yS gb ?_
    walk_at "w"
    refine yS ge ?_
    walk_at "w"
    refine ⟨rfl,?_⟩
    walk_at "w"
    refine ⟨qG hlen,?_⟩
    refine hN _ ⟨some (.int (i:Int)),some (.str s.nm),some (.int s.b),some (.int s.e),some (.int s.w),?_⟩
    rw [es]
    have:fG pl ks s i = ⟨jV pl s.b,jV pl s.e,s.w,some (i:Int)⟩:=if_neg h
    rw [this];rfl
  ·rintro env ⟨t5,t6,t7,t8,t9,rfl⟩
   rw [jU,a0d,a1z]
   walk_at "w"
   exact q
def fJ (bk:List Sr) (ks lim pl:List Int):List Int:=(lim.zip pl).map λ(z:Int × Int)=>z.1 - ((b6 (aZ bk ks) z.2:Nat):Int)
def iN (bk:List Sr) (pl lim ks:List Int):List Rd:=FU (fJ bk ks lim pl) ++ WH bk pl ks
theorem IS {bk:List Sr} {pl lim ks:List Int} {R:PV -> Prop} (hb:bk.length <= 31) (hp:pl.length <= 100) (nd:pl.Nodup) (hin:∀ s ∈ bk,s.b ∈ pl /\ s.e ∈ pl) (hk:ks.length <= 100) (ok:∀ k ∈ ks,0 <= k /\ k < (bk.length:Int)) (q:R (OB (iN bk pl lim ks))):dM [o6 bk,kK pl,kK lim,kK ks] R:=by
 unfold dM
 walk_at "w"
 refine ⟨by rw [mE];exact cJ (by simp;omega),?_⟩
 refine k8 (λi acc env=>acc = (((lim.zip pl).take i).map λ(z:Int × Int)=>z.1 - ((b6 (aZ bk ks) z.2:Nat):Int)).map PV.int /\ ∃ t1 t2,env = [t1,t2,some (o6 bk),some (kK ks)]) ⟨rfl,_,_,rfl⟩ ?_ ?_
 ·rintro i x acc env N hx ⟨rfl,t1,t2,rfl⟩ hN
  rw [F0] at hx
  obtain ⟨a,b,ha,hb',rfl⟩:=hx
  rw [a0h,a0u] at ha hb'
  obtain ⟨l,hl,rfl⟩:=ha
  obtain ⟨p,hp',rfl⟩:=hb'
  have ez:(lim.zip pl)[i]? = some (l,p):=a2x.mpr ⟨hl,hp'⟩
  walk_at "w"
  refine ⟨rfl,?_⟩
  walk_at "w"
  refine C8 (by omega) ok ?_
  walk_at "w"
  refine hN _ _ ⟨?_,_,_,rfl⟩
  rw [a1o,ez];simp
 ·rintro acc env ⟨rfl,t1,t2,rfl⟩
  have e1:(BX (lim.map PV.int) (pl.map PV.int)).length = (lim.zip pl).length:=by rw [mE];simp
  rw [e1,a1z]
  have hz:(lim.zip pl).length <= pl.length:=by rw [a6b];omega
  walk_at "w"
  refine D6 (rooms:=fJ bk ks lim pl) (by unfold fJ;rw [a0d];omega) ?_
  walk_at "w"
  refine yD hb hp nd hin hk ?_
  have hf:(FU (fJ bk ks lim pl)).length <= 200:=by
   have h1:(fJ bk ks lim pl).length <= 100:=by unfold fJ;rw [a0d];omega
   unfold FU yY z7
   rw [a1d,a4o,a0d,a0d,a4w]
   have:=a4a (λi=>decide (0 < (fJ bk ks lim pl).getD i 0)) (List.range (fJ bk ks lim pl).length)
   rw [a4w] at this
   omega
  have hs:(WH bk pl ks).length <= 31:=by unfold WH;rw [a0d,a6i];omega
  refine ⟨cJ (by rw [a0d,a0d];omega),?_⟩
  rw [<- a1c]
  exact q
structure PlOk (bk:List Sr) (pl:List Int):Prop where
 lt:pl.Pairwise (· < ·)
 ne:0 < pl.length
 mem:∀ s ∈ bk,s.b ∈ pl /\ s.e ∈ pl /\ s.b < s.e
theorem PlOk.nd {bk:List Sr} {pl:List Int} (h:PlOk bk pl):pl.Nodup:=h.lt.imp λh=>by omega
theorem qX {pl:List Int} {m:Int} (h:m ∈ pl):jV pl m < pl.length:=List.idxOf_lt_length_of_mem h
theorem JA {pl:List Int} {m:Int} (h:m ∈ pl):pl[jV pl m]'(qX h) = m:=List.getElem_idxOf (qX h)
theorem PlOk.le {bk:List Sr} {pl:List Int} (h:PlOk bk pl) {m:Int} (hm:m ∈ pl) {c:Nat} (hc:c < pl.length):jV pl m <= c ↔ m <= pl[c]:=by
 have pw:=a2y.mp h.lt
 have e:=JA hm
 constructor
 ·intro z
  rcases a4u z with y | y
  ·subst y;rw [e];exact a3l _
  ·have:=pw _ _ (qX hm) hc y
   rw [e] at this;omega
 ·intro z
  refine a4j λy=>?_
  have:=pw _ _ hc (qX hm) y
  rw [e] at this;omega
theorem PlOk.over {bk:List Sr} {pl:List Int} (h:PlOk bk pl) {s:Sr} (hs:s ∈ bk) {c:Nat} (hc:c < pl.length):aY s pl[c] = true ↔ jV pl s.b <= c /\ c < jV pl s.e:=by
 obtain ⟨h1,h2,h3⟩:=h.mem s hs
 rw [iK,h.le h1 hc]
 have:=h.le h2 hc
 omega
theorem PlOk.ilt {bk:List Sr} {pl:List Int} (h:PlOk bk pl) {s:Sr} (hs:s ∈ bk):jV pl s.b < jV pl s.e:=by
 obtain ⟨h1,h2,h3⟩:=h.mem s hs
 refine a5w λz=>?_
 have:=(h.le h2 (qX h1)).mp z
 rw [JA h1] at this
 omega
def wW (c x:Nat):Int:=if x <= c then 0 else 1
def nX (c:Nat) (r:Rd):Int:=wW c r.v - wW c r.u
theorem O5 {ls:Ls} {st v:Nat} {p:List Rd} (hv:∀ w r,gt ls w = some r -> r.v = w) (h:Way ls st v p) (c:Nat):(p.map (nX c)).sum = wW c v - wW c st:=by
 induction h with
 | base=>simp
 | @step v r p e w ih =>
  rw [a0f,a0o,ih]
  unfold nX
  rw [hv v r e];omega
theorem B1 {f:Int -> Int} {len:Nat}:∀ {ns:List Int},ns.Nodup -> (∀ k ∈ ns,0 <= k /\ k < (len:Int)) -> ((List.range len).map λ(j:Nat)=>if (j:Int) ∈ ns then f (j:Int) else 0).sum = (ns.map f).sum
 | [],_,_=>by
  rw [a5i,List.sum_nil]
  have:∀ l:List Nat,(l.map λ(j:Nat)=>if (j:Int) ∈ ([]:List Int) then f (j:Int) else 0).sum = 0:=by
   intro l
   induction l with
   | nil=>rfl
   | cons a l ih=>rw [a0f,a0o,ih];simp
  exact this _
 | k :: ns,nd,h=>by
  have nd':=a1w.mp nd
  have ih:=B1 (f:=f) nd'.2 λj hj=>h j (a0i _ hj)
  rw [a0f,a0o,<- ih]
  have hk:=h k a0n
  have key:∀ l:List Nat,l.Nodup -> (l.map λ(j:Nat)=>if (j:Int) ∈ k :: ns then f (j:Int) else 0).sum = (if k.toNat ∈ l then f k else 0) + (l.map λ(j:Nat)=>if (j:Int) ∈ ns then f (j:Int) else 0).sum:=by
   intro l
   induction l with
   | nil=>intro _;rfl
   | cons a l ihl =>
    intro ndl
    have ndl':=a1w.mp ndl
    rw [a0f,a0o,a0f,a0o,ihl ndl'.2]
    by_cases e:(a:Int) = k
    ·have ea:a = k.toNat:=by omega
     have n1:¬ (a:Int) ∈ ns:=by rw [e];exact nd'.1
     have n2:¬ k.toNat ∈ l:=by rw [<- ea];exact ndl'.1
     rw [if_pos (by rw [e];exact a0n),if_neg n2,if_neg n1,if_pos (by rw [<- ea];exact a0n),e]
    ·have e1:((a:Int) ∈ k :: ns) ↔ (a:Int) ∈ ns:=by simp [e]
     have e2:(k.toNat ∈ a :: l) ↔ k.toNat ∈ l:=by
      have:¬ k.toNat = a:=by omega
      simp [this]
     simp only [e1,e2]
     omega
  rw [key _ List.nodup_range,if_pos (a1l.mpr (by omega))]
theorem LZ {α:Type} (f g:α -> Int):∀ l:List α,(l.map λa=>f a + g a).sum = (l.map f).sum + (l.map g).sum
 | []=>rfl
 | a :: l=>by rw [a0f,a0o,a0f,a0o,a0f,a0o,LZ f g l];omega
theorem eM {α:Type} {f g:α -> Int}:∀ {l:List α},(∀ a ∈ l,f a = g a) -> (l.map f).sum = (l.map g).sum
 | [],_=>rfl
 | a :: l,h=>by rw [a0f,a0o,a0f,a0o,h a a0n,eM λb hb=>h b (a0i _ hb)]
theorem SmOk.nd {ks:List Int} {n:Nat} (h:SmOk ks n):ks.Nodup:=h.lt.imp λh=>by omega
theorem pM {bk:List Sr} {ks:List Int} {len:Nat} (h:SmOk ks len) (f:Sr -> Int):((aZ bk ks).map f).sum = ((List.range len).map λ(j:Nat)=>if (j:Int) ∈ ks then f (iX bk (j:Int)) else 0).sum:=by
 rw [B1 (f:=λk=>f (iX bk k)) h.nd h.at_]
 unfold aZ
 rw [a2i];rfl
theorem DQ (ss:List Sr) (m:Int):(b6 ss m:Int) = (ss.map λs=>if aY s m then (1:Int) else 0).sum:=by
 unfold b6
 induction ss with
 | nil=>rfl
 | cons s ss ih =>
  rw [a0f,a0o,<- ih,List.countP_cons]
  by_cases h:aY s m = true
  ·simp [h];omega
  ·simp [h]
theorem MC {bk:List Sr} {ks ns:List Int} {len:Nat} (hk:SmOk ks len) (nd:ns.Nodup) (hn:∀ k ∈ ns,0 <= k /\ k < (len:Int)) (f:Sr -> Int) :
  ((aZ bk (aS (qT ks ns))).map f).sum = ((aZ bk ks).map f).sum + (ns.map λk=>if k ∈ ks then -f (iX bk k) else f (iX bk k)).sum:=by
 have hx:SmOk (aS (qT ks ns)) len:=⟨jA _,λk hk'=>by
  rw [c8,p4] at hk'
  rcases hk' with z | z
  ·exact hk.at_ k z.1
  ·exact hn k z.1⟩
 rw [pM hx,pM hk,<- B1 (f:=λk=>if k ∈ ks then -f (iX bk k) else f (iX bk k)) nd hn,<- LZ]
 refine eM λj _=>?_
 have e:((j:Int) ∈ aS (qT ks ns)) ↔ (((j:Int) ∈ ks /\ (j:Int) ∉ ns) \/ ((j:Int) ∈ ns /\ (j:Int) ∉ ks)):=by rw [c8,p4]
 by_cases h1:(j:Int) ∈ ks <;> by_cases h2:(j:Int) ∈ ns <;> simp [e,h1,h2] <;> omega
theorem SA {ks ns:List Int} {len:Nat} (hk:SmOk ks len) (hn:∀ k ∈ ns,0 <= k /\ k < (len:Int)):SmOk (aS (qT ks ns)) len:=⟨jA _,λk hk'=>by
  rw [c8,p4] at hk'
  rcases hk' with z | z
  ·exact hk.at_ k z.1
  ·exact hn k z.1⟩
theorem M0 {f:Rd -> Int} {A B:Rd} (hAB:A ≠ B):∀ {p:List Rd},p.Nodup -> (∀ r ∈ p,(r = A -> f r = 1) /\ (r = B -> f r = -1) /\ (r ≠ A -> r ≠ B -> f r = 0)) -> (p.map f).sum = (if A ∈ p then 1 else 0) - (if B ∈ p then 1 else 0)
 | [],_,_=>by simp
 | r :: p,nd,h=>by
  have nd':=a1w.mp nd
  have ih:=M0 hAB nd'.2 λq hq=>h q (a0i _ hq)
  rw [a0f,a0o,ih]
  obtain ⟨h1,h2,h3⟩:=h r a0n
  by_cases eA:r = A
  ·subst eA
   have nB:¬ (B = r):=λz=>hAB z.symm
   rw [h1 rfl]
   simp [nd'.1,nB]
   omega
  ·by_cases eB:r = B
   ·subst eB
    have nA:¬ (A = r):=hAB
    rw [h2 rfl]
    simp [nd'.1,nA]
    omega
   ·have nA:¬ (A = r):=λz=>eA z.symm
    have nB:¬ (B = r):=λz=>eB z.symm
    rw [h3 eA eB]
    simp [nA,nB]
theorem NR {bk:List Sr} {ks lim pl:List Int} (h:lim.length <= pl.length):(fJ bk ks lim pl).length = lim.length:=by
 unfold fJ;rw [a0d,a6b];omega
theorem pV {bk:List Sr} {ks lim pl:List Int} {c:Nat} (hc:c < lim.length) (hp:c < pl.length):(fJ bk ks lim pl).getD c 0 = lim[c] - ((b6 (aZ bk ks) pl[c]:Nat):Int):=by
 unfold fJ
 have ez:(lim.zip pl)[c]? = some (lim[c],pl[c]):=a2x.mpr ⟨a0b hc,a0b hp⟩
 rw [a0g,a0h,ez];rfl
theorem v5 {bk:List Sr} {j:Nat} (h:j < bk.length):iX bk (j:Int) = bk[j]:=a10 (a0b h)
theorem v6 {bk:List Sr} {j:Nat} (h:j < bk.length):iX bk (j:Int) ∈ bk:=by rw [v5 h];exact a1x h
inductive RdIs (bk:List Sr) (pl lim ks:List Int):Rd -> Prop where
 | ahead {i:Nat}:i < lim.length -> RdIs bk pl lim ks ⟨i,i + 1,0,none⟩
 | back {i:Nat}:i < lim.length -> 0 < (fJ bk ks lim pl).getD i 0 -> RdIs bk pl lim ks ⟨i + 1,i,0,none⟩
 | str {j:Nat}:j < bk.length -> RdIs bk pl lim ks (fG pl ks (iX bk (j:Int)) j)
theorem o4 {bk:List Sr} {pl lim ks:List Int} (h:lim.length <= pl.length) {r:Rd}:r ∈ iN bk pl lim ks ↔ RdIs bk pl lim ks r:=by
 unfold iN FU
 rw [NR h]
 constructor
 ·intro hr
  rcases a1g.mp hr with z | z
  ·rcases a1g.mp z with z | z
   ·obtain ⟨i,hi,rfl⟩:=a0p.mp z
    exact .ahead (a1l.mp hi)
   ·obtain ⟨i,hi,rfl⟩:=a0p.mp (a5v.mp z)
    obtain ⟨h1,h2⟩:=a2e.mp hi
    exact .back (a1l.mp h1) (by simpa using h2)
  ·obtain ⟨⟨s,j⟩,hz,rfl⟩:=a0p.mp z
   have:=List.mem_zipIdx hz
   have hj:j < bk.length:=by simpa using this.2.1
   have es:s = iX bk (j:Int):=by rw [v5 hj];simpa using this.2.2
   dsimp only
   rw [es]
   exact .str hj
 ·intro hr
  cases hr with
  | ahead hi=>exact a2r _ (a2r _ (a0p.mpr ⟨_,a1l.mpr hi,rfl⟩))
  | back hi hr=>exact a2r _ (a0w _ (a5v.mpr (a0p.mpr ⟨_,a2e.mpr ⟨a1l.mpr hi,by simpa using hr⟩,rfl⟩)))
  | @str j hj =>
   refine a0w _ (a0p.mpr ⟨(bk[j],j),?_,by rw [v5 hj]⟩)
   exact a0x (i:=j) (by rw [List.getElem?_zipIdx,a0b hj];simp)
theorem LY {pl ks:List Int} {s:Sr} {j:Nat}:(fG pl ks s j).k = some (j:Int):=by unfold fG;split <;> rfl
theorem RdIs.num {bk:List Sr} {pl lim ks:List Int} {r:Rd} (h:RdIs bk pl lim ks r) {k:Int} (hk:r.k = some k):0 <= k /\ k < (bk.length:Int) /\ r = fG pl ks (iX bk k) k.toNat:=by
 cases h with
 | ahead=>cases hk
 | back=>cases hk
 | @str j hj =>
  rw [LY] at hk
  cases hk
  exact ⟨by omega,by omega,by rw [a1j]⟩
theorem RdIs.lt {bk:List Sr} {pl lim ks:List Int} (hP:PlOk bk pl) (hl:lim.length + 1 = pl.length) {r:Rd} (h:RdIs bk pl lim ks r):r.u < pl.length /\ r.v < pl.length:=by
 cases h with
 | ahead=>dsimp only;omega
 | back=>dsimp only;omega
 | @str j hj =>
  obtain ⟨h1,h2,_⟩:=hP.mem _ (v6 hj)
  have:=qX h1
  have:=qX h2
  unfold fG
  split <;> exact ⟨by assumption,by assumption⟩
section
variable {bk:List Sr} {pl lim ks:List Int} {p:List Rd}
theorem E3 (hp:p.Nodup) (hin:∀ r ∈ p,RdIs bk pl lim ks r):(p.filterMap Rd.k).Nodup:=by
 induction p with
 | nil=>exact List.nodup_nil
 | cons r p ih =>
  have hp':=a1w.mp hp
  have ih:=ih hp'.2 λq hq=>hin q (a0i _ hq)
  rw [a1h]
  cases hk:r.k with
  | none=>exact ih
  | some k =>
   refine a1w.mpr ⟨λhm=>?_,ih⟩
   obtain ⟨r',hr',hk'⟩:=a3w.mp hm
   have e1:=((hin r a0n).num hk).2.2
   have e2:=((hin r' (a0i _ hr')).num hk').2.2
   exact hp'.1 (by rw [e1,<- e2];exact hr')
theorem qD (hin:∀ r ∈ p,RdIs bk pl lim ks r):∀ k ∈ p.filterMap Rd.k,0 <= k /\ k < (bk.length:Int):=by
 intro k hk
 obtain ⟨r,hr,e⟩:=a3w.mp hk
 have:=(hin r hr).num e
 exact ⟨this.1,this.2.1⟩
theorem M3 (f:Rd -> Int) (hin:∀ r ∈ p,RdIs bk pl lim ks r):(p.map f).sum = (p.map λr=>if r.k = none then f r else 0).sum + ((p.filterMap Rd.k).map λk=>f (fG pl ks (iX bk k) k.toNat)).sum:=by
 induction p with
 | nil=>rfl
 | cons r p ih =>
  have ih:=ih λq hq=>hin q (a0i _ hq)
  rw [a0f,a0o,ih,a0f,a0o,a1h]
  cases hk:r.k with
  | none=>simp;omega
  | some k =>
   have e:=((hin r a0n).num hk).2.2
   simp only [reduceCtorEq,if_false]
   rw [a0f,a0o,<- e];omega
theorem MP (hP:PlOk bk pl) {j:Nat} (hj:j < bk.length) {c:Nat} (hc:c < pl.length):nX c (fG pl ks (iX bk (j:Int)) j) = if (j:Int) ∈ ks then -(if aY (iX bk (j:Int)) pl[c] then (1:Int) else 0) else (if aY (iX bk (j:Int)) pl[c] then (1:Int) else 0):=by
 have ho:=hP.over (v6 hj) hc
 have hl:=hP.ilt (v6 hj)
 unfold nX fG wW
 by_cases hk:(j:Int) ∈ ks
 ·rw [if_pos hk,if_pos hk]
  dsimp only
  by_cases h:aY (iX bk (j:Int)) pl[c] = true
  ·have:=ho.mp h
   rw [if_pos h]
   rw [if_pos this.1,if_neg (by omega)];rfl
  ·rw [if_neg h]
   have:¬ (jV pl (iX bk (j:Int)).b <= c /\ c < jV pl (iX bk (j:Int)).e):=λz=>h (ho.mpr z)
   by_cases h1:jV pl (iX bk (j:Int)).b <= c
   ·rw [if_pos h1,if_pos (by omega)];rfl
   ·rw [if_neg h1,if_neg (by omega)];rfl
 ·rw [if_neg hk,if_neg hk]
  dsimp only
  by_cases h:aY (iX bk (j:Int)) pl[c] = true
  ·have:=ho.mp h
   rw [if_pos h]
   rw [if_pos this.1,if_neg (by omega)];rfl
  ·rw [if_neg h]
   have:¬ (jV pl (iX bk (j:Int)).b <= c /\ c < jV pl (iX bk (j:Int)).e):=λz=>h (ho.mpr z)
   by_cases h1:jV pl (iX bk (j:Int)).b <= c
   ·rw [if_pos h1,if_pos (by omega)];rfl
   ·rw [if_neg h1,if_neg (by omega)];rfl
theorem ZM (hP:PlOk bk pl) (hk:SmOk ks bk.length) (hp:p.Nodup) (hin:∀ r ∈ p,RdIs bk pl lim ks r) {c:Nat} (hc:c < pl.length) :
  ((b6 (aZ bk (aS (qT ks (p.filterMap Rd.k)))) pl[c]:Nat):Int) = (b6 (aZ bk ks) pl[c]:Nat) + (p.map (nX c)).sum - ((if (⟨c,c + 1,0,none⟩ : Rd) ∈ p then 1 else 0) - (if (⟨c + 1,c,0,none⟩ : Rd) ∈ p then 1 else 0)):=by
 have h1:=MC (bk:=bk) hk (E3 hp hin) (qD hin) λs=>if aY s pl[c] then (1:Int) else 0
 rw [DQ,h1,<- DQ,M3 (nX c) hin]
 have h2:((p.filterMap Rd.k).map λk=>if k ∈ ks then -(if aY (iX bk k) pl[c] then (1:Int) else 0) else (if aY (iX bk k) pl[c] then (1:Int) else 0)).sum = ((p.filterMap Rd.k).map λk=>nX c (fG pl ks (iX bk k) k.toNat)).sum:=by
  refine eM λk hk'=>?_
  obtain ⟨k0,k1⟩:=qD hin k hk'
  have:=MP (ks:=ks) hP (j:=k.toNat) (by omega) hc
  have e:((k.toNat:Nat):Int) = k:=by omega
  rw [e] at this
  exact this.symm
 rw [h2]
 have h3:(p.map λr=>if r.k = none then nX c r else 0).sum = (if (⟨c,c + 1,0,none⟩ : Rd) ∈ p then 1 else 0) - (if (⟨c + 1,c,0,none⟩ : Rd) ∈ p then 1 else 0):=by
  refine M0 (λz=>by injection z with z1 z2;omega) hp λr hr=>⟨λe=>?_,λe=>?_,λn1 n2=>?_⟩
  ·subst e;simp [nX,wW]
  ·subst e;simp [nX,wW]
  ·cases hin r hr with
   | @ahead i hi =>
    have:i ≠ c:=λz=>n1 (by rw [z])
    simp only [a64]
    unfold nX wW
    dsimp only
    by_cases h:i <= c
    ·rw [if_pos h,if_pos (by omega)];rfl
    ·rw [if_neg h,if_neg (by omega)];rfl
   | @back i hi hr =>
    have:i ≠ c:=λz=>n2 (by rw [z])
    simp only [a64]
    unfold nX wW
    dsimp only
    by_cases h:i <= c
    ·rw [if_pos h,if_pos (by omega)];rfl
    ·rw [if_neg h,if_neg (by omega)];rfl
   | @str j hj=>rw [if_neg (by rw [LY];simp)]
 rw [h3]
 omega
theorem a43 (hk:SmOk ks bk.length) (hp:p.Nodup) (hin:∀ r ∈ p,RdIs bk pl lim ks r):lP (aZ bk (aS (qT ks (p.filterMap Rd.k)))) = lP (aZ bk ks) + (p.map Rd.g).sum:=by
 have h1:=MC (bk:=bk) hk (E3 hp hin) (qD hin) Sr.w
 unfold lP
 rw [h1,M3 Rd.g hin]
 have h2:((p.filterMap Rd.k).map λk=>if k ∈ ks then -(iX bk k).w else (iX bk k).w).sum = ((p.filterMap Rd.k).map λk=>(fG pl ks (iX bk k) k.toNat).g).sum:=by
  refine eM λk hk'=>?_
  obtain ⟨k0,k1⟩:=qD hin k hk'
  have e:((k.toNat:Nat):Int) = k:=by omega
  unfold fG
  rw [e]
  split <;> rfl
 have h3:(p.map λr=>if r.k = none then r.g else 0).sum = 0:=by
  have:(p.map λr=>if r.k = none then r.g else 0).sum = (p.map λ_=>(0:Int)).sum:=eM λr hr=>by
   cases hin r hr with
   | ahead=>rfl
   | back=>rfl
   | @str j hj=>rw [if_neg (by rw [LY];simp)]
  rw [this]
  clear this hp hin h1 h2
  induction p with
  | nil=>rfl
  | cons a l ih=>rw [a0f,a0o,ih];rfl
 rw [h2,h3];omega
end
theorem kF (f:Nat -> Int) (m:Nat):((List.range (m + 1)).map f).sum = ((List.range m).map f).sum + f m:=by
 rw [a4b,a1c,List.sum_append];simp
theorem ON (bk:List Sr) (f:Sr -> Int):(bk.map f).sum = ((List.range bk.length).map λ(j:Nat)=>f (iX bk (j:Int))).sum:=by
 have:bk.map f = (List.range bk.length).map λ(j:Nat)=>f (iX bk (j:Int)):=by
  apply a3s
  ·simp
  ·intro i h1 h2
   simp at h1 h2 ⊢
   rw [v5 h1]
 rw [this]
theorem EA {γ:Nat -> Int} {sp:List Int} (F:Int -> Int) (h0:∀ c,c < sp.length -> 0 <= i7 γ c):((lN γ sp).map λp=>p.2 * F p.1).sum = ((List.range sp.length).map λc=>i7 γ c * F (sp.getD c 0)).sum:=by
 unfold lN
 have key:∀ m,m <= sp.length -> (((((sp.take m).zipIdx.filter λz=>decide (0 < i7 γ z.2)).map λz=>((z.1,i7 γ z.2):Pr))).map λp=>p.2 * F p.1).sum = ((List.range m).map λc=>i7 γ c * F (sp.getD c 0)).sum:=by
  intro m
  induction m with
  | zero=>intro _;rfl
  | succ m ih =>
   intro hm
   have hs:sp[m]? = some (sp.getD m 0):=by
    rw [a0g,a0b (by omega)];rfl
   have ez:(sp.take (m + 1)).zipIdx = (sp.take m).zipIdx ++ [(sp.getD m 0,m)]:=by
    rw [a1o,hs,a6h]
    have:(sp.take m).length = m:=by rw [a2f];omega
    simp [this]
   rw [ez,a4v,a1c,a1c,List.sum_append,ih (by omega),kF]
   congr 1
   rw [a2k]
   by_cases h:0 < i7 γ m
   ·rw [if_pos (by simpa using h)];simp
   ·have:=h0 m (by omega)
    have e:i7 γ m = 0:=by omega
    rw [if_neg (by simpa using h),e];simp
 have:=key sp.length (a0l _)
 rw [a1z] at this
 exact this
theorem S4 (γ:Nat -> Int) (m:Nat):((List.range m).map (i7 γ)).sum = γ m - γ 0:=by
 induction m with
 | zero=>simp
 | succ m ih=>rw [kF,ih];unfold i7;omega
theorem CQ (γ:Nat -> Int) {a b:Nat} (hab:a <= b):∀ m,((List.range m).map λc=>i7 γ c * (if a <= c /\ c < b then 1 else 0)).sum = γ (min b m) - γ (min a m)
 | 0=>by simp
 | m + 1=>by
  rw [kF,CQ γ hab m]
  by_cases h:a <= m /\ m < b
  ·rw [if_pos h,a6f]
   rw [show min b (m + 1) = m + 1 by omega,show min a (m + 1) = a by omega,show min b m = m by omega,show min a m = a by omega]
   unfold i7;omega
  ·rw [if_neg h,Int.mul_zero]
   by_cases h2:a <= m
   ·rw [show min b (m + 1) = min b m by omega,show min a (m + 1) = min a m by omega];omega
   ·rw [show min b (m + 1) = m + 1 by omega,show min a (m + 1) = m + 1 by omega,show min b m = m by omega,show min a m = m by omega];omega
theorem WT (s:Sr) (pp:List Pr):kG s pp = (pp.map λp=>p.2 * (if aY s p.1 then 1 else 0)).sum:=by
 unfold kG
 induction pp with
 | nil=>rfl
 | cons p pp ih =>
  rw [a2k,a0f,a0o,<- ih]
  by_cases h:aY s p.1 = true
  ·rw [if_pos h,if_pos h,a0f,a0o];omega
  ·rw [if_neg h,if_neg h];omega
section
variable {bk:List Sr} {pl ks:List Int} {lim:List Int} {γ:Nat -> Int}
theorem u4 (hl:lim.length + 1 = pl.length) (fe:y8 γ (iN bk pl lim ks)) {c:Nat} (hc:c < lim.length):0 <= i7 γ c:=by
 have:=fe _ ((o4 (by omega)).mpr (.ahead hc))
 unfold i7
 dsimp only at this
 omega
theorem qW {pl:List Int} {c:Nat} (hc:c + 1 < pl.length):pl.dropLast.getD c 0 = pl[c]:=by
 rw [a0g,List.dropLast_eq_take,List.getElem?_take,if_pos (by omega),a0b (by omega)];rfl
theorem WU (hP:PlOk bk pl) (hl:lim.length + 1 = pl.length) (fe:y8 γ (iN bk pl lim ks)) {s:Sr} (hs:s ∈ bk):kG s (lN γ pl.dropLast) = γ (jV pl s.e) - γ (jV pl s.b):=by
 have hdl:pl.dropLast.length = lim.length:=by rw [a3p];omega
 rw [WT,EA (λm=>if aY s m then 1 else 0) λc hc=>u4 hl fe (by omega),hdl]
 have:((List.range lim.length).map λc=>i7 γ c * (if aY s (pl.dropLast.getD c 0) then 1 else 0)).sum = ((List.range lim.length).map λc=>i7 γ c * (if jV pl s.b <= c /\ c < jV pl s.e then 1 else 0)).sum:=eM λc hc=>by
  have hc':=a1l.mp hc
  rw [qW (by omega)]
  have ho:=hP.over hs (c:=c) (by omega)
  by_cases h:aY s pl[c] = true
  ·rw [if_pos h,if_pos (ho.mp h)]
  ·rw [if_neg h,if_neg (λz=>h (ho.mpr z))]
 obtain ⟨_,h2,_⟩:=hP.mem s hs
 have hi:=hP.ilt hs
 have he:=qX h2
 rw [this,CQ γ (by omega) lim.length,show min (jV pl s.e) lim.length = jV pl s.e by omega,show min (jV pl s.b) lim.length = jV pl s.b by omega]
theorem OZ (hP:PlOk bk pl) (hk:SmOk ks bk.length) (hl:lim.length + 1 = pl.length) (fe:y8 γ (iN bk pl lim ks)) :
  jQ bk (lN γ pl.dropLast) = lP (aZ bk ks) - ((lN γ pl.dropLast).map λp=>p.2 * ((b6 (aZ bk ks) p.1:Nat):Int)).sum:=by
 unfold jQ
 rw [ON,<- tI]
 unfold lP
 rw [pM hk,pM hk]
 have neg:∀ (f g:Nat -> Int) (l:List Nat),(l.map f).sum - (l.map g).sum = (l.map λj=>f j - g j).sum:=by
  intro f g l
  induction l with
  | nil=>rfl
  | cons a l ih=>rw [a0f,a0o,a0f,a0o,a0f,a0o,<- ih];omega
 rw [neg]
 refine eM λj hj=>?_
 have hj':=a1l.mp hj
 have ht:=WU hP hl fe (v6 hj')
 have hr:=fe _ ((o4 (by omega)).mpr (.str hj'))
 unfold gE
 rw [ht]
 unfold fG at hr
 by_cases h:(j:Int) ∈ ks
 ·rw [if_pos h] at hr
  rw [if_pos h,if_pos h]
  dsimp only at hr
  omega
 ·rw [if_neg h] at hr
  rw [if_neg h,if_neg h]
  dsimp only at hr
  omega
theorem VF (hl:lim.length + 1 = pl.length) (fe:y8 γ (iN bk pl lim ks)) (hld:∀ (c:Nat) (h:c < lim.length),((b6 (aZ bk ks) (pl[c]'(by omega)):Nat):Int) <= lim[c]) (L:Int -> Int) (hL:∀ (c:Nat) (h:c < lim.length),L (pl[c]'(by omega)) = lim[c]) :
  ((lN γ pl.dropLast).map λp=>p.2 * ((b6 (aZ bk ks) p.1:Nat):Int)).sum = ((lN γ pl.dropLast).map λp=>p.2 * L p.1).sum:=by
 have hdl:pl.dropLast.length = lim.length:=by rw [a3p];omega
 rw [EA (λm=>((b6 (aZ bk ks) m:Nat):Int)) λc hc=>u4 hl fe (by omega),EA L λc hc=>u4 hl fe (by omega),hdl]
 refine eM λc hc=>?_
 have hc':=a1l.mp hc
 rw [qW (by omega),hL c hc']
 have h1:=hld c hc'
 by_cases e:((b6 (aZ bk ks) (pl[c]'(by omega)):Nat):Int) = lim[c]
 ·rw [e]
 ·have hb:=fe _ ((o4 (by omega)).mpr (.back hc' (by rw [pV hc' (by omega)];omega)))
  have h2:=u4 hl fe hc'
  have:i7 γ c = 0:=by
   unfold i7 at h2 ⊢
   dsimp only at hb
   omega
  rw [this];simp
end
abbrev p3 (pl:List Int) (many:Nat):List Int:=List.replicate (pl.length - 1) (many:Int)
structure BS (bk:List Sr) (pl:List Int) (many:Nat) (ks:List Int):Prop where
 sm:SmOk ks bk.length
 ld:∀ (c:Nat) (h:c + 1 < pl.length),b6 (aZ bk ks) (pl[c]'(by omega)) <= many
 pot:∃ φ,y8 φ (iN bk pl (p3 pl many) ks)
theorem QH {pl:List Int} {many:Nat} (h:0 < pl.length):(p3 pl many).length + 1 = pl.length:=by
 rw [a1t];omega
theorem qA {pl:List Int} {many c:Nat} (h:c < (p3 pl many).length):(p3 pl many)[c] = (many:Int):=List.getElem_replicate ..
section
variable {bk:List Sr} {pl ks:List Int} {many:Nat} {γ:Nat -> Int}
theorem BS.claim (h:BS bk pl many ks) (hP:PlOk bk pl) (fe:y8 γ (iN bk pl (p3 pl many) ks)):dF bk (many:Int) (lN γ pl.dropLast) = lP (aZ bk ks) /\ ((lN γ pl.dropLast).map (·.2)).sum = γ (pl.length - 1) - γ 0:=by
 have hl:=QH (many:=many) hP.ne
 have h1:=OZ hP h.sm hl fe
 have hll:(p3 pl many).length = pl.length - 1:=a1t ..
 have h2:=VF (bk:=bk) (ks:=ks) hl fe (λc hc=>by rw [qA];have:=h.ld c (by omega);omega) (λ_=>(many:Int)) (λc hc=>(qA hc).symm)
 have h3:((lN γ pl.dropLast).map λp=>p.2 * (many:Int)).sum = ((lN γ pl.dropLast).map (·.2)).sum * (many:Int):=by
  generalize lN γ pl.dropLast = pp
  induction pp with
  | nil=>simp
  | cons p pp ih=>rw [a0f,a0o,ih,a0f,a0o,Int.add_mul]
 refine ⟨?_,?_⟩
 ·unfold dF
  rw [h1,h2,h3];omega
 ·have h4:=EA (γ:=γ) (sp:=pl.dropLast) (λ_=>1) λc hc=>u4 hl fe (by rw [a3p] at hc;omega)
  have h5:((lN γ pl.dropLast).map λp=>p.2 * 1).sum = ((lN γ pl.dropLast).map (·.2)).sum:=eM λp _=>a6f _
  have h6:((List.range pl.dropLast.length).map λc=>i7 γ c * 1).sum = ((List.range pl.dropLast.length).map (i7 γ)).sum:=eM λc _=>a6f _
  rw [<- h5,h4,h6,S4,a3p]
theorem QB (hP:PlOk bk pl) (hk:SmOk ks bk.length) {b:Nat} (h:∀ (c:Nat) (h:c + 1 < pl.length),b6 (aZ bk ks) (pl[c]'(by omega)) <= b) (m:Int):b6 (aZ bk ks) m <= b:=by
 rcases NF (ms:=pl) (P:=λx=>x <= m) with hn | ⟨x,hx,px,top⟩
 ·rw [DR λs hs z=>hn s.b (hP.mem s (AG hk.at_ hs)).1 z.1];omega
 ·have e:b6 (aZ bk ks) m = b6 (aZ bk ks) x:=zZ λs hs=>oV (by
   obtain ⟨h1,h2,_⟩:=hP.mem s (AG hk.at_ hs)
   have:=top _ h1
   have:=top _ h2
   constructor <;> constructor <;> intro z <;> omega)
  rw [e]
  have hi:=qX hx
  have eg:=JA hx
  by_cases hlast:jV pl x + 1 < pl.length
  ·have:=h _ hlast
   rw [eg] at this;exact this
  ·have:b6 (aZ bk ks) x = 0:=DR λs hs z=>by
    have hm:=hP.mem s (AG hk.at_ hs)
    have h3:=qX hm.2.1
    have:=(hP.le hm.2.1 hi).mp (by omega)
    rw [eg] at this
    omega
   omega
theorem BS.next (h:BS bk pl many ks) (hP:PlOk bk pl) (fe:y8 γ (iN bk pl (p3 pl many) ks)) {ls:Ls} {p:List Rd} (hv:∀ w r,gt ls w = some r -> r.v = w) (hw:Way ls 0 (pl.length - 1) p) (hp:p.Nodup) (hin:∀ r ∈ p,r ∈ iN bk pl (p3 pl many) ks /\ γ r.v = γ r.u + r.g) :
  BS bk pl (many + 1) (aS (qT ks (p.filterMap Rd.k))) /\ lP (aZ bk (aS (qT ks (p.filterMap Rd.k)))) = lP (aZ bk ks) + (γ (pl.length - 1) - γ 0):=by
 have hne:=hP.ne
 have hll:(p3 pl many).length = pl.length - 1:=a1t ..
 have hll':(p3 pl (many + 1)).length = pl.length - 1:=a1t ..
 have his:∀ r ∈ p,RdIs bk pl (p3 pl many) ks r:=λr hr=>(o4 (by omega)).mp (hin r hr).1
 have sm':=SA h.sm (qD his)
 have ldc:∀ (c:Nat) (hc:c + 1 < pl.length),((b6 (aZ bk (aS (qT ks (p.filterMap Rd.k)))) (pl[c]'(by omega)):Nat):Int) = (b6 (aZ bk ks) (pl[c]'(by omega)):Nat) + 1 - ((if (⟨c,c + 1,0,none⟩ : Rd) ∈ p then 1 else 0) - (if (⟨c + 1,c,0,none⟩ : Rd) ∈ p then 1 else 0)):=by
  intro c hc
  have:=ZM hP h.sm hp his (c:=c) (by omega)
  rw [O5 hv hw c] at this
  rw [this]
  have s1:wW c (pl.length - 1) = 1:=by unfold wW;rw [if_neg (by omega)]
  have s0:wW c 0 = 0:=by unfold wW;rw [if_pos (by omega)]
  rw [s1,s0];omega
 have room:∀ c,(⟨c + 1,c,0,none⟩ : Rd) ∈ p -> ∀ hc:c + 1 < pl.length,((b6 (aZ bk ks) (pl[c]'(by omega)):Nat):Int) < many:=by
  intro c hm hc
  have hi:=his _ hm
  generalize hr:(⟨c + 1,c,0,none⟩ : Rd) = r at hi
  cases hi with
  | @ahead i _=>injection hr with z1 z2;omega
  | @back i hi' hroom =>
   injection hr with z1 z2
   subst z2
   rw [pV hi' (by omega),qA] at hroom
   omega
  | @str j hj=>have:=congrArg Rd.k hr;rw [LY] at this;cases this
 refine ⟨⟨sm',λc hc=>?_,γ,λr hr=>?_⟩,?_⟩
 ·have e:=ldc c hc
  have:=h.ld c hc
  by_cases hb:(⟨c + 1,c,0,none⟩ : Rd) ∈ p
  ·have:=room c hb hc
   rw [if_pos hb] at e
   split at e <;> omega
  ·rw [if_neg hb] at e
   split at e <;> omega
 ·have hr':=(o4 (by omega)).mp hr
  cases hr' with
  | @ahead i hi=>exact fe _ ((o4 (by omega)).mpr (.ahead (by omega)))
  | @back i hi hroom =>
   rw [pV hi (by omega),qA] at hroom
   have hi2:i + 1 < pl.length:=by omega
   have e:=ldc i hi2
   have h1:=h.ld i hi2
   by_cases hfull:b6 (aZ bk ks) (pl[i]'(by omega)) = many
   ·have ha:(⟨i,i + 1,0,none⟩ : Rd) ∈ p:=by
     refine Classical.byContradiction λhna=>?_
     rw [if_neg hna] at e
     have hnb:¬ (⟨i + 1,i,0,none⟩ : Rd) ∈ p:=λhb=>by have:=room i hb hi2;omega
     rw [if_neg hnb] at e
     omega
    have:=(hin _ ha).2
    dsimp only at this ⊢
    omega
   ·exact fe _ ((o4 (by omega)).mpr (.back (by omega) (by rw [pV (by omega) (by omega),qA];omega)))
  | @str j hj =>
   have hold:=fe _ ((o4 (by omega)).mpr (.str (ks:=ks) hj))
   have e:((j:Int) ∈ aS (qT ks (p.filterMap Rd.k))) ↔ (((j:Int) ∈ ks /\ (j:Int) ∉ p.filterMap Rd.k) \/ ((j:Int) ∈ p.filterMap Rd.k /\ (j:Int) ∉ ks)):=by rw [c8,p4]
   by_cases hm:(j:Int) ∈ p.filterMap Rd.k
   ·obtain ⟨r,hrp,hrk⟩:=a3w.mp hm
    have er:=((his r hrp).num hrk).2.2
    rw [a1j] at er
    have ht:=(hin r hrp).2
    rw [er] at ht
    unfold fG at ht ⊢
    by_cases hk:(j:Int) ∈ ks
    ·rw [if_pos hk] at ht
     rw [if_neg (λz=>by rcases e.mp z with y | y <;> simp_all)]
     dsimp only at ht ⊢
     omega
    ·rw [if_neg hk] at ht
     rw [if_pos (e.mpr (.inr ⟨hm,hk⟩))]
     dsimp only at ht ⊢
     omega
   ·unfold fG at hold ⊢
    by_cases hk:(j:Int) ∈ ks
    ·rw [if_pos hk] at hold
     rw [if_pos (e.mpr (.inl ⟨hk,hm⟩))]
     exact hold
    ·rw [if_neg hk] at hold
     rw [if_neg (λz=>by rcases e.mp z with y | y <;> simp_all)]
     exact hold
 ·rw [a43 h.sm hp his]
  congr 1
  have:∀ {v:Nat} {q:List Rd},Way ls 0 v q -> (∀ r ∈ q,γ r.v = γ r.u + r.g) -> (q.map Rd.g).sum = γ v - γ 0:=by
   intro v q hq
   induction hq with
   | base=>intro _;simp
   | @step v r q e w ih =>
    intro ht
    rw [a0f,a0o,ih λr' hr'=>ht r' (a0i _ hr')]
    have:=ht r a0n
    rw [hv v r e] at this
    omega
  exact this hw λr hr=>(hin r hr).2
theorem BS.start (hP:PlOk bk pl) (hw:∀ s ∈ bk,0 <= s.w):BS bk pl 0 []:=by
 refine ⟨⟨.nil,by simp⟩,λc h=>by show b6 [] _ <= 0;exact a0l _,λv=>(bk.map λs=>if jV pl s.e <= v then s.w else 0).sum,λr hr=>?_⟩
 have hne:=hP.ne
 have hll:(p3 pl 0).length = pl.length - 1:=a1t ..
 have mono:∀ {a b:Nat},a <= b -> (bk.map λs=>if jV pl s.e <= a then s.w else 0).sum <= (bk.map λs=>if jV pl s.e <= b then s.w else 0).sum:=by
  intro a b hab
  clear hP hr
  induction bk with
  | nil=>exact a3l _
  | cons s ss ih =>
   rw [a0f,a0o,a0f,a0o]
   have h1:=ih λt ht=>hw t (a0i _ ht)
   have h2:=hw s a0n
   split <;> split <;> omega
 cases (o4 (by omega)).mp hr with
 | @ahead i hi=>dsimp only;have:=mono (show i <= i + 1 by omega);omega
 | @back i hi hroom =>
  rw [pV hi (by omega),qA] at hroom
  have:b6 (aZ bk []) (pl[i]'(by omega)) = 0:=rfl
  omega
 | @str j hj =>
  have hs:=v6 hj
  have hl:=hP.ilt hs
  unfold fG
  rw [if_neg (by simp)]
  dsimp only
  generalize iX bk (j:Int) = s at hs hl
  clear hr hj
  have key:∀ ss:List Sr,(∀ t ∈ ss,0 <= t.w) -> s ∈ ss -> (ss.map λt=>if jV pl t.e <= jV pl s.b then t.w else 0).sum + s.w <= (ss.map λt=>if jV pl t.e <= jV pl s.e then t.w else 0).sum:=by
   intro ss
   induction ss with
   | nil=>intro _ h;cases h
   | cons t ss ih =>
    intro h0 hm
    rw [a0f,a0o,a0f,a0o]
    have m1:(ss.map λt=>if jV pl t.e <= jV pl s.b then t.w else 0).sum <= (ss.map λt=>if jV pl t.e <= jV pl s.e then t.w else 0).sum:=by
     have h0':∀ t ∈ ss,0 <= t.w:=λt ht=>h0 t (a0i _ ht)
     clear ih hm h0
     induction ss with
     | nil=>exact a3l _
     | cons t ss ih =>
      rw [a0f,a0o,a0f,a0o]
      have h1:=ih λt ht=>h0' t (a0i _ ht)
      have h2:=h0' t a0n
      split <;> split <;> omega
    rcases a0q.mp hm with z | z
    ·subst z
     rw [if_neg (by omega),if_pos (a0l _)];omega
    ·have:=ih (λt ht=>h0 t (a0i _ ht)) z
     have h2:=h0 t a0n
     split <;> split <;> omega
  exact key bk hw hs
end
def O9 (gs:Gs) (v:Nat):Int:=(gt gs v).getD 0
section
variable {φ:Nat -> Int} {rs:List Rd} {n:Nat} {Gm:Int} {gs:Gs} {ls:Ls}
theorem mS (h:GI φ rs n 0 Gm gs ls) (hf:X0 gs rs) (ha:∀ i,i + 1 < n -> (⟨i,i + 1,0,none⟩ : Rd) ∈ rs):∀ v,v < n -> gt gs v = some (O9 gs v)
 | 0,_=>by unfold O9;rw [h.st0];rfl
 | v + 1,hv=>by
  have ih:=mS h hf ha v (by omega)
  obtain ⟨b,hb,_⟩:=hf _ (ha v hv) _ ih
  dsimp only at hb
  unfold O9;rw [hb];rfl
theorem FW (h:GI φ rs n 0 Gm gs ls) (hf:X0 gs rs) (ha:∀ i,i + 1 < n -> (⟨i,i + 1,0,none⟩ : Rd) ∈ rs) (hrs:∀ r ∈ rs,r.u < n /\ r.v < n):y8 (O9 gs) rs:=λr hr=>by
 obtain ⟨b,hb,le⟩:=hf r hr _ (mS h hf ha r.u (hrs r hr).1)
 have e:=mS h hf ha r.v (hrs r hr).2
 rw [hb] at e
 injection e with e
 omega
theorem UL (h:GI φ rs n 0 Gm gs ls) (hf:X0 gs rs) (ha:∀ i,i + 1 < n -> (⟨i,i + 1,0,none⟩ : Rd) ∈ rs):Z5 gs = kK ((List.range n).map (O9 gs)):=by
 have:gs.map kM = ((List.range n).map (O9 gs)).map PV.int:=by
  apply a3s
  ·simp [h.lg]
  ·intro i h1 h2
   have hi:i < gs.length:=by simpa using h1
   have hn:i < n:=by rw [<- h.lg];exact hi
   have e:=mS h hf ha i hn
   unfold gt at e
   rw [a0g,a0b hi] at e
   simp only [Option.getD_some] at e
   rw [a5f,e,a5f,a5f,List.getElem_range];rfl
 show PV.lst _ = PV.lst _
 rw [this]
theorem UM (h:GI φ rs n 0 Gm gs ls) (hf:X0 gs rs) (ha:∀ i,i + 1 < n -> (⟨i,i + 1,0,none⟩ : Rd) ∈ rs) (hrs:∀ r ∈ rs,r.u < n /\ r.v < n) (hn:0 < n):∃ p,Way ls 0 (n - 1) p /\ p.Nodup /\ p.length <= n /\ ∀ r ∈ p,r ∈ rs /\ O9 gs r.v = O9 gs r.u + r.g:=by
 obtain ⟨k,hk⟩:=h.ch _ _ (mS h hf ha (n - 1) (by omega))
 obtain ⟨p,hp,_⟩:=a1R hk
 refine ⟨p,hp,(a3q.mp (h.wayNd hp)).imp λhne heq=>hne (congrArg _ heq),h.wayLen hrs hp,λr hr=>?_⟩
 obtain ⟨h1,h2⟩:=h.wayIn hp r hr
 refine ⟨h1,?_⟩
 obtain ⟨_,_,a,b,e1,e2,le⟩:=h.las _ _ h2
 have f:=FW h hf ha hrs r h1
 rw [mS h hf ha r.u (hrs r h1).1] at e1
 rw [mS h hf ha r.v (hrs r h1).2] at e2
 injection e1 with e1
 injection e2 with e2
 omega
end
structure Bst (bk:List Sr) (b:Nat) (ks:List Int) (pp:List Pr):Prop where
 sm:SmOk ks bk.length
 ld:∀ m,b6 (aZ bk ks) m <= b
 cl:dF bk (b:Int) pp = lP (aZ bk ks)
 pr:PpOk pp (λm x=>1 <= x /\ ∃ s ∈ bk,m = s.b \/ m = s.e) (2 * bk.length)
 nx:∃ ks',SmOk ks' bk.length /\ (∀ m,b6 (aZ bk ks') m <= b + 1) /\ dF bk ((b:Int) + 1) pp = lP (aZ bk ks')
theorem zD (bk:List Sr) (b:Int) (pp:List Pr):dF bk (b + 1) pp = dF bk b pp + (pp.map (·.2)).sum:=by
 unfold dF
 rw [Int.mul_add];omega
theorem Bst.nn {bk:List Sr} {b:Nat} {ks:List Int} {pp:List Pr} (h:Bst bk b ks pp):∀ p ∈ pp,0 <= p.2:=λp hp=>by have:=(h.pr.at_ p hp).1;omega
theorem a35 {bk:List Sr} {n:Nat} (hb:∀ s ∈ bk,s.b < s.e):PlOk bk (BM bk):=by
 unfold BM
 split
 ·rename_i e
  have:bk = []:=by
   cases bk with
   | nil=>rfl
   | cons s ss =>
    have:s.b ∈ aS (jK (s :: ss)):=c8.mpr (iT.mpr ⟨s,a0n,.inl rfl⟩)
    rw [e] at this;cases this
  subst this
  exact ⟨by simp,by simp,λs hs=>by cases hs⟩
 ·rename_i e
  refine ⟨jA _,List.length_pos_iff.mpr e,λs hs=>⟨c8.mpr (iT.mpr ⟨s,hs,.inl rfl⟩),c8.mpr (iT.mpr ⟨s,hs,.inr rfl⟩),hb s hs⟩⟩
theorem a0G {bk:List Sr}:(BM bk).length <= 2 * bk.length + 1:=by
 unfold BM
 split
 ·simp
 ·have:=CV (jK bk)
  rw [DS] at this
  omega
theorem a0H {bk:List Sr} {m:Int} (h:m ∈ (BM bk).dropLast):∃ s ∈ bk,m = s.b \/ m = s.e:=by
 unfold BM at h
 split at h
 ·cases h
 ·exact iT.mp (c8.mp (List.dropLast_subset _ h))
theorem a37 {γ:Nat -> Int} {sp:List Int} (lt:sp.Pairwise (· < ·)) {P:Int -> Prop} (hP:∀ m ∈ sp,P m) {n:Nat} (hn:sp.length <= n):PpOk (lN γ sp) (λm x=>1 <= x /\ P m) n:=by
 unfold lN
 refine ⟨?_,λp hp=>?_,?_⟩
 ·rw [a3q]
  refine List.Pairwise.filter _ ?_
  have:(sp.zipIdx.map Prod.fst).Pairwise (· < ·):=by rw [List.zipIdx_map_fst];exact lt
  exact a3q.mp this
 ·obtain ⟨z,hz,rfl⟩:=a0p.mp hp
  obtain ⟨h1,h2⟩:=a2e.mp hz
  have h2:0 < i7 γ z.2:=by simpa using h2
  refine ⟨by dsimp only;omega,hP _ ?_⟩
  have:=List.mem_map_of_mem (f:=Prod.fst) h1
  rw [List.zipIdx_map_fst] at this
  exact this
 ·rw [a0d]
  have:=a4a (λz:Int × Nat=>decide (0 < i7 γ z.2)) sp.zipIdx
  rw [a6i] at this
  omega
theorem P0 (xs:List Int):FD (xs.map PV.int) none (some (-1)) = xs.dropLast.map PV.int:=by
 unfold FD
 rw [HT.sIx_none]
 have:HT.sIx (xs.map PV.int).length (xs.map PV.int).length (some (-1)) = xs.length - 1:=by
  unfold HT.sIx
  simp
  omega
 rw [this,List.dropLast_eq_take,List.drop_zero,Nat.sub_zero,List.map_take]
abbrev Tl:=List Int × List Pr
def WS (z:Tl):PV:=.tup [kK z.1,dS z.2]
theorem ZP {l:List Int} {n:Nat} (nd:l.Nodup) (h:∀ k ∈ l,0 <= k /\ k < (n:Int)):l.length <= n:=by
 have:=QO n (l.map Int.toNat) (by
  rw [List.nodup_iff_pairwise_ne,a3q]
  refine List.Pairwise.imp_of_mem (fun {a b} ha hb hne z=>hne ?_) nd
  have:=h a ha
  have:=h b hb
  omega) λx hx=>by
   obtain ⟨k,hk,rfl⟩:=a0p.mp hx
   have:=h k hk
   omega
 simpa using this
theorem a3K (m:Nat) (x:Int):(List.replicate (m:Int).toNat [PV.int x]).flatten = (List.replicate m x).map PV.int:=by
 rw [a1j,a6g];simp
theorem D4 {bk:List Sr} {B:Nat} {R:PV -> Prop} (hb:bk.length <= 31) (hlt:∀ s ∈ bk,s.b < s.e) (hw:∀ s ∈ bk,0 <= s.w) (hB:B <= 100)
  (q:∀ tl:List Tl,tl.length = B + 1 -> (∀ (j:Nat) (h:j < tl.length),Bst bk j tl[j].1 tl[j].2) -> R (.lst (tl.map WS))):cD [o6 bk,.int B] R:=by
 unfold cD
 have hP:PlOk bk (BM bk):=a35 (n:=0) hlt
 have hpl:=a0G (bk:=bk)
 walk_at "w"
 refine F7 hb ?_
 generalize hpe:BM bk = pl at hP hpl ⊢
 have hne:=hP.ne
 walk_at "w"
 refine ⟨by omega,by omega,?_⟩
 refine fV (λi env=>∃ (ks:List Int) (tl:List Tl) (t5 t6 t7 t8:Option PV),env = [some (o6 bk),some (.int B),some (kK pl),some (kK ks),some (.lst (tl.map WS)),t5,t6,t7,t8] /\ BS bk pl i ks /\ tl.length = i /\ ∀ (j:Nat) (h:j < tl.length),Bst bk j tl[j].1 tl[j].2) ⟨[],[],none,none,none,none,rfl,BS.start hP hw,rfl,λj h=>by cases h⟩ ?_ ?_
 ·rintro i x env N hx ⟨ks,tl,t5,t6,t7,t8,rfl,bs,hti,hall⟩ hN
  obtain ⟨rfl,hi⟩:=g8 hx
  have hkl:=bs.sm.len
  have x0:(0:Int) + (i:Int) = i:=by omega
  rw [x0]
  walk_at "w"
  have hmap:(pl.map PV.int).length = pl.length:=a0d ..
  have e1:((pl.map PV.int).length:Int) - 1 = ((pl.length - 1:Nat):Int):=by rw [hmap];omega
  refine ⟨by omega,by omega,cJ (by rw [e1];simp;omega),?_⟩
  rw [e1,a3K]
  have hll:(p3 pl i).length = pl.length - 1:=a1t ..
  walk_at "w"
  refine IS hb (by omega) hP.nd (λs hs=>⟨(hP.mem s hs).1,(hP.mem s hs).2.1⟩) (by omega) bs.sm.at_ (lim:=p3 pl i) ?_
  walk_at "w"
  obtain ⟨φ,hφ⟩:=bs.pot
  have hrs:∀ r ∈ iN bk pl (p3 pl i) ks,r.u < pl.length /\ r.v < pl.length:=λr hr=>RdIs.lt hP (by omega) ((o4 (by omega)).mp hr)
  have ha:∀ j,j + 1 < pl.length -> (⟨j,j + 1,0,none⟩ : Rd) ∈ iN bk pl (p3 pl i) ks:=λj hj=>(o4 (by omega)).mpr (.ahead (by omega))
  rw [hmap]
  refine vS hφ hrs (st:=0) hne (by omega) λgs ls Gm gi fx=>?_
  have hγ:=FW gi fx ha hrs
  obtain ⟨p,hp,pnd,plen,pin⟩:=UM gi fx ha hrs hne
  have his:∀ r ∈ p,RdIs bk pl (p3 pl i) ks r:=λr hr=>(o4 (by omega)).mp (pin r hr).1
  obtain ⟨bn,wn⟩:=bs.next hP hγ (λw r e=>(gi.las w r e).2.1) hp pnd pin
  obtain ⟨c1,c2⟩:=bs.claim hP hγ
  rw [UL gi fx ha]
  walk_at "w"
  refine ⟨rfl,?_⟩
  walk_at "w"
  refine ⟨rfl,?_⟩
  walk_at "w"
  rw [P0]
  refine F8 (by omega) (by rw [a3p];omega) ?_
  walk_at "w"
  refine ⟨qG (by rw [a0d];omega),?_⟩
  walk_at "w"
  have e2:(λ(i j:Int)=>PV.int (i - j)) ((pl.map PV.int).length:Int) 1 = .int ((pl.length - 1:Nat):Int):=by dsimp only;rw [e1]
  rw [e2]
  refine yC hp gi.stl (by rw [gi.ll];omega) (λr hr=>by rw [gi.ll];exact (hrs r (pin r hr).1).1) (by omega) ?_
  walk_at "w"
  have nl:=ZP (E3 pnd his) (qD his)
  refine D5 (by omega) (by omega) ?_
  walk_at "w"
  have et:(tl ++ [(ks,lN (O9 gs) pl.dropLast)]).map WS = tl.map WS ++ [.tup [kK ks,dS (lN (O9 gs) pl.dropLast)]]:=by rw [a1c];rfl
  refine hN _ ⟨_,tl ++ [(ks,lN (O9 gs) pl.dropLast)],_,_,_,_,by rw [et],bn,by simp [hti],λj hj=>?_⟩
  have hlen:(tl ++ [(ks,lN (O9 gs) pl.dropLast)]).length = i + 1:=by simp [hti]
  by_cases hji:j < tl.length
  ·rw [List.getElem_append_left hji];exact hall j hji
  ·have ej:j = tl.length:=by omega
   subst ej
   rw [List.getElem_append_right (a0l _)]
   simp only [Nat.sub_self,List.getElem_cons_zero]
   rw [hti]
   refine ⟨bs.sm,QB hP bs.sm bs.ld,c1,a37 (hP.lt.sublist (List.dropLast_sublist _)) (λm hm=>a0H (by rw [hpe];exact hm)) (by rw [a3p];omega),_,bn.sm,QB hP bn.sm bn.ld,?_⟩
   rw [zD,c1,c2,wn]
 ·rintro env ⟨ks,tl,t5,t6,t7,t8,rfl,bs,hti,hall⟩
  walk_at "w"
  rw [bS] at hti
  exact q tl (by omega) hall
theorem AH (bk:List Sr):aZ bk ((List.range bk.length).map λ(i:Nat)=>(i:Int)) = bk:=by
 unfold aZ
 apply a3s
 ·simp
 ·intro i h1 h2
  rw [a5f,a5f,List.getElem_range,v5 h2]
theorem NE {bk:List Sr} {ks:List Int} (h:SmOk ks bk.length) (m:Int):b6 (aZ bk ks) m <= b6 bk m:=by
 have e1:=DQ (aZ bk ks) m
 have e2:=DQ bk m
 rw [pM h] at e1
 rw [ON] at e2
 have:∀ l:List Nat,(l.map λ(j:Nat)=>if (j:Int) ∈ ks then (if aY (iX bk (j:Int)) m then (1:Int) else 0) else 0).sum <= (l.map λ(j:Nat)=>if aY (iX bk (j:Int)) m then (1:Int) else 0).sum:=by
  intro l
  induction l with
  | nil=>exact a3l _
  | cons j l ih =>
   rw [a0f,a0o,a0f,a0o]
   split <;> split <;> omega
 have:=this (List.range bk.length)
 omega
theorem yB {bk:List Sr} {R:PV -> Prop} (hb:bk.length <= 31) (hlt:∀ s ∈ bk,s.b < s.e) (q:∀ G f,Crowd bk G f -> R (.int (G:Nat))):bA [o6 bk] R:=by
 unfold bA
 walk_at "w"
 have hm:(bk.map wX).length = bk.length:=a0d ..
 refine ⟨by omega,by omega,?_⟩
 rw [hm,a1j,J8]
 walk_at "w"
 have sm:=K7 bk.length
 refine IP (by simpa using hb) sm.at_ (by rw [AH];exact hlt) λG f hc=>?_
 rw [AH] at hc
 walk_at "w"
 refine kD rfl ?_
 exact q G f hc
theorem Bst.stays {bk:List Sr} {G b:Nat} {f:Option Int} {ks:List Int} {pp:List Pr} (hc:Crowd bk G f) (h:Bst bk G ks pp) (hb:G <= b) (hne:G < b):Bst bk b ks pp:=by
 obtain ⟨ks',s',l',c'⟩:=h.nx
 have h1:=GM (b:=(G:Int)) s' (λm=>by have:=NE s' m;have:=hc.top m;omega) h.nn
 rw [zD,h.cl] at c'
 rw [h.cl] at h1
 have hp:pp = []:=by
  cases pp with
  | nil=>rfl
  | cons p pp =>
   have p1:=(h.pr.at_ p a0n).1
   have:∀ l:List Pr,(∀ p ∈ l,0 <= p.2) -> 0 <= (l.map (·.2)).sum:=by
    intro l
    induction l with
    | nil=>intro _;exact a3l _
    | cons a l ih =>
     intro hl
     have h1:=hl a a0n
     have h2:=ih λp hp=>hl p (a0i _ hp)
     rw [a0f,a0o];omega
   have:=this pp λp hp=>h.nn p (a0i _ hp)
   rw [a0f,a0o] at c'
   omega
 subst hp
 have e:∀ c:Int,dF bk c [] = dF bk (G:Int) []:=λc=>by unfold dF;simp
 exact ⟨h.sm,λm=>a1b (h.ld m) hb,by rw [e];exact h.cl,h.pr,ks,h.sm,λm=>a1b (h.ld m) (by omega),by rw [e];exact h.cl⟩
theorem IO {bk:List Sr} {b:Nat} {R:PV -> Prop} (hb:bk.length <= 31) (hlt:∀ s ∈ bk,s.b < s.e) (hw:∀ s ∈ bk,0 <= s.w) (q:∀ ks pp,Bst bk b ks pp -> R (.tup [kK ks,dS pp])):dG [o6 bk,.int b] R:=by
 unfold dG
 walk_at "w"
 refine yB hb hlt λG f hc=>?_
 have hG:G <= bk.length:=hc.le_of λm=>List.countP_le_length
 walk_at "w"
 have em:min (b:Int) (G:Int) = ((min b G:Nat):Int):=by omega
 rw [em]
 refine D4 hb hlt hw (by omega) λtl hl hall=>?_
 walk_at "w"
 have hlast:=hall (min b G) (by omega)
 refine eZ (z:=WS (tl[min b G]'(by omega))) ?_ ?_
 ·have e:tl = tl.dropLast ++ [tl[min b G]'(by omega)]:=by
   have h1:=(List.dropLast_concat_getLast (l:=tl) (λz=>by rw [z] at hl;cases hl)).symm
   rw [List.getLast_eq_getElem] at h1
   have h2:tl.length - 1 = min b G:=by omega
   simp only [h2] at h1
   exact h1
  have e2:tl.map WS = tl.dropLast.map WS ++ [WS (tl[min b G]'(by omega))]:=by
   have:=congrArg (List.map WS) e
   rw [a1c] at this
   exact this
  rw [e2]
  exact OK _ _
 ·refine q _ _ ?_
  by_cases h:b <= G
  ·have e:min b G = b:=by omega
   simp only [e] at hlast ⊢
   exact hlast
  ·have e:min b G = G:=by omega
   simp only [e] at hlast ⊢
   exact hlast.stays hc (by omega) (by omega)
theorem MF {bk:List Sr} {b:Nat} {R:PV -> Prop} (hb:bk.length <= 31) (hlt:∀ s ∈ bk,s.b < s.e) (hw:∀ s ∈ bk,0 <= s.w) (q:∀ ks pp,Bst bk b ks pp -> R (.tup [.int (lP (aZ bk ks)),kK ks,dS pp])):eI [o6 bk,.int b] R:=by
 unfold eI
 walk_at "w"
 refine IO hb hlt hw λks pp h=>?_
 walk_at "w"
 refine ⟨rfl,?_⟩
 walk_at "w"
 have:=h.sm.len
 refine TN (by omega) h.sm.at_ ?_
 walk_at "w"
 exact q ks pp h
end Lib
set_option maxHeartbeats 4000000
namespace K35
open PySem L2
abbrev gJ:bP:=Lib.gJ
abbrev cL:PN:=Lib.cL
theorem rZ (xs:List PV) (R:PV -> Prop) (h:cL xs R):gJ { nx:=λ_=>bT (.v .fl) R,rt:=R } (aE ["stretch", "moment"] xs):=Lib.rZ xs R h
abbrev dE:bP:=Lib.dE
abbrev bL:PN:=Lib.bL
theorem lL (xs:List PV) (R:PV -> Prop) (h:bL xs R):dE { nx:=λ_=>bT (.o .fl) R,rt:=R } (aE ["book"] xs):=Lib.lL xs R h
abbrev fD:bP:=Lib.fD
abbrev dN:PN:=Lib.dN
theorem oQ (xs:List PV) (R:PV -> Prop) (h:dN xs R):fD { nx:=λ_=>bT (.v .fl) R,rt:=R } (aE ["book", "some"] xs):=Lib.oQ xs R h
abbrev dD:bP:=Lib.dD
abbrev cF:PN:=Lib.cF
theorem lK (xs:List PV) (R:PV -> Prop) (h:cF xs R):dD { nx:=λ_=>bT (.o .fl) R,rt:=R } (aE ["rooms", "ahead", "back"] xs):=Lib.lK xs R h
abbrev c4:bP:=Lib.c4
abbrev bC:PN:=Lib.bC
theorem iJ (xs:List PV) (R:PV -> Prop) (h:bC xs R):c4 { nx:=λ_=>bT (.o .fl) R,rt:=R } (aE ["book", "places", "chosen", "place_of", "roads", "number", "name", "begin", "end", "worth"] xs):=Lib.iJ xs R h
abbrev bQ:bP:=Lib.bQ
abbrev b5:PN:=Lib.b5
theorem gU (xs:List PV) (R:PV -> Prop) (h:b5 xs R):bQ { nx:=λ_=>bT (.v .sn) R,rt:=R } (aE ["roads", "many", "start", "gains", "last_roads", "better", "road", "before", "goal", "gain", "number"] xs):=Lib.gU xs R h
abbrev c0:bP:=Lib.c0
abbrev bB:PN:=Lib.bB
theorem iI (xs:List PV) (R:PV -> Prop) (h:bB xs R):c0 { nx:=λ_=>bT (.o .fl) R,rt:=R } (aE ["last_roads", "goal", "numbers", "reached", "gain", "number"] xs):=Lib.iI xs R h
abbrev dC:bP:=Lib.dC
abbrev cE:PN:=Lib.cE
theorem lJ (xs:List PV) (R:PV -> Prop) (h:cE xs R):dC { nx:=λ_=>bT (.o .fl) R,rt:=R } (aE ["chosen", "numbers"] xs):=Lib.lJ xs R h
abbrev dZ:bP:=Lib.dZ
abbrev cP:PN:=Lib.cP
theorem mP (xs:List PV) (R:PV -> Prop) (h:cP xs R):dZ { nx:=λ_=>bT (.o .fl) R,rt:=R } (aE ["gains", "spots", "rises"] xs):=Lib.mP xs R h
abbrev e6:bP:=Lib.e6
abbrev cQ:PN:=Lib.cQ
theorem mQ (xs:List PV) (R:PV -> Prop) (h:cQ xs R):e6 { nx:=λ_=>bT (.v .fl) R,rt:=R } (aE ["paper"] xs):=Lib.mQ xs R h
abbrev vY:PN:=JQ
abbrev aH:PN:=LG
def m6 : bP := (pSeq (pSet 2 (pC (.dic [] [])))
 (pSeq (pFor (piLst (pOp pCat (pVar 0) (pVar 1))) (pgTup 2 (pgCons (pgName 3) (pgCons (pgName 4) pgNil))) (pSeq (pDPut 2 (pOp pAddI (pBm "dict" wH (pVar 2) (pCons (pVar 3) (pCons (pC (.int 0)) pNil))) (pVar 4)) (pVar 3))
 pNext))
 (pRet (pLc (piLst (pCl j4 (pCons (pVar 2) pNil))) (pgName 0) pTrue (pTup (pCons (pVar 0) (pCons (pOp iA (pVar 1) (pVar 0)) pNil))) (λenv=>[none,jn (kL env 2)])))))
abbrev wK : bP := (RD.pSeq (RD.pSet 2 (RD.pC (.dic [] [])))
 (RD.pSeq (RD.pFor (RD.piLst (RD.pOp RD.pCat (RD.pVar 0) (RD.pVar 1))) (RD.pgTup 2 (RD.pgCons (RD.pgName 3) (RD.pgCons (RD.pgName 4) RD.pgNil))) (RD.pSeq (RD.pDPut 2 (RD.pOp RD.pAddI (RD.pBm "dict" wH (RD.pVar 2) (RD.pCons (RD.pVar 3) (RD.pCons (RD.pC (.int 0)) RD.pNil))) (RD.pVar 4)) (RD.pVar 3))
 RD.pNext))
 (RD.pRet (RD.pLc (RD.piLst (RD.pCl j4 (RD.pCons (RD.pVar 2) RD.pNil))) (RD.pgName 0) RD.pTrue (RD.pTup (RD.pCons (RD.pVar 0) (RD.pCons (RD.pOp iA (RD.pVar 1) (RD.pVar 0)) RD.pNil))) (λenv=>[none,jn (kL env 2)])))))
def iG:PN:=λxs R=>match xs with
 | [a0,a1]=>wK { nx:=λ_=>False,rt:=R } [some a0,some a1,none,none,none]
 | _=>False
theorem JZ:wK = m6:=by unfold wK m6;walk_at "rp"
theorem J0 (xs:List PV) (R:PV -> Prop) (h:iG xs R):m6 { nx:=λ_=>bT (.o .fl) R,rt:=R } (aE ["_law_one", "_law_other", "_law_prices", "_law_moment", "_law_price"] xs):=by
 match xs,h with
 | [a0,a1],h=>(delta iG at h;exact (Eq.mp (congrFun (congrFun JZ _) _) h:m6 { nx:=λ_=>False,rt:=R } [some a0,some a1,none,none,none]))
def j6:bP:=(pRet (pFlatL (pLc (piLst (pVar 0)) (pgTup 2 (pgCons (pgName 0) (pgCons (pgName 1) pgNil))) pTrue (pTup (pCons (pVar 0) (pCons (pOp pMulI (pC (.int 2)) (pVar 1)) pNil))) (λenv=>[none,none]))))
abbrev pQ:bP:=(RD.pRet (RD.pFlatL (RD.pLc (RD.piLst (RD.pVar 0)) (RD.pgTup 2 (RD.pgCons (RD.pgName 0) (RD.pgCons (RD.pgName 1) RD.pgNil))) RD.pTrue (RD.pTup (RD.pCons (RD.pVar 0) (RD.pCons (RD.pOp RD.pMulI (RD.pC (.int 2)) (RD.pVar 1)) RD.pNil))) (λenv=>[none,none]))))
def d6:PN:=λxs R=>match xs with
 | [a0]=>pQ { nx:=λ_=>False,rt:=R } [some a0]
 | _=>False
theorem EK:pQ = j6:=by unfold pQ j6;walk_at "rp"
theorem DI (xs:List PV) (R:PV -> Prop) (h:d6 xs R):j6 { nx:=λ_=>bT (.o .fl) R,rt:=R } (aE ["_law_paper_here"] xs):=by
 match xs,h with
 | [a0],h=>(delta d6 at h;exact (Eq.mp (congrFun (congrFun EK _) _) h:j6 { nx:=λ_=>False,rt:=R } [some a0]))
abbrev gL:bP:=Lib.gL
abbrev d4:PN:=Lib.d4
theorem sC (xs:List PV) (R:PV -> Prop) (h:d4 xs R):gL { nx:=λ_=>bT (.v .fl) R,rt:=R } (aE ["book", "some", "moment"] xs):=Lib.sC xs R h
abbrev dY:bP:=Lib.dY
abbrev cO:PN:=Lib.cO
theorem mO (xs:List PV) (R:PV -> Prop) (h:cO xs R):dY { nx:=λ_=>bT (.o .fl) R,rt:=R } (aE ["book"] xs):=Lib.mO xs R h
abbrev gO:bP:=Lib.gO
abbrev eK:PN:=Lib.eK
theorem sF (xs:List PV) (R:PV -> Prop) (h:eK xs R):gO { nx:=λ_=>bT (.v .fl) R,rt:=R } (aE ["stretch", "paper"] xs):=Lib.sF xs R h
abbrev j7:bP:=Lib.j7
abbrev fS:PN:=Lib.fS
theorem w4 (xs:List PV) (R:PV -> Prop) (h:fS xs R):j7 { nx:=λ_=>bT (.v .fl) R,rt:=R } (aE ["_law_state", "_law_k", "_law_letters", "_law_spelt", "_law_j"] xs):=Lib.w4 xs R h
abbrev gK:bP:=Lib.gK
abbrev d3:PN:=Lib.d3
theorem sA (xs:List PV) (R:PV -> Prop) (h:d3 xs R):gK { nx:=λ_=>bT (.o .fl) R,rt:=R } (aE ["_law_state", "_law_book_here", "_law_moments", "_law_name_here", "_law_begin", "_law_end", "_law_worth", "_law_prices", "_law_turn", "_law_moment"] xs):=Lib.sA xs R h
abbrev f9:bP:=Lib.f9
abbrev dI:PN:=Lib.dI
theorem oN (xs:List PV) (R:PV -> Prop) (h:dI xs R):f9 { nx:=λ_=>bT (.o .fl) R,rt:=R } (aE ["book", "some", "steps", "before", "moment", "load"] xs):=Lib.oN xs R h
abbrev fB:bP:=Lib.fB
abbrev dM:PN:=Lib.dM
theorem oP (xs:List PV) (R:PV -> Prop) (h:dM xs R):fB { nx:=λ_=>bT (.o .fl) R,rt:=R } (aE ["book", "places", "limits", "chosen", "rooms"] xs):=Lib.oP xs R h
abbrev gN:bP:=Lib.gN
abbrev eJ:PN:=Lib.eJ
theorem sE (xs:List PV) (R:PV -> Prop) (h:eJ xs R):gN { nx:=λ_=>bT (.v .fl) R,rt:=R } (aE ["stretch", "paper"] xs):=Lib.sE xs R h
abbrev j5:bP:=Lib.j5
abbrev fR:PN:=Lib.fR
theorem vZ (xs:List PV) (R:PV -> Prop) (h:fR xs R):j5 { nx:=λ_=>bT (.o .fl) R,rt:=R } (aE ["_law_state", "_law_most", "_law_size", "_law_unit", "_law_low", "_law_book_here", "_law_k", "_law_begin", "_law_end", "_law_worth", "_law_span"] xs):=Lib.vZ xs R h
abbrev f7:bP:=Lib.f7
abbrev dH:PN:=Lib.dH
theorem oM (xs:List PV) (R:PV -> Prop) (h:dH xs R):f7 { nx:=λ_=>bT (.v .sn) R,rt:=R } (aE ["book", "some", "greatest", "first", "moment", "load"] xs):=Lib.oM xs R h
abbrev dB:bP:=Lib.dB
abbrev cD:PN:=Lib.cD
theorem lI (xs:List PV) (R:PV -> Prop) (h:cD xs R):dB { nx:=λ_=>bT (.o .sn) R,rt:=R } (aE ["book", "benches", "places", "chosen", "told", "many", "roads", "gains", "last_roads"] xs):=Lib.lI xs R h
abbrev fA:bP:=Lib.fA
abbrev dJ:PN:=Lib.dJ
theorem oO (xs:List PV) (R:PV -> Prop) (h:dJ xs R):fA { nx:=λ_=>bT (.v .fl) R,rt:=R } (aE ["book", "paper"] xs):=Lib.oO xs R h
abbrev bZ:bP:=Lib.bZ
abbrev bA:PN:=Lib.bA
theorem iH (xs:List PV) (R:PV -> Prop) (h:bA xs R):bZ { nx:=λ_=>bT (.v .sn) R,rt:=R } (aE ["book"] xs):=Lib.iH xs R h
abbrev l3:bP:=Lib.l3
abbrev cX:PN:=Lib.cX
theorem zJ (xs:List PV) (R:PV -> Prop) (h:cX xs R):l3 { nx:=λ_=>bT (.v .fl) R,rt:=R } (aE ["book", "benches", "paper"] xs):=Lib.zJ xs R h
abbrev f6:bP:=Lib.f6
abbrev dG:PN:=Lib.dG
theorem oK (xs:List PV) (R:PV -> Prop) (h:dG xs R):f6 { nx:=λ_=>bT (.v .sn) R,rt:=R } (aE ["book", "benches"] xs):=Lib.oK xs R h
abbrev gM:bP:=Lib.gM
abbrev eI:PN:=Lib.eI
theorem sD (xs:List PV) (R:PV -> Prop) (h:eI xs R):gM { nx:=λ_=>bT (.v .sn) R,rt:=R } (aE ["book", "benches", "choice", "paper"] xs):=Lib.sD xs R h
def GU : bP := (pSeq (pFor (piRng1 (pCl pMax2 (pCons (pC (.int 1)) (pCons (pCl pMin2 (pCons (pCl pLenScr (pCons (pVar 0) pNil)) (pCons (pC (.int 4)) pNil))) pNil)))) (pgName 1) (pSeq (pSet 2 (pCl vY (pCons (pVar 0) (pCons (pVar 1) pNil))))
 (pSeq (pSet 3 (pCl fR (pCons (pVar 2) (pCons (pC (.int 10)) pNil))))
 (pSeq (pSet 4 (pLc (piRng1 (pC (.int 7))) (pgName 0) pTrue (pCl eI (pCons (pVar 1) (pCons (pVar 0) pNil))) (λenv=>[none,jn (kL env 3)])))
 (pSeq (pSet 5 (pLst (pCons (pCl d3 (pCons (pVar 2) (pCons (pVar 3) pNil))) (pCons (pCl d3 (pCons (pVar 2) (pCons (pVar 3) pNil))) pNil))))
 (pSeq (pSet 6 (pOp pCat (pLc (piLst (pVar 4)) (pgName 0) pTrue (pOp cS (pVar 0) (pC (.int 2))) (λenv=>[none])) (pVar 5)))
 (pSeq (pFor (piRng1 (pC (.int 6))) (pgName 7) (pSeq (pFor (piLst (pVar 6)) (pgName 8) (pSeq (pIfS (pBo (pOp pLtI (pCl cX (pCons (pVar 3) (pCons (pVar 7) (pCons (pVar 8) pNil)))) (pOp cS (pOp cS (pVar 4) (pVar 7)) (pC (.int 0))))) (pRet (pC (.bl false))) pNext)
 pNext))
 (pSeq (pIfS (pBo (pOp pNeI (pCl cX (pCons (pVar 3) (pCons (pVar 7) (pCons (pOp cS (pOp cS (pVar 4) (pVar 7)) (pC (.int 2))) pNil)))) (pOp cS (pOp cS (pVar 4) (pVar 7)) (pC (.int 0))))) (pRet (pC (.bl false))) pNext)
 pNext)))
 (pSeq (pSet 7 (pCl aH (pCons (pVar 2) (pCons (pC (.int 6)) pNil))))
 (pSeq (pSet 9 (pCl aH (pCons (pVar 2) (pCons (pC (.int 8)) pNil))))
 (pSeq (pSet 10 (pCl iG (pCons (pOp cS (pVar 6) (pVar 9)) (pCons (pOp cS (pVar 6) (pOp pAddI (pVar 9) (pC (.int 1)))) pNil))))
 (pSeq (pIfS (pBo (pOp pLeI (pCl pLen (pCons (pVar 10) pNil)) (pC (.int 48)))) (pSeq (pSet 11 (pCl cX (pCons (pVar 3) (pCons (pVar 7) (pCons (pCl d6 (pCons (pOp cS (pVar 6) (pVar 9)) pNil)) pNil)))))
 (pSeq (pSet 11 (pOp pAddI (pVar 11) (pCl cX (pCons (pVar 3) (pCons (pVar 7) (pCons (pCl d6 (pCons (pOp cS (pVar 6) (pOp pAddI (pVar 9) (pC (.int 1)))) pNil)) pNil))))))
 (pSeq (pIfS (pBo (pOp pGtI (pOp pMulI (pC (.int 2)) (pCl cX (pCons (pVar 3) (pCons (pVar 7) (pCons (pVar 10) pNil))))) (pVar 11))) (pRet (pC (.bl false))) pNext)
 pNext))) pNext)
 pNext)))))))))))
 (pRet (pC (.bl true))))
abbrev S1 : bP := (RD.pSeq (RD.pFor (RD.piRng1 (RD.pCl RD.pMax2 (RD.pCons (RD.pC (.int 1)) (RD.pCons (RD.pCl RD.pMin2 (RD.pCons (RD.pCl RD.pLenScr (RD.pCons (RD.pVar 0) RD.pNil)) (RD.pCons (RD.pC (.int 4)) RD.pNil))) RD.pNil)))) (RD.pgName 1) (RD.pSeq (RD.pSet 2 (RD.pCl vY (RD.pCons (RD.pVar 0) (RD.pCons (RD.pVar 1) RD.pNil))))
 (RD.pSeq (RD.pSet 3 (RD.pCl fR (RD.pCons (RD.pVar 2) (RD.pCons (RD.pC (.int 10)) RD.pNil))))
 (RD.pSeq (RD.pSet 4 (RD.pLc (RD.piRng1 (RD.pC (.int 7))) (RD.pgName 0) RD.pTrue (RD.pCl eI (RD.pCons (RD.pVar 1) (RD.pCons (RD.pVar 0) RD.pNil))) (λenv=>[none,jn (kL env 3)])))
 (RD.pSeq (RD.pSet 5 (RD.pLst (RD.pCons (RD.pCl d3 (RD.pCons (RD.pVar 2) (RD.pCons (RD.pVar 3) RD.pNil))) (RD.pCons (RD.pCl d3 (RD.pCons (RD.pVar 2) (RD.pCons (RD.pVar 3) RD.pNil))) RD.pNil))))
 (RD.pSeq (RD.pSet 6 (RD.pOp RD.pCat (RD.pLc (RD.piLst (RD.pVar 4)) (RD.pgName 0) RD.pTrue (RD.pOp cS (RD.pVar 0) (RD.pC (.int 2))) (λenv=>[none])) (RD.pVar 5)))
 (RD.pSeq (RD.pFor (RD.piRng1 (RD.pC (.int 6))) (RD.pgName 7) (RD.pSeq (RD.pFor (RD.piLst (RD.pVar 6)) (RD.pgName 8) (RD.pSeq (RD.pIfS (RD.pBo (RD.pOp RD.pLtI (RD.pCl cX (RD.pCons (RD.pVar 3) (RD.pCons (RD.pVar 7) (RD.pCons (RD.pVar 8) RD.pNil)))) (RD.pOp cS (RD.pOp cS (RD.pVar 4) (RD.pVar 7)) (RD.pC (.int 0))))) (RD.pRet (RD.pC (.bl false))) RD.pNext)
 RD.pNext))
 (RD.pSeq (RD.pIfS (RD.pBo (RD.pOp RD.pNeI (RD.pCl cX (RD.pCons (RD.pVar 3) (RD.pCons (RD.pVar 7) (RD.pCons (RD.pOp cS (RD.pOp cS (RD.pVar 4) (RD.pVar 7)) (RD.pC (.int 2))) RD.pNil)))) (RD.pOp cS (RD.pOp cS (RD.pVar 4) (RD.pVar 7)) (RD.pC (.int 0))))) (RD.pRet (RD.pC (.bl false))) RD.pNext)
 RD.pNext)))
 (RD.pSeq (RD.pSet 7 (RD.pCl aH (RD.pCons (RD.pVar 2) (RD.pCons (RD.pC (.int 6)) RD.pNil))))
 (RD.pSeq (RD.pSet 9 (RD.pCl aH (RD.pCons (RD.pVar 2) (RD.pCons (RD.pC (.int 8)) RD.pNil))))
 (RD.pSeq (RD.pSet 10 (RD.pCl iG (RD.pCons (RD.pOp cS (RD.pVar 6) (RD.pVar 9)) (RD.pCons (RD.pOp cS (RD.pVar 6) (RD.pOp RD.pAddI (RD.pVar 9) (RD.pC (.int 1)))) RD.pNil))))
 (RD.pSeq (RD.pIfS (RD.pBo (RD.pOp RD.pLeI (RD.pCl RD.pLen (RD.pCons (RD.pVar 10) RD.pNil)) (RD.pC (.int 48)))) (RD.pSeq (RD.pSet 11 (RD.pCl cX (RD.pCons (RD.pVar 3) (RD.pCons (RD.pVar 7) (RD.pCons (RD.pCl d6 (RD.pCons (RD.pOp cS (RD.pVar 6) (RD.pVar 9)) RD.pNil)) RD.pNil)))))
 (RD.pSeq (RD.pSet 11 (RD.pOp RD.pAddI (RD.pVar 11) (RD.pCl cX (RD.pCons (RD.pVar 3) (RD.pCons (RD.pVar 7) (RD.pCons (RD.pCl d6 (RD.pCons (RD.pOp cS (RD.pVar 6) (RD.pOp RD.pAddI (RD.pVar 9) (RD.pC (.int 1)))) RD.pNil)) RD.pNil))))))
 (RD.pSeq (RD.pIfS (RD.pBo (RD.pOp RD.pGtI (RD.pOp RD.pMulI (RD.pC (.int 2)) (RD.pCl cX (RD.pCons (RD.pVar 3) (RD.pCons (RD.pVar 7) (RD.pCons (RD.pVar 10) RD.pNil))))) (RD.pVar 11))) (RD.pRet (RD.pC (.bl false))) RD.pNext)
 RD.pNext))) RD.pNext)
 RD.pNext)))))))))))
 (RD.pRet (RD.pC (.bl true))))
def FF:PN:=λxs R=>match xs with
 | [a0]=>S1 { nx:=λ_=>R .non,rt:=R } [some a0,none,none,none,none,none,none,none,none,none,none,none]
 | _=>False
theorem a0Y:S1 = GU:=by unfold S1 GU;walk_at "rp"
theorem Y5 (xs:List PV) (R:PV -> Prop) (h:FF xs R):GU { nx:=λ_=>bT (.v .fl) R,rt:=R } (aE ["_law_script", "_law_k", "_law_state", "_law_book_here", "_law_told", "_law_drawn", "_law_papers", "_law_benches", "_law_paper_here", "_law_at", "_law_single", "_law_ends"] xs):=by
 match xs,h with
 | [a0],h=>(delta FF at h;exact (Eq.mp (congrFun (congrFun a0Y _) _) h:GU { nx:=λ_=>R .non,rt:=R } [some a0,none,none,none,none,none,none,none,none,none,none,none]))
end K35
namespace K35
open PySem L2 Lib
def gC (P:Int -> Bool) (l:List Pr):Int:=((l.filter λp=>P p.1).map (·.2)).sum
theorem bX (P:Int -> Bool) (p:Pr) (l:List Pr):gC P (p :: l) = (if P p.1 then p.2 else 0) + gC P l:=by
 unfold gC
 rw [a2k]
 split
 ·rw [a0f,a0o]
 ·omega
theorem GY (P:Int -> Bool) (a b:List Pr):gC P (a ++ b) = gC P a + gC P b:=by
 induction a with
 | nil=>rw [a3m];show _ = 0 + _;omega
 | cons p a ih=>rw [List.cons_append,bX,bX,ih];omega
theorem NN (P:Int -> Bool) {a b:List Pr} (h:a.Perm b):gC P a = gC P b:=by
 induction h with
 | nil=>rfl
 | cons x _ ih=>rw [bX,bX,ih]
 | swap x y l=>rw [bX,bX,bX,bX];omega
 | trans _ _ h1 h2=>rw [h1,h2]
theorem RI (P:Int -> Bool) {m v:Int}:∀ {kv:List Pr},(kv.map (·.1)).Nodup -> gC P (zX kv m ((iL kv m).getD 0 + v)) = gC P kv + if P m then v else 0:=by
 intro kv
 induction kv with
 | nil =>
  intro _
  rw [show zX [] m ((iL [] m).getD 0 + v) = [(m,0 + v)] from rfl,bX,show gC P [] = 0 from rfl]
  dsimp only
  split <;> omega
 | cons p kv ih =>
  intro hn
  rw [a0f,a1w] at hn
  by_cases h:p.1 = m
  ·have hk:iL (p :: kv) m = some p.2:=by unfold iL;rw [a2b,a2m h];rfl
   have e1:zX (p :: kv) m ((iL (p :: kv) m).getD 0 + v) = (p.1,p.2 + v) :: kv:=by
    unfold zX
    rw [if_pos (by rw [a4d,a2m h];rfl),hk,a0f,if_pos h]
    congr 1
    have:∀ q ∈ kv,(if q.1 = m then (q.1,(some p.2).getD 0 + v) else q) = q:=λq hq=>if_neg λz=>hn.1 (a0p.mpr ⟨q,hq,by rw [z,h]⟩)
    exact (a4p this).trans (List.map_id' kv)
   rw [e1,bX,bX]
   dsimp only
   rw [h]
   split <;> omega
  ·have hk:iL (p :: kv) m = iL kv m:=by unfold iL;rw [a2b,a1f h]
   have e1:zX (p :: kv) m ((iL kv m).getD 0 + v) = p :: zX kv m ((iL kv m).getD 0 + v):=by
    unfold zX
    rw [a4d,a1f h,Bool.false_or]
    split
    ·rw [a0f,if_neg h]
    ·rfl
   rw [hk,e1,bX,bX,ih hn.2];omega
theorem ZG:∀ {kv:List Pr},(kv.map (·.1)).Nodup -> ((kv.map (·.1)).map λm=>(m,(iL kv m).getD 0)) = kv:=by
 intro kv hn
 rw [a2i]
 refine (a4p λp hp=>?_).trans (List.map_id' kv)
 show (p.1,(iL kv p.1).getD 0) = p
 have:iL kv p.1 = some p.2:=by
  induction kv with
  | nil=>cases hp
  | cons q kv ih =>
   rw [a0f,a1w] at hn
   unfold iL
   rw [a2b]
   by_cases e:q.1 = p.1
   ·rw [a2m e]
    rcases a0q.mp hp with z | z
    ·rw [z];rfl
    ·exact absurd (a0p.mpr ⟨p,z,e.symm⟩) hn.1
   ·rw [a1f e]
    rcases a0q.mp hp with z | z
    ·exact absurd (by rw [z]) e
    ·exact ih hn.2 z
 rw [this];rfl
theorem NO (P:Int -> Bool) {kv:List Pr} (hn:(kv.map (·.1)).Nodup):gC P (oW kv) = gC P kv:=by
 refine NN P ?_
 have h:(oW kv).Perm ((kv.map (·.1)).map λm=>(m,(iL kv m).getD 0)):=(cT _).map _
 rw [ZG hn] at h
 exact h
theorem QZ {kv:List Pr} {m d:Int} {Q:PV -> Prop} (q:Q (.int ((iL kv m).getD d))):wH (MS kv) [.int m,.int d] Q:=by
 show Q ((FN (kv.map λp=>(.inl p.1:cK)) (kv.map λp=>PV.int p.2) (.inl m)).getD (.int d))
 rw [KZ]
 cases e:iL kv m with
 | none=>rw [e] at q;exact q
 | some z=>rw [e] at q;exact q
theorem ME {pa pb:List Pr} {R:PV -> Prop} (la:pa.length <= 20) (lb:pb.length <= 20) (ha:∀ p ∈ pa,1 <= p.2) (hb:∀ p ∈ pb,1 <= p.2)
  (q:∀ pp:List Pr,(∀ p ∈ pp,0 <= p.2) -> pp.length <= 40 -> (∀ P,gC P pp = gC P pa + gC P pb) -> R (dS pp)):iG [dS pa,dS pb] R:=by
 unfold iG
 walk_at "w"
 refine ⟨cJ (by simp;omega),?_⟩
 rw [<- a1c]
 walk_at "w"
 refine fV (λi env=>∃ (kv:List Pr) (t3 t4:Option PV),env = [some (dS pa),some (dS pb),some (MS kv),t3,t4] /\ KvOk kv (λ_ v=>0 <= v) i /\ ∀ P,gC P kv = gC P ((pa ++ pb).take i)) ⟨[],_,_,rfl,.nil,λP=>rfl⟩ ?_ ?_
 ·rintro i x env N hx ⟨kv,t3,t4,rfl,hk,hs⟩ hN
  rw [a0h,a0u] at hx
  obtain ⟨⟨m,v⟩,hp,rfl⟩:=hx
  have hi:=(a0k.mp hp).1
  rw [a1d] at hi
  have hkl:=hk.len
  have v1:1 <= v:=by
   rcases a1g.mp (a0x hp) with z | z
   ·exact ha _ z
   ·exact hb _ z
  show RD.pgTup 2 _ (.tup [.int m,.int v]) _ _
  walk_at "w"
  refine ⟨rfl,?_⟩
  walk_at "w"
  refine ⟨rfl,?_⟩
  walk_at "w"
  show wH (MS kv) [.int m,.int 0] _
  refine QZ ?_
  walk_at "w"
  refine ⟨by rw [a0d];omega,?_⟩
  rw [LN]
  have k0:0 <= (iL kv m).getD 0:=by
   cases e:iL kv m with
   | none=>exact a3l _
   | some z =>
    unfold iL at e
    rw [a0u] at e
    obtain ⟨p,h1,rfl⟩:=e
    exact hk.at_ p (List.mem_of_find?_eq_some h1)
  refine hN _ ⟨_,_,_,rfl,hk.put (by omega),λP=>?_⟩
  rw [RI P hk.nd,hs,a1o,hp]
  show _ = gC P (_ ++ [(m,v)])
  rw [GY]
  congr 1
  rw [bX,show gC P [] = 0 from rfl]
  show _ = (if P m then v else 0) + 0
  omega
 ·rintro env ⟨kv,t3,t4,rfl,hk,hs⟩
  rw [a0d] at hk hs
  rw [a1z] at hs
  have hkl:=hk.len
  rw [a1d] at hkl
  walk_at "w"
  refine AC (by omega) ?_
  walk_at "w"
  refine ⟨cJ (by rw [a0d,(cT _).length_eq,a0d];omega),?_⟩
  refine CI ?_
  have so:=hk.sort
  exact q _ so.at_ (by have:=so.len;rw [a1d] at this;omega) λP=>by rw [NO P hk.nd,hs,GY]
def FL (pp:List Pr):List Pr:=pp.map λp=>(p.1,2 * p.2)
theorem xC {pp:List Pr} {R:PV -> Prop} (hl:pp.length <= 100) (q:R (dS (FL pp))):d6 [dS pp] R:=by
 unfold d6
 walk_at "w"
 refine ⟨cJ (by rw [a0d];omega),?_⟩
 refine k8 (λi acc env=>acc = (FL (pp.take i)).map RB /\ ∃ t1 t2,env = [t1,t2]) ⟨rfl,_,_,rfl⟩ ?_ ?_
 ·rintro i x acc env N hx ⟨rfl,t1,t2,rfl⟩ hN
  rw [a0h,a0u] at hx
  obtain ⟨⟨m,v⟩,hp,rfl⟩:=hx
  show RD.pgTup 2 _ (.tup [.int m,.int v]) _ _
  walk_at "w"
  refine ⟨rfl,?_⟩
  walk_at "w"
  refine ⟨.inl ⟨by decide,by decide⟩,?_⟩
  refine hN _ _ ⟨?_,_,_,rfl⟩
  rw [a1o,hp];simp [FL,RB]
 ·rintro acc env ⟨rfl,t1,t2,rfl⟩
  rw [a0d,a1z]
  walk_at "w"
  exact ⟨FS _,q⟩
theorem uW (P:Int -> Bool) (pp:List Pr):gC P (FL pp) = 2 * gC P pp:=by
 induction pp with
 | nil=>rfl
 | cons p pp ih =>
  show gC P ((p.1,2 * p.2) :: FL pp) = _
  rw [bX,bX,ih]
  dsimp only
  split <;> omega
theorem wY (s:Sr) (pp:List Pr):kG s pp = gC (aY s) pp:=rfl
theorem B2 (pp:List Pr):(pp.map (·.2)).sum = gC (λ_=>true) pp:=by
 unfold gC
 rw [List.filter_eq_self.mpr λ_ _=>rfl]
theorem Y2 {bk:List Sr} {b:Int} {pa pb pp:List Pr} (h:∀ P,gC P pp = gC P pa + gC P pb):2 * dF bk b pp <= dF bk b (FL pa) + dF bk b (FL pb):=by
 unfold dF
 rw [B2,B2,B2,h,uW,uW]
 have e:2 * jQ bk pp <= jQ bk (FL pa) + jQ bk (FL pb):=by
  unfold jQ
  induction bk with
  | nil=>simp
  | cons s bk ih =>
   simp only [a0f,a0o]
   have:2 * gE s pp <= gE s (FL pa) + gE s (FL pb):=by
    unfold gE
    rw [wY,wY,wY,h,uW,uW]
    omega
   omega
 generalize gC (λ_=>true) pa = x
 generalize gC (λ_=>true) pb = y
 rw [Int.add_mul,Int.mul_assoc,Int.mul_assoc]
 omega
abbrev Tl:=List Int × List Pr
def tV (bk:List Sr) (t:Tl):PV:=.tup [.int (lP (aZ bk t.1)),kK t.1,dS t.2]
structure PkOk (pp:List Pr):Prop where
 len:pp.length <= 20
 pos:∀ p ∈ pp,1 <= p.2
theorem ZJ:∀ ns:List Int,ns.length <= 63 -> FF [.scr ns] λr=>r = .bl true:=by
 intro ns hns
 unfold FF
 walk_at "w"
 refine ⟨by omega,?_⟩
 refine ⟨by omega,?_⟩
 refine DJ (λenv=>∃ t1 t2 t3 t4 t5 t6 t7 t8 t9 ta tb,env = [some (.scr ns),t1,t2,t3,t4,t5,t6,t7,t8,t9,ta,tb]) ⟨_,_,_,_,_,_,_,_,_,_,_,rfl⟩ ?_ ?_
 ·rintro x env N hx ⟨t1,t2,t3,t4,t5,t6,t7,t8,t9,ta,tb,rfl⟩ hN
  obtain ⟨i,rfl,i0,i1⟩:=A1 hx
  walk_at "w"
  refine ⟨by omega,by omega,?_⟩
  walk_at "w"
  refine OW (n:=10) (by omega) λbk hb=>?_
  have hlen:=hb.len
  have hlt:∀ s ∈ bk,s.b < s.e:=λt ht=>by
   obtain ⟨i,hi,e⟩:=a1v ht
   exact (hb.at_ i t (by rw [a0b hi,e])).lt
  have hw0:∀ s ∈ bk,0 <= s.w:=λt ht=>by
   obtain ⟨i,hi,e⟩:=a1v ht
   exact (hb.at_ i t (by rw [a0b hi,e])).w0
  walk_at "w"
  refine ⟨by decide,by decide,?_⟩
  refine ⟨by rw [bS];exact cJ (by decide),?_⟩
  refine k8 (λi acc env=>∃ tl:List Tl,acc = tl.map (tV bk) /\ tl.length = i /\ (∀ (j:Nat) (h:j < tl.length),Bst bk j tl[j].1 tl[j].2) /\ ∃ t,env = [t,some (o6 bk)]) ⟨[],rfl,rfl,λj h=>(by cases h),_,rfl⟩ ?_ ?_
  ·rintro j x acc env N2 hx ⟨tl,rfl,hl,hat,t,rfl⟩ hN2
   obtain ⟨rfl,hj⟩:=g8 hx
   rw [show (0:Int) + (j:Int) = ((j:Nat):Int) by omega]
   walk_at "w"
   refine MF (by omega) hlt hw0 λks pp hB=>?_
   refine hN2 _ _ ⟨tl ++ [(ks,pp)],by rw [a1c];rfl,by simp [hl],λi hi=>?_,_,rfl⟩
   by_cases h:i < tl.length
   ·rw [List.getElem_append_left h];exact hat i h
   ·have:i = tl.length:=by rw [a1d,a5a] at hi;omega
    subst this
    rw [List.getElem_append_right (a0l _)]
    simp only [Nat.sub_self,List.getElem_cons_zero]
    rw [hl];exact hB
  rintro acc env ⟨tl,rfl,hl,hat,t,rfl⟩
  rw [bS] at hl
  have hl7:tl.length = 7:=hl
  walk_at "w"
  refine C7 hb (by omega) λd1 hd1=>?_
  walk_at "w"
  refine C7 hb (by omega) λd2 hd2=>?_
  walk_at "w"
  refine ⟨cJ (by rw [a0d];omega),?_⟩
  refine k8 (λi acc env=>acc = (tl.take i).map (λt=>dS t.2) /\ ∃ t,env = [t]) ⟨rfl,_,rfl⟩ ?_ ?_
  ·rintro j x acc env N2 hx ⟨rfl,t,rfl⟩ hN2
   rw [a0h,a0u] at hx
   obtain ⟨u,hu,rfl⟩:=hx
   walk_at "w"
   refine kD (xs:=[.int (lP (aZ bk u.1)),kK u.1,dS u.2]) CZ ?_
   refine hN2 _ _ ⟨?_,_,rfl⟩
   rw [a1o,hu];simp
  rintro acc env ⟨rfl,t,rfl⟩
  rw [a0d,a1z]
  have epp:tl.map (λt=>dS t.2) ++ [dS d1,dS d2] = (tl.map (·.2) ++ [d1,d2]).map dS:=by rw [a1c,a2i];rfl
  generalize hpps:tl.map (·.2) ++ [d1,d2] = pps at epp
  have hpl:pps.length = 9:=by rw [<- hpps];simp [hl7]
  have hpk:∀ pp ∈ pps,PkOk pp:=λpp h=>by
   rw [<- hpps] at h
   rcases a1g.mp h with z | z
   ·obtain ⟨u,hu,rfl⟩:=a0p.mp z
    obtain ⟨j,hj,rfl⟩:=a1v hu
    have hB:=hat j hj
    exact ⟨by have:=hB.pr.len;omega,λp hp=>(hB.pr.at_ p hp).1⟩
   ·simp only [a0q,a1y,a3u] at z
    rcases z with rfl | rfl
    ·exact ⟨by have:=hd1.len;omega,λp hp=>(hd1.at_ p hp).v0⟩
    ·exact ⟨by have:=hd2.len;omega,λp hp=>(hd2.at_ p hp).v0⟩
  walk_at "w"
  refine ⟨cJ (by simp [hl7]),?_⟩
  rw [epp]
  have ixT:∀ (j:Nat) (h:j < tl.length),lD (tl.map (tV bk)) (j:Int) = some (tV bk tl[j]):=λj h=>by
   unfold lD yR
   rw [if_pos (by omega),if_pos (by rw [a0d];omega)]
   show (tl.map (tV bk))[((j:Nat):Int).toNat]? = _
   rw [a1j,a0h,a0b h];rfl
  have jV:∀ (j:Nat) (h:j < pps.length),lD (pps.map dS) (j:Int) = some (dS pps[j]):=λj h=>by
   unfold lD yR
   rw [if_pos (by omega),if_pos (by rw [a0d];omega)]
   show (pps.map dS)[((j:Nat):Int).toNat]? = _
   rw [a1j,a0h,a0b h];rfl
  walk_at "w"
  refine ⟨by decide,by decide,?_⟩
  refine DJ (λenv=>∃ t7 t8,env = [some (.scr ns),some (.int i),some .st,some (o6 bk),some (.lst (tl.map (tV bk))),some (.lst [dS d1,dS d2]),some (.lst (pps.map dS)),t7,t8,t9,ta,tb]) ⟨_,_,rfl⟩ ?_ ?_
  ·rintro x env N2 hx ⟨t7,t8,rfl⟩ hN2
   obtain ⟨b,rfl,b0,b1⟩:=A1 hx
   obtain ⟨b,rfl⟩ : ∃ j:Nat,b = (j:Int):=⟨b.toNat,by omega⟩
   have hbl:b < tl.length:=by omega
   have hB:=hat b hbl
   walk_at "w"
   refine DJ (λenv=>∃ t8,env = [some (.scr ns),some (.int i),some .st,some (o6 bk),some (.lst (tl.map (tV bk))),some (.lst [dS d1,dS d2]),some (.lst (pps.map dS)),some (.int (b:Int)),t8,t9,ta,tb]) ⟨_,rfl⟩ ?_ ?_
   ·rintro x env N3 hx ⟨t8,rfl⟩ hN3
    obtain ⟨pp,hpp,rfl⟩:=a0p.mp hx
    have hk:=hpk pp hpp
    have hkl:=hk.len
    have nn:∀ p ∈ pp,0 <= p.2:=λp hp=>by have:=hk.pos p hp;omega
    walk_at "w"
    refine tP (by omega) (by omega) nn b0 (by omega) ?_
    walk_at "w"
    refine eZ (ixT b hbl) ?_
    refine kD (xs:=[.int (lP (aZ bk tl[b].1)),kK tl[b].1,dS tl[b].2]) yZ ?_
    walk_at "w"
    have nb:=GM (b:=(b:Int)) hB.sm (λm=>by have:=hB.ld m;omega) nn
    refine OS (λh=>absurd nb (by have:dF bk (b:Int) pp < lP (aZ bk tl[b].1):=h;omega)) λ_=>?_
    exact hN3 _ ⟨_,rfl⟩
   ·rintro env ⟨t8,rfl⟩
    have hBl:=hB.pr.len
    walk_at "w"
    refine eZ (ixT b hbl) ?_
    refine kD (xs:=[.int (lP (aZ bk tl[b].1)),kK tl[b].1,dS tl[b].2]) CZ ?_
    refine tP (by omega) (by omega) hB.nn b0 (by omega) ?_
    walk_at "w"
    refine eZ (ixT b hbl) ?_
    refine kD (xs:=[.int (lP (aZ bk tl[b].1)),kK tl[b].1,dS tl[b].2]) yZ ?_
    walk_at "w"
    refine a1Y (λh=>absurd hB.cl h) λ_=>?_
    exact hN2 _ ⟨_,_,rfl⟩
  rintro env ⟨t7,t8,rfl⟩
  walk_at "w"
  refine ⟨by decide,by decide,λb b0 b1=>?_⟩
  walk_at "w"
  refine ⟨by decide,by decide,λat_ a0 a1=>?_⟩
  obtain ⟨at_,rfl⟩ : ∃ j:Nat,at_ = (j:Int):=⟨at_.toNat,by omega⟩
  have h1:at_ < pps.length:=by omega
  have h2:at_ + 1 < pps.length:=by omega
  have ix2:lD (pps.map dS) ((at_:Int) + 1) = some (dS pps[at_ + 1]):=by
   rw [show (at_:Int) + 1 = ((at_ + 1:Nat):Int) by omega];exact jV _ h2
  have k1:=hpk _ (a1x h1)
  have k2:=hpk _ (a1x h2)
  have e1:=jV _ h1
  generalize pps[at_] = pa at e1 k1
  generalize pps[at_ + 1] = pb at ix2 k2
  have l1:=k1.len
  have l2:=k2.len
  walk_at "w"
  refine eZ e1 ?_
  walk_at "w"
  refine eZ ix2 ?_
  refine ME l1 l2 k1.pos k2.pos λpp nn hpl2 hsum=>?_
  walk_at "w"
  refine OS (λh=>?_) λ_=>?_
  ·walk_at "w"
   refine eZ e1 ?_
   refine xC (by omega) ?_
   refine tP (by omega) (by unfold FL;rw [a0d];omega) (λp hp=>by
    unfold FL at hp
    obtain ⟨r,hr,rfl⟩:=a0p.mp hp
    have:=k1.pos r hr
    dsimp only;omega) b0 (by omega) ?_
   walk_at "w"
   refine eZ ix2 ?_
   refine xC (by omega) ?_
   refine tP (by omega) (by unfold FL;rw [a0d];omega) (λp hp=>by
    unfold FL at hp
    obtain ⟨r,hr,rfl⟩:=a0p.mp hp
    have:=k2.pos r hr
    dsimp only;omega) b0 (by omega) ?_
   walk_at "w"
   refine tP (by omega) (by omega) nn b0 (by omega) ?_
   walk_at "w"
   refine ⟨.inl ⟨by decide,by decide⟩,?_⟩
   walk_at "w"
   have cv:=Y2 (bk:=bk) (b:=b) hsum
   refine OS (λh=>absurd cv (by have:dF bk b (FL pa) + dF bk b (FL pb) < 2 * dF bk b pp:=h;omega)) λ_=>?_
   exact hN _ ⟨_,_,_,_,_,_,_,_,_,_,_,rfl⟩
  ·exact hN _ ⟨_,_,_,_,_,_,_,_,_,_,_,rfl⟩
 ·rintro env ⟨t1,t2,t3,t4,t5,t6,t7,t8,t9,ta,tb,rfl⟩
  rfl
end K35
set_option maxHeartbeats 4000000
local macro_rules | `(tactic| walk_at "lk") => `(tactic| with_reducible first | assumption | exact L2.bK | (apply L2.lk_ne; (walk_at "ne"); (walk_at "lk")))
local macro_rules | `(tactic| walk_at "ne") => `(tactic| with_reducible first | assumption | exact Ne.symm (by assumption) | (apply L2.ne_new; assumption; (walk_at "lk")) | (apply Ne.symm; apply L2.ne_new; assumption; (walk_at "lk")))
local macro_rules | `(tactic| walk_at "at") => `(tactic| with_reducible first | exact L2.yZ | exact L2.CY | exact L2.CZ | exact L2.IK | exact L2.at_b | exact L2.at_e | exact L2.at_w | exact L2.at_n | assumption)
local macro_rules | `(tactic| walk_at "side") => `(tactic| first | assumption | omega | (apply L2.Y0 <;> omega) | (apply L2.Y1 <;> omega) | (apply L2.TR; omega; first | assumption | (apply L2.a2P; omega)))
local macro_rules | `(tactic| walk_at "len") => `(tactic| first | assumption | omega | (simp only [List.length_cons, List.length_nil, List.length_append]; omega))
local macro_rules | `(tactic| walk_at "st1") => `(tactic| with_reducible first
  | refine L2.step ?_
  | (apply L2.a51;(walk_at "side"))
  | (apply L2.W8;(walk_at "lk");(walk_at "at"))
  | (apply L2.rIxTp_s;(walk_at "lk");(walk_at "at"))
  | (apply L2.iteT) | (apply L2.iteF) | (apply L2.iteNT_s) | (apply L2.iteNF_s)
  | (apply L2.a2L;(walk_at "len"))
  | (apply L2.a11;(walk_at "lk")) | (apply L2.a12;(walk_at "lk")) | (apply L2.a13;(walk_at "lk"))
  | (apply L2.gTup2_s;(walk_at "lk")) | (apply L2.gTup3_s;(walk_at "lk")) | (apply L2.gTup4_s;(walk_at "lk"))
  | (apply L2.LS;assumption) | (apply L2.rLenL_s;(walk_at "lk")) | (apply L2.rLenT_s;(walk_at "lk"))
  | (apply L2.rListOfL_s;(walk_at "lk"))
  | (apply L2.tyL_s;(walk_at "lk"))
  | (apply L2.rAppend_s;(walk_at "lk");(apply L2.lenT_s;(walk_at "len")))
  | (apply L2.sl13_s;(walk_at "lk"))
  | (apply L2.rCat_s;(walk_at "lk");(walk_at "lk");(apply L2.lenL_s;(walk_at "len")))
  | (apply L2.exfl_s;(walk_at "lk"))
  | (apply L2.exacc_s;(walk_at "lk");(walk_at "len"))
  | (apply L2.rListR_s;(walk_at "lk");omega)
  | (apply L2.rAddS_s;(apply L2.lenL_s;omega)))
local macro_rules | `(tactic| walk_at "st") => `(tactic| (repeat walk_at "st1"))
local macro_rules | `(tactic| walk_at "but") => `(tactic| with_reducible (repeat (first | assumption | exact L2.But.refl | refine L2.But.put_of ?_ | (refine L2.But.new_of ?_ (by assumption)) | (refine L2.But.own_of ?_ (by assumption)))))
local macro_rules | `(tactic| walk_at "same") => `(tactic| with_reducible (repeat (first | assumption | exact L2.Same.refl _ | (refine L2.Same.new_of ?_ (by assumption)))))
local macro_rules | `(tactic| walk_at "tups") => `(tactic| with_reducible (repeat (first | assumption | exact L2.Tups.refl | (refine L2.Tups.new_of ?_ (by assumption)) | (apply L2.Tups.put_of; rotate_left; (walk_at "lk")))))
local macro_rules | `(tactic| walk_at "n") => `(tactic| exact L2.a2R (by first | exact Or.inl (by decide +kernel) | exact Or.inr (by decide +kernel)) rfl (by decide +kernel) (by decide +kernel))
local macro_rules | `(tactic| walk_at "d") => `(tactic| (refine' L2.Y4 ?da ?dl ?dc ?dk; (case da => k_is); (case dl => k_is); (case dc => k_is); (case dk => k_is)))
namespace K35
open PySem L2
def top (i:Nat):Stmt:=PySem.Challenge.pw_benchworth_k35_whole_papers_above_the_mo.main.body.getD i (.Pass ⟨0,0,0,0⟩)
structure Txt (K:PySem.W.Frag) (mg:Str -> Option Value):Prop where
 b_enumerate:mg "enumerate" = none
 b_int:mg "int" = none
 b_len:mg "len" = none
 b_list:mg "list" = none
 b_max:mg "max" = none
 b_min:mg "min" = none
 b_range:mg "range" = none
 b_set:mg "set" = none
 b_sorted:mg "sorted" = none
 b_sum:mg "sum" = none
 b_zip:mg "zip" = none
theorem a5I {X:Cx} {md:List Md} {e:Expr} {pe:b8} (h:VE X md e (.c .fl) pe):VE X md e (.p .fl) pe:=gS h rfl
theorem a5V {X:Cx} {md:List Md} {e:Expr} {pe:b8} (h:VE X md e (.c .fl) pe):VE X md e .bw pe:=gS h rfl
theorem T2 {X:Cx} {md:List Md} {e:Expr} {pe:b8} (h:VE X md e (.o .fl) pe):VE X md e (.p .fl) pe:=gS h rfl
theorem ZI {X:Cx} {md:List Md} {e:Expr} {pe:b8} (h:VE X md e (.o .fl) pe):VE X md e .bw pe:=gS h rfl
theorem a5J {X:Cx} {md:List Md} {e:Expr} {pe:b8} (h:VE X md e (.o .sh) pe):VE X md e (.p .sh) pe:=gS h rfl
theorem a2K {X:Cx} {md:List Md} {e:Expr} {pe:b8} (h:VE X md e (.o .sh) pe):VE X md e .bw pe:=gS h rfl
theorem a5K {X:Cx} {md:List Md} {e:Expr} {pe:b8} (h:VE X md e (.o .sn) pe):VE X md e (.p .sn) pe:=gS h rfl
theorem a5W {X:Cx} {md:List Md} {e:Expr} {pe:b8} (h:VE X md e (.p .fl) pe):VE X md e (.p .sh) pe:=gS h rfl
theorem IF {X:Cx} {md:List Md} {e:Expr} {pe:b8} (h:VE X md e (.p .fl) pe):VE X md e .bw pe:=gS h rfl
theorem a5X {X:Cx} {md:List Md} {e:Expr} {pe:b8} (h:VE X md e (.p .sh) pe):VE X md e .bw pe:=gS h rfl
theorem Q5 {X:Cx} {md:List Md} {e:Expr} {pe:b8} (h:VE X md e (.v .fl) pe):VE X md e (.p .fl) pe:=gS h rfl
theorem aC {X:Cx} {md:List Md} {e:Expr} {pe:b8} (h:VE X md e (.v .fl) pe):VE X md e .bw pe:=gS h rfl
theorem sL {X:Cx} {md:List Md} {e:Expr} {pe:b8} (h:VE X md e (.v .sh) pe):VE X md e (.p .sh) pe:=gS h rfl
theorem aQ {X:Cx} {md:List Md} {e:Expr} {pe:b8} (h:VE X md e (.v .sh) pe):VE X md e .bw pe:=gS h rfl
theorem DP {X:Cx} {md:List Md} {e:Expr} {pe:b8} (h:VE X md e (.v .sn) pe):VE X md e (.p .sn) pe:=gS h rfl
theorem a4T {X:Cx} {md:List Md} {e:Expr} {pe:b8} (h:VE X md e (.v .sn) pe):VE X md e (.v .sh) pe:=gS h rfl
theorem yM {X:Cx} {md:List Md} {e:Expr} {pe:b8} (h:VE X md e (.v .sn) pe):VE X md e .bw pe:=gS h rfl
theorem G2 {X:Cx} {md:List Md} {e:Expr} {pe:b8} (h:VE X md e (.z .fl) pe):VE X md e (.v .sn) pe:=gS h rfl
theorem a4U {X:Cx} {md:List Md} {e:Expr} {pe:b8} (h:VE X md e (.z .fl) pe):VE X md e .bw pe:=gS h rfl
theorem ZH {X:Cx} {md:List Md} {e:Expr} {pe:b8} (h:VE X md e (.z .sn) pe):VE X md e (.p .sn) pe:=gS h rfl
theorem jX {X:Cx} {md:List Md} {e:Expr} {i:Nat} (h:QE X e (gH i)) (hm:md.getD i .no = (.v .fl)):VE X md e (.v .fl) (pVar i):=aK h hm rfl
theorem d5 {X:Cx} {md:List Md} {e:Expr} {i:Nat} (h:QE X e (gH i)) (hm:md.getD i .no = (.v .sh)):VE X md e (.v .sh) (pVar i):=aK h hm rfl
theorem RZ {X:Cx} {md:List Md} {e:Expr} {i:Nat} (h:QE X e (gH i)) (hm:md.getD i .no = (.v .sn)):VE X md e (.v .sn) (pVar i):=aK h hm rfl
theorem a3I {X:Cx} {md:List Md} {e:Expr} {i:Nat} (h:QE X e (gH i)) (hm:md.getD i .no = (.z .fl)):VE X md e (.z .fl) (pVar i):=aK h hm rfl
theorem a49 {X:Cx} {md:List Md} {e:Expr} {i:Nat} (h:QE X e (gH i)) (hm:md.getD i .no = (.z .sn)):VE X md e (.z .sn) (pVar i):=aK h hm rfl
theorem a5M {X:Cx} {md:List Md} {e:Expr} {i:Nat} (h:QE X e (gH i)) (hm:md.getD i .no = .scr):VE X md e .scr (pVar i):=aK h hm rfl
theorem B5 {X:Cx} {md:List Md} {e:Expr} {i:Nat} (h:QE X e (gH i)) (hm:md.getD i .no = .st):VE X md e .st (pVar i):=aK h hm rfl
theorem FG:(("_law_begun" : Str) == ("__debug__" : Str)) = false:=by decide +kernel
theorem IW:(("_law_book" : Str) == ("__debug__" : Str)) = false:=by decide +kernel
theorem qV:(("_law_doubled" : Str) == ("__debug__" : Str)) = false:=by decide +kernel
theorem FH:(("_law_mixed" : Str) == ("__debug__" : Str)) = false:=by decide +kernel
theorem IZ:(("_law_name" : Str) == ("__debug__" : Str)) = false:=by decide +kernel
theorem xE:(("_law_paper" : Str) == ("__debug__" : Str)) = false:=by decide +kernel
theorem b7:(("_law_take" : Str) == ("__debug__" : Str)) = false:=by decide +kernel
theorem DB:(("best_for" : Str) == ("__debug__" : Str)) = false:=by decide +kernel
theorem zG:(("best_up_to" : Str) == ("__debug__" : Str)) = false:=by decide +kernel
theorem zH:(("changed_by" : Str) == ("__debug__" : Str)) = false:=by decide +kernel
theorem lV:(("claim" : Str) == ("__debug__" : Str)) = false:=by decide +kernel
theorem DC:(("crowd_of" : Str) == ("__debug__" : Str)) = false:=by decide +kernel
theorem zI:(("free_roads" : Str) == ("__debug__" : Str)) = false:=by decide +kernel
theorem rY:(("greatest_gains" : Str) == ("__debug__" : Str)) = false:=by decide +kernel
theorem tU:(("greatest_load" : Str) == ("__debug__" : Str)) = false:=by decide +kernel
theorem oI:(("is_over" : Str) == ("__debug__" : Str)) = false:=by decide +kernel
theorem xF:(("load_at" : Str) == ("__debug__" : Str)) = false:=by decide +kernel
theorem DE:(("loads_of" : Str) == ("__debug__" : Str)) = false:=by decide +kernel
theorem oJ:(("moments_of" : Str) == ("__debug__" : Str)) = false:=by decide +kernel
theorem FI:(("most_of" : Str) == ("__debug__" : Str)) = false:=by decide +kernel
theorem tW:(("numbers_along" : Str) == ("__debug__" : Str)) = false:=by decide +kernel
theorem B8:(("places_of" : Str) == ("__debug__" : Str)) = false:=by decide +kernel
theorem B9:(("prices_by" : Str) == ("__debug__" : Str)) = false:=by decide +kernel
theorem BA:(("prices_of" : Str) == ("__debug__" : Str)) = false:=by decide +kernel
theorem FJ:(("rest_of" : Str) == ("__debug__" : Str)) = false:=by decide +kernel
theorem DF:(("rests_of" : Str) == ("__debug__" : Str)) = false:=by decide +kernel
theorem DG:(("roads_of" : Str) == ("__debug__" : Str)) = false:=by decide +kernel
theorem tX:(("stretch_roads" : Str) == ("__debug__" : Str)) = false:=by decide +kernel
theorem FK:(("toll_of" : Str) == ("__debug__" : Str)) = false:=by decide +kernel
theorem DH:(("worth_of" : Str) == ("__debug__" : Str)) = false:=by decide +kernel
section
variable {P:Program} {w:World} {K:PySem.W.Frag} {mg:Str -> Option Value} {base:Heap}
abbrev m8:Stmt:=top 1
abbrev vO:List Str:=["stretch", "moment"]
theorem AR:FnScope vO ["stretch", "moment"] (a8 m8):=⟨rfl,rfl,rfl,by decide +kernel,rfl,by decide +kernel,by decide +kernel⟩
theorem xK:NV vO "is_over" m8 "stretch" 0:=by walk_at "n"
theorem G8:NV vO "is_over" m8 "moment" 1:=by walk_at "n"
abbrev jY (P:Program) (w:World) (K:PySem.W.Frag) (mg:Str -> Option Value) (base:Heap):Prop:=Cal P w K mg base 1 "is_over" ["stretch", "moment"] (o9 K [.bw,.bw] (.v .fl) cL)
theorem JH (D:Df K mg "is_over" m8) (T:Txt K mg)  : jY P w K mg base :=
 have sc:=AR
 i6 (p:=gJ) (mn:=[.no,.no]) rZ D AR (λ_ _ _ _ _ _ us hl=>match us,hl with | [_,_],_=>rfl) rfl rfl rfl λf cdv A outer s H E hr =>
 (aX (cB (SS RO EE a5N a5O (aQ (aL (sL (d5 xK.h rfl)) (aC aB) (λ_ _=>rfl))) (aQ (d5 G8.h rfl)) (aQ (aL (sL (d5 xK.h rfl)) (aC aB) (λ_ _=>rfl)))) rfl))
abbrev fK:Stmt:=top 2
abbrev tL:List Str:=["book"]
theorem rE:FnScope tL ["book"] (a8 fK):=⟨rfl,rfl,rfl,by decide +kernel,rfl,by decide +kernel,by decide +kernel⟩
theorem AA:NV tL "moments_of" fK "book" 0:=by walk_at "n"
theorem oU:GL fK "sorted" := by decide +kernel
abbrev iR (P:Program) (w:World) (K:PySem.W.Frag) (mg:Str -> Option Value) (base:Heap):Prop:=Cal P w K mg base 1 "moments_of" ["book"] (o9 K [.bw] (.o .fl) bL)
theorem BK (D:Df K mg "moments_of" fK) (T:Txt K mg)  : iR P w K mg base :=
 have sc:=rE
 i6 (p:=dE) (mn:=[.no]) lL D rE (λ_ _ _ _ _ _ us hl=>match us,hl with | [_],_=>rfl) rfl rfl rfl λf cdv A outer s H E hr =>
 (aX (cB (KD (N':=["stretch", "moment"]) (n:=2) (cap:=[]) (mb:=[(.v .sh),.no]) (m2:=[(.v .sh),.no]) (λ_=>rfl) rfl (show LcOk ["book"] (a8 fK) _ _ _ _ from ⟨by rfl,by decide +kernel,by decide +kernel,by decide +kernel,by decide +kernel,by decide +kernel,by decide +kernel,by rfl⟩) rfl rfl oU T.b_sorted (fY (d5 AA.h rfl)) (λ_ _ _ _=>(aU (dU (i:=0) (by decide +kernel) rfl (by decide +kernel)) rfl (by decide))) (λ_ _ _ _=>eE) (λ_ _ _ _=>a3Y (m1:=[(.v .sh),(.v .sh)]) (m2:=[(.v .sh),(.v .sh)]) rfl rfl rfl rfl (a1N (SU (sL (aK (m:=(.v .sh)) (bD (i:=0) rfl (by decide +kernel) (by decide +kernel) (by decide +kernel)) rfl rfl)) (vJ (aC aB)) (vJ (aC aB)))) (aU (dU (i:=1) (by decide +kernel) rfl (by decide +kernel)) rfl (by decide)) eE (a1I rfl rfl (aQ (aK (m:=(.v .sh)) (bD (i:=1) rfl (by decide +kernel) (by decide +kernel) (by decide +kernel)) rfl rfl))))) rfl))
abbrev gG:Stmt:=top 8
abbrev rS:List Str:=["book", "some"]
theorem y0:FnScope rS ["book", "some"] (a8 gG):=⟨rfl,rfl,rfl,by decide +kernel,rfl,by decide +kernel,by decide +kernel⟩
theorem E2:NV rS "worth_of" gG "some" 1:=by walk_at "n"
theorem vX:(a8 gG).names.lookup (Str.ofString "book") = some NameKind.cell:=by decide +kernel
theorem yL:GL gG "sum" := by decide +kernel
abbrev oF (P:Program) (w:World) (K:PySem.W.Frag) (mg:Str -> Option Value) (base:Heap):Prop:=Cal P w K mg base 1 "worth_of" ["book", "some"] (o9 K [.bw,.bw] (.v .fl) dN)
theorem GT (D:Df K mg "worth_of" gG) (T:Txt K mg)  : oF P w K mg base :=
 have sc:=y0
 i6 (p:=fD) (mn:=[.no,.no]) oQ D y0 (λ_ _ _ _ _ _ us hl=>match us,hl with | [_,_],_=>rfl) rfl rfl rfl λf cdv A outer s H E hr =>
 (aX (cB (bW (ED rfl) yU yL T.b_sum D3 (a7 (a2K (o5 (N':=["number", "book"]) (n:=1) (cap:=[0]) (mb:=[(.v .sh),(.v .sh)]) (λ_=>rfl) rfl (show LcOk rS (a8 gG) _ _ _ _ from ⟨by rfl,by decide +kernel,by decide +kernel,by decide +kernel,by decide +kernel,by decide +kernel,by decide +kernel,by rfl⟩) rfl rfl (fY (d5 E2.h rfl)) (λ_ _ _ _=>(aU (dU (i:=0) (by decide +kernel) rfl (by decide +kernel)) rfl (by decide))) (λ_ _ _ _=>eE) (λ_ _ _ _=>(aL (sL (aL (sL (aK (m:=(.v .sh)) (gD (i:=1) rfl (by decide +kernel) rfl vX (by decide +kernel) (by decide +kernel)) rfl rfl)) (aQ (aK (m:=(.v .sh)) (bD (i:=0) rfl (by decide +kernel) (by decide +kernel) (by decide +kernel)) rfl rfl)) (λ_ _=>rfl))) (aC aB) (λ_ _=>rfl))))) aA) D2 D1) rfl))
abbrev bU:Stmt:=top 11
abbrev fH:List Str:=["rooms", "ahead", "back"]
theorem rD:FnScope fH ["rooms"] (a8 bU):=⟨rfl,rfl,rfl,by decide +kernel,rfl,by decide +kernel,by decide +kernel⟩
theorem pD:NV fH "free_roads" bU "rooms" 0:=by walk_at "n"
theorem pE:NV fH "free_roads" bU "ahead" 1:=by walk_at "n"
theorem pF:NV fH "free_roads" bU "back" 2:=by walk_at "n"
theorem u7:GL bU "len" := by decide +kernel
theorem qN:GL bU "range" := by decide +kernel
theorem lY:GL bU "enumerate" := by decide +kernel
abbrev lA (P:Program) (w:World) (K:PySem.W.Frag) (mg:Str -> Option Value) (base:Heap):Prop:=Cal P w K mg base 1 "free_roads" ["rooms"] (o9 K [.bw] (.o .fl) cF)
theorem BJ (D:Df K mg "free_roads" bU) (T:Txt K mg)  : lA P w K mg base :=
  have sc:=rD
  i6 (p:=dD) (mn:=[.no,.no,.no]) lK D rD (λ_ _ _ _ _ _ us hl=>match us,hl with | [_],_=>rfl) rfl rfl rfl λf cdv A outer s H E hr =>
  (a9 (pY (i:=1) (N':=["at"]) (n:=1) (cap:=[]) (mb:=[(.v .fl)]) sc.nd rfl pE.lo rfl (.inl rfl) rfl (by decide) (λ_=>rfl) rfl (show LcOk fH (a8 bU) _ _ _ _ from ⟨by rfl,by decide +kernel,by decide +kernel,by decide +kernel,by decide +kernel,by decide +kernel,by decide +kernel,by rfl⟩) rfl rfl (fM qN T.b_range (aC (bW iW jR u7 T.b_len k3 (a7 (aQ (d5 pD.h rfl)) aA) lG lE))) (λ_ _ _ _=>(aU (dU (i:=0) (by decide +kernel) rfl (by decide +kernel)) rfl (by decide))) (λ_ _ _ _=>eE) (λ_ _ _ _=>(eO .fl (a7 (aK (m:=(.v .fl)) (bD (i:=0) rfl (by decide +kernel) (by decide +kernel) (by decide +kernel)) rfl rfl) (a7 (bO bM nT (aC (aK (m:=(.v .fl)) (bD (i:=0) rfl (by decide +kernel) (by decide +kernel) (by decide +kernel)) rfl rfl)) (aC aB)) (a7 aB (a7 nV aA)))) rfl)))
 (a9 (pY (i:=2) (N':=["at", "room"]) (n:=2) (cap:=[]) (mb:=[(.v .sh),(.v .sh)]) sc.nd rfl pF.lo rfl (.inl rfl) rfl (by decide) (λ_=>rfl) rfl (show LcOk fH (a8 bU) _ _ _ _ from ⟨by rfl,by decide +kernel,by decide +kernel,by decide +kernel,by decide +kernel,by decide +kernel,by decide +kernel,by rfl⟩) rfl rfl (EX lY T.b_enumerate (d5 pD.h rfl)) (λ_ _ _ _=>(eP (n:=2) rfl (aD (aU (dU (i:=0) (by decide +kernel) rfl (by decide +kernel)) rfl (by decide)) (aD (aU (dU (i:=1) (by decide +kernel) rfl (by decide +kernel)) rfl (by decide)) cY)))) (λ_ _ _ _=>(vL (fQ pN a1T (aQ (aK (m:=(.v .sh)) (bD (i:=1) rfl (by decide +kernel) (by decide +kernel) (by decide +kernel)) rfl rfl)) (aC aB) (eC _)))) (λ_ _ _ _=>(eO .sh (a7 (bO bM nT (aQ (aK (m:=(.v .sh)) (bD (i:=0) rfl (by decide +kernel) (by decide +kernel) (by decide +kernel)) rfl rfl)) (aC aB)) (a7 (aK (m:=(.v .sh)) (bD (i:=0) rfl (by decide +kernel) (by decide +kernel) (by decide +kernel)) rfl rfl) (a7 aB (a7 nV aA)))) rfl)))
 (aX (cB (vI (B4 (a5W (aP (el:=.fl) pE.h rfl)) (a5J (a1L (aP (el:=.sh) pF.h rfl) (aC (pX (aC aB))))))) rfl))))
abbrev aM:Stmt:=top 12
abbrev aT:List Str:=["book", "places", "chosen", "place_of", "roads", "number", "name", "begin", "end", "worth"]
theorem mC:FnScope aT ["book", "places", "chosen"] (a8 aM):=⟨rfl,rfl,rfl,by decide +kernel,rfl,by decide +kernel,by decide +kernel⟩
theorem uQ:NV aT "stretch_roads" aM "book" 0:=by walk_at "n"
theorem uR:NV aT "stretch_roads" aM "places" 1:=by walk_at "n"
theorem uS:NV aT "stretch_roads" aM "chosen" 2:=by walk_at "n"
theorem dA:NV aT "stretch_roads" aM "place_of" 3:=by walk_at "n"
theorem eR:NV aT "stretch_roads" aM "roads" 4:=by walk_at "n"
theorem eS:NV aT "stretch_roads" aM "number" 5:=by walk_at "n"
theorem uT:NV aT "stretch_roads" aM "name" 6:=by walk_at "n"
theorem hZ:NV aT "stretch_roads" aM "begin" 7:=by walk_at "n"
theorem i3:NV aT "stretch_roads" aM "end" 8:=by walk_at "n"
theorem i4:NV aT "stretch_roads" aM "worth" 9:=by walk_at "n"
theorem eX:GL aM "enumerate" := by decide +kernel
abbrev iD (P:Program) (w:World) (K:PySem.W.Frag) (mg:Str -> Option Value) (base:Heap):Prop:=Cal P w K mg base 1 "stretch_roads" ["book", "places", "chosen"] (o9 K [.bw,.bw,.bw] (.o .fl) bC)
theorem wG (D:Df K mg "stretch_roads" aM) (T:Txt K mg)  : iD P w K mg base :=
  have sc:=mC
  i6 (p:=c4) (mn:=[.no,.no,.no,.no,.no,.no,.no,.no,.no,.no]) iJ D mC (λ_ _ _ _ _ _ us hl=>match us,hl with | [_,_,_],_=>rfl) rfl rfl rfl λf cdv A outer s H E hr =>
  (a9 (SY (i:=3) (N':=["at", "moment"]) (n:=2) (cap:=[]) (mb:=[(.v .sh),(.v .sh)]) sc.nd rfl dA.lo rfl (.inl rfl) rfl (by decide) (λ_=>rfl) rfl (show LcOk aT (a8 aM) _ _ _ _ from ⟨by rfl,by decide +kernel,by decide +kernel,by decide +kernel,by decide +kernel,by decide +kernel,by decide +kernel,by rfl⟩) rfl rfl (EX eX T.b_enumerate (d5 uR.h rfl)) (λ_ _ _ _=>(eP (n:=2) rfl (aD (aU (dU (i:=0) (by decide +kernel) rfl (by decide +kernel)) rfl (by decide)) (aD (aU (dU (i:=1) (by decide +kernel) rfl (by decide +kernel)) rfl (by decide)) cY)))) (λ_ _ _ _=>eE) (λ_ _ _ _=>(aQ (aK (m:=(.v .sh)) (bD (i:=1) rfl (by decide +kernel) (by decide +kernel) (by decide +kernel)) rfl rfl))) (λ_ _ _ _=>(vH (aQ (aK (m:=(.v .sh)) (bD (i:=0) rfl (by decide +kernel) (by decide +kernel) (by decide +kernel)) rfl rfl)))))
 (a9 (b4 (i:=4) sc.nd rfl eR.lo rfl (.inl rfl) (eN .fl aA rfl) rfl (by decide))
 (a9 (iQ a1r rfl rfl (EX eX T.b_enumerate (d5 uQ.h rfl)) (eP (n:=2) rfl (aD (aN (i:=5) sc.nd rfl eS.lo (.inl rfl) rfl (by decide)) (aD (eP (n:=4) rfl (aD (aN (i:=6) sc.nd rfl uT.lo (.inl rfl) rfl (by decide)) (aD (aN (i:=7) sc.nd rfl hZ.lo (.inl rfl) rfl (by decide)) (aD (aN (i:=8) sc.nd rfl i3.lo (.inl rfl) rfl (by decide)) (aD (aN (i:=9) sc.nd rfl i4.lo (.inl rfl) rfl (by decide)) cY))))) cY)))
 (a9 (rJ (fQ (VU hr.units) a14 (aQ (d5 eS.h rfl)) (aQ (d5 uS.h rfl)) (by with_unfolding_all rfl))
 (a9 (qJ a3e a3a a3b jW gR eR.h rfl (a7 (vH (aQ (eO .sh (a7 (qI hr.units (aP (el:=.fl) dA.h rfl) (aQ (d5 i3.h rfl)) (λ_ _=>rfl)) (a7 (qI hr.units (aP (el:=.fl) dA.h rfl) (aQ (d5 hZ.h rfl)) (λ_ _=>rfl)) (a7 (pX (aQ (d5 i4.h rfl))) (a7 (d5 eS.h rfl) aA)))) rfl))) aA))
 aW)
 (a9 (qJ a3e a3a a3b jW gR eR.h rfl (a7 (vH (aQ (eO .sh (a7 (qI hr.units (aP (el:=.fl) dA.h rfl) (aQ (d5 hZ.h rfl)) (λ_ _=>rfl)) (a7 (qI hr.units (aP (el:=.fl) dA.h rfl) (aQ (d5 i3.h rfl)) (λ_ _=>rfl)) (a7 (d5 i4.h rfl) (a7 (d5 eS.h rfl) aA)))) rfl))) aA))
 aW))
 (gI (m1:=[(.v .sh),(.v .sh),(.v .sh),(.o .fl),(.o .fl),.no,.no,.no,.no,.no]) rfl aW)))
 (aX (vK eR.h rfl rfl)))))
abbrev aF:Stmt:=top 14
abbrev aR:List Str:=["roads", "many", "start", "gains", "last_roads", "better", "road", "before", "goal", "gain", "number"]
theorem l6:FnScope aR ["roads", "many", "start"] (a8 aF):=⟨rfl,rfl,rfl,by decide +kernel,rfl,by decide +kernel,by decide +kernel⟩
theorem sO:NV aR "greatest_gains" aF "roads" 0:=by walk_at "n"
theorem kB:NV aR "greatest_gains" aF "many" 1:=by walk_at "n"
theorem sP:NV aR "greatest_gains" aF "start" 2:=by walk_at "n"
theorem b9:NV aR "greatest_gains" aF "gains" 3:=by walk_at "n"
theorem kC:NV aR "greatest_gains" aF "last_roads" 4:=by walk_at "n"
theorem e8:NV aR "greatest_gains" aF "better" 5:=by walk_at "n"
theorem gA:NV aR "greatest_gains" aF "road" 6:=by walk_at "n"
theorem e9:NV aR "greatest_gains" aF "before" 7:=by walk_at "n"
theorem cU:NV aR "greatest_gains" aF "goal" 8:=by walk_at "n"
theorem gB:NV aR "greatest_gains" aF "gain" 9:=by walk_at "n"
theorem qS:NV aR "greatest_gains" aF "number" 10:=by walk_at "n"
abbrev gT (P:Program) (w:World) (K:PySem.W.Frag) (mg:Str -> Option Value) (base:Heap):Prop:=Cal P w K mg base 1 "greatest_gains" ["roads", "many", "start"] (o9 K [.bw,.bw,.bw] (.v .sn) b5)
theorem uU (D:Df K mg "greatest_gains" aF) (T:Txt K mg)  : gT P w K mg base :=
  have sc:=l6
  i6 (p:=bQ) (mn:=[.no,.no,.no,.no,.no,.no,.no,.no,.no,.no,.no]) gU D l6 (λ_ _ _ _ _ _ us hl=>match us,hl with | [_,_,_],_=>rfl) rfl rfl rfl λf cdv A outer s H E hr =>
  (a9 (M9 (i:=3) (j:=4) (m1:=(.o .fl)) (m2:=(.o .fl)) rfl sc.nd rfl rfl (by decide) (show (a8 aF).names.lookup (Str.ofString "gains") = some NameKind.local by decide +kernel) (show (a8 aF).names.lookup (Str.ofString "last_roads") = some NameKind.local by decide +kernel) (KC (T2 (eN .fl (a7 nV aA) rfl)) (aQ (d5 kB.h rfl))) (KC (T2 (eN .fl (a7 nV aA) rfl)) (aQ (d5 kB.h rfl))) rfl rfl rfl (by decide) rfl (by decide))
 (a9 (a1O b9.h rfl aB (aQ (d5 sP.h rfl)))
 (a9 (b4 (i:=5) sc.nd rfl e8.lo rfl (.inl rfl) B3 rfl (by decide))
 (a9 (IC a1r (EY (aC (jX e8.h rfl)))
 (a9 (b4 (i:=5) sc.nd rfl e8.lo rfl (.inl rfl) B3 rfl (by decide))
 (a9 (iQ a1r rfl rfl (fY (d5 sO.h rfl)) (aN (i:=6) sc.nd rfl gA.lo (.inl rfl) rfl (by decide))
 (a9 (wZ (d5 gA.h rfl) (eP (n:=4) rfl (aD (aN (i:=7) sc.nd rfl e9.lo (.inl rfl) rfl (by decide)) (aD (aN (i:=8) sc.nd rfl cU.lo (.inl rfl) rfl (by decide)) (aD (aN (i:=9) sc.nd rfl gB.lo (.inl rfl) rfl (by decide)) (aD (aN (i:=10) sc.nd rfl qS.lo (.inl rfl) rfl (by decide)) cY))))))
 (a9 (rJ (T1 (SZ (fQ AL AZ (aC (aL (aP (el:=.fl) b9.h rfl) (aQ (d5 e9.h rfl)) (λ_ _=>rfl))) (aC nV) (eC _)) (MA (T1 (a41 (fQ VX WC (aC (aL (aP (el:=.fl) b9.h rfl) (aQ (d5 cU.h rfl)) (λ_ _=>rfl))) (aC nV) (eC _)) (a1P (fQ pN a1T (aC (bO bM nT (aC (aL (aP (el:=.fl) b9.h rfl) (aQ (d5 e9.h rfl)) (λ_ _=>rfl))) (aQ (d5 gB.h rfl)))) (aC (aL (aP (el:=.fl) b9.h rfl) (aQ (d5 cU.h rfl)) (λ_ _=>rfl))) (eC _))))))))
 (a9 (WX rfl b9.h rfl kC.h rfl (vH (aQ (eO .sh (a7 (bO bM nT (aC (aL (aP (el:=.fl) b9.h rfl) (aQ (d5 e9.h rfl)) (λ_ _=>rfl))) (aQ (d5 gB.h rfl))) (a7 (d5 gA.h rfl) aA)) rfl))) (aQ (d5 cU.h rfl)) (aQ (d5 cU.h rfl)))
 (a9 (b4 (i:=5) sc.nd rfl e8.lo rfl (.inl rfl) B3 rfl (by decide))
 aW))
 aW)
 (gI (m1:=[(.v .sh),(.v .sh),(.v .sh),(.o .fl),(.o .fl),(.v .fl),.no,.no,.no,.no,.no]) rfl aW))))
 aW)))
 (aX (x8 3 .fl rfl (x8 4 .fl rfl (cB (eO .sn (a7 (G2 (a3I b9.h rfl)) (a7 (G2 (a3I kC.h rfl)) aA)) rfl) rfl))))))))
abbrev bN:Stmt:=top 15
abbrev cN:List Str:=["last_roads", "goal", "numbers", "reached", "gain", "number"]
theorem mB:FnScope cN ["last_roads", "goal"] (a8 bN):=⟨rfl,rfl,rfl,by decide +kernel,rfl,by decide +kernel,by decide +kernel⟩
theorem kX:NV cN "numbers_along" bN "last_roads" 0:=by walk_at "n"
theorem gZ:NV cN "numbers_along" bN "goal" 1:=by walk_at "n"
theorem hV:NV cN "numbers_along" bN "numbers" 2:=by walk_at "n"
theorem uM:NV cN "numbers_along" bN "reached" 3:=by walk_at "n"
theorem uN:NV cN "numbers_along" bN "gain" 4:=by walk_at "n"
theorem hW:NV cN "numbers_along" bN "number" 5:=by walk_at "n"
abbrev iC (P:Program) (w:World) (K:PySem.W.Frag) (mg:Str -> Option Value) (base:Heap):Prop:=Cal P w K mg base 1 "numbers_along" ["last_roads", "goal"] (o9 K [.bw,.bw] (.o .fl) bB)
theorem wF (D:Df K mg "numbers_along" bN) (T:Txt K mg)  : iC P w K mg base :=
  have sc:=mB
  i6 (p:=c0) (mn:=[.no,.no,.no,.no,.no,.no]) iI D mB (λ_ _ _ _ _ _ us hl=>match us,hl with | [_,_],_=>rfl) rfl rfl rfl λf cdv A outer s H E hr =>
  (a9 (b4 (i:=2) sc.nd rfl hV.lo rfl (.inl rfl) (eN .fl aA rfl) rfl (by decide))
 (a9 (IC a1r (fQ AL AZ (aQ (aL (sL (d5 kX.h rfl)) (aQ (d5 gZ.h rfl)) (λ_ _=>rfl))) (aC nV) (eC _))
 (a9 (wZ (aL (sL (d5 kX.h rfl)) (aQ (d5 gZ.h rfl)) (λ_ _=>rfl)) (eP (n:=4) rfl (aD (aN (i:=1) sc.nd rfl gZ.lo (.inl rfl) rfl (by decide)) (aD (aN (i:=3) sc.nd rfl uM.lo (.inl rfl) rfl (by decide)) (aD (aN (i:=4) sc.nd rfl uN.lo (.inl rfl) rfl (by decide)) (aD (aN (i:=5) sc.nd rfl hW.lo (.inl rfl) rfl (by decide)) cY))))))
 (a9 (rJ (fQ AL AZ (aQ (d5 hW.h rfl)) (aC nV) (eC _))
 (a9 (qJ a3e a3a a3b jW gR hV.h rfl (a7 (vH (aQ (d5 hW.h rfl))) aA))
 aW)
 aW)
 (gI (m1:=[(.v .sh),(.v .sh),(.o .fl),.no,.no,.no]) rfl aW))))
 (aX (vK hV.h rfl rfl))))
abbrev eD:Stmt:=top 16
abbrev mM:List Str:=["chosen", "numbers"]
theorem rC:FnScope mM ["chosen", "numbers"] (a8 eD):=⟨rfl,rfl,rfl,by decide +kernel,rfl,by decide +kernel,by decide +kernel⟩
theorem A3:NV mM "changed_by" eD "chosen" 0:=by walk_at "n"
theorem A4:NV mM "changed_by" eD "numbers" 1:=by walk_at "n"
theorem oR:GL eD "sorted" := by decide +kernel
theorem u5:GL eD "set" := by decide +kernel
abbrev l9 (P:Program) (w:World) (K:PySem.W.Frag) (mg:Str -> Option Value) (base:Heap):Prop:=Cal P w K mg base 1 "changed_by" ["chosen", "numbers"] (o9 K [.bw,.bw] (.o .fl) cE)
theorem BI (D:Df K mg "changed_by" eD) (T:Txt K mg)  : l9 P w K mg base :=
 have sc:=rC
 i6 (p:=dC) (mn:=[.no,.no]) lJ D rC (λ_ _ _ _ _ _ us hl=>match us,hl with | [_,_],_=>rfl) rfl rfl rfl λf cdv A outer s H E hr =>
 (aX (cB (KF rfl oR T.b_sorted u5 T.b_set (aQ (d5 A3.h rfl)) (aQ (d5 A4.h rfl))) rfl))
abbrev cI:Stmt:=top 17
abbrev iY:List Str:=["gains", "spots", "rises"]
theorem v9:FnScope iY ["gains", "spots"] (a8 cI):=⟨rfl,rfl,rfl,by decide +kernel,rfl,by decide +kernel,by decide +kernel⟩
theorem qZ:NV iY "prices_by" cI "spots" 1:=by walk_at "n"
theorem rA:NV iY "prices_by" cI "rises" 2:=by walk_at "n"
theorem k6:(a8 cI).names.lookup (Str.ofString "gains") = some NameKind.cell:=by decide +kernel
theorem w9:GL cI "len" := by decide +kernel
theorem sI:GL cI "range" := by decide +kernel
theorem wA:GL cI "zip" := by decide +kernel
abbrev mJ (P:Program) (w:World) (K:PySem.W.Frag) (mg:Str -> Option Value) (base:Heap):Prop:=Cal P w K mg base 1 "prices_by" ["gains", "spots"] (o9 K [.bw,.bw] (.o .fl) cP)
theorem E6 (D:Df K mg "prices_by" cI) (T:Txt K mg)  : mJ P w K mg base :=
  have sc:=v9
  i6 (p:=dZ) (mn:=[.no,.no,.no]) mP D v9 (λ_ _ _ _ _ _ us hl=>match us,hl with | [_,_],_=>rfl) rfl rfl rfl λf cdv A outer s H E hr =>
  (a9 (pY (i:=2) (N':=["at", "gains"]) (n:=1) (cap:=[0]) (mb:=[(.v .fl),(.v .sh)]) sc.nd rfl rA.lo rfl (.inl rfl) rfl (by decide) (λ_=>rfl) rfl (show LcOk iY (a8 cI) _ _ _ _ from ⟨by rfl,by decide +kernel,by decide +kernel,by decide +kernel,by decide +kernel,by decide +kernel,by decide +kernel,by rfl⟩) rfl rfl (fM sI T.b_range (aC (bW iW jR w9 T.b_len k3 (a7 (aQ (d5 qZ.h rfl)) aA) lG lE))) (λ_ _ _ _=>(aU (dU (i:=0) (by decide +kernel) rfl (by decide +kernel)) rfl (by decide))) (λ_ _ _ _=>eE) (λ_ _ _ _=>(bO jP HN (aQ (aL (sL (aK (m:=(.v .sh)) (gD (i:=1) rfl (by decide +kernel) rfl k6 (by decide +kernel) (by decide +kernel)) rfl rfl)) (aC (bO bM nT (aC (aK (m:=(.v .fl)) (bD (i:=0) rfl (by decide +kernel) (by decide +kernel) (by decide +kernel)) rfl rfl)) (aC aB))) (λ_ _=>rfl))) (aQ (aL (sL (aK (m:=(.v .sh)) (gD (i:=1) rfl (by decide +kernel) rfl k6 (by decide +kernel) (by decide +kernel)) rfl rfl)) (aC (aK (m:=(.v .fl)) (bD (i:=0) rfl (by decide +kernel) (by decide +kernel) (by decide +kernel)) rfl rfl)) (λ_ _=>rfl))))))
 (aX (x8 2 .fl rfl (cB (vI (o5 (N':=["spot", "rise"]) (n:=2) (cap:=[]) (mb:=[(.v .sh),(.v .sh)]) (λ_=>rfl) rfl (show LcOk iY (a8 cI) _ _ _ _ from ⟨by rfl,by decide +kernel,by decide +kernel,by decide +kernel,by decide +kernel,by decide +kernel,by decide +kernel,by rfl⟩) rfl rfl (SW wA T.b_zip (d5 qZ.h rfl) (a4T (G2 (a3I rA.h rfl)))) (λ_ _ _ _=>(eP (n:=2) rfl (aD (aU (dU (i:=0) (by decide +kernel) rfl (by decide +kernel)) rfl (by decide)) (aD (aU (dU (i:=1) (by decide +kernel) rfl (by decide +kernel)) rfl (by decide)) cY)))) (λ_ _ _ _=>(vL (fQ pN a1T (aQ (aK (m:=(.v .sh)) (bD (i:=1) rfl (by decide +kernel) (by decide +kernel) (by decide +kernel)) rfl rfl)) (aC aB) (eC _)))) (λ_ _ _ _=>(eO .sh (a7 (aK (m:=(.v .sh)) (bD (i:=0) rfl (by decide +kernel) (by decide +kernel) (by decide +kernel)) rfl rfl) (a7 (aK (m:=(.v .sh)) (bD (i:=1) rfl (by decide +kernel) (by decide +kernel) (by decide +kernel)) rfl rfl) aA)) rfl)))) rfl))))
abbrev gQ:Stmt:=top 27
abbrev xB:List Str:=["paper"]
theorem vA:FnScope xB ["paper"] (a8 gQ):=⟨rfl,rfl,rfl,by decide +kernel,rfl,by decide +kernel,by decide +kernel⟩
theorem BG:NV xB "prices_of" gQ "paper" 0:=by walk_at "n"
theorem wB:GL gQ "sum" := by decide +kernel
abbrev mK (P:Program) (w:World) (K:PySem.W.Frag) (mg:Str -> Option Value) (base:Heap):Prop:=Cal P w K mg base 1 "prices_of" ["paper"] (o9 K [.bw] (.v .fl) cQ)
theorem E7 (D:Df K mg "prices_of" gQ) (T:Txt K mg)  : mK P w K mg base :=
 have sc:=vA
 i6 (p:=e6) (mn:=[.no]) mQ D vA (λ_ _ _ _ _ _ us hl=>match us,hl with | [_],_=>rfl) rfl rfl rfl λf cdv A outer s H E hr =>
 (aX (cB (bW (ED rfl) yU wB T.b_sum D3 (a7 (a2K (o5 (N':=["moment", "price"]) (n:=2) (cap:=[]) (mb:=[(.v .sh),(.v .sh)]) (λ_=>rfl) rfl (show LcOk ["paper"] (a8 gQ) _ _ _ _ from ⟨by rfl,by decide +kernel,by decide +kernel,by decide +kernel,by decide +kernel,by decide +kernel,by decide +kernel,by rfl⟩) rfl rfl (fY (d5 BG.h rfl)) (λ_ _ _ _=>(eP (n:=2) rfl (aD (aU (dU (i:=0) (by decide +kernel) rfl (by decide +kernel)) rfl (by decide)) (aD (aU (dU (i:=1) (by decide +kernel) rfl (by decide +kernel)) rfl (by decide)) cY)))) (λ_ _ _ _=>eE) (λ_ _ _ _=>(aK (m:=(.v .sh)) (bD (i:=1) rfl (by decide +kernel) (by decide +kernel) (by decide +kernel)) rfl rfl)))) aA) D2 D1) rfl))
abbrev eL:Stmt:=top 30
abbrev jS:List Str:=["_law_script", "_law_k", "_law_cell", "_law_number", "_law_seed"]
theorem AS:FnScope jS ["_law_script", "_law_k"] (a8 eL):=⟨rfl,rfl,rfl,by decide +kernel,rfl,by decide +kernel,by decide +kernel⟩
theorem xM:NV jS "_law_begun" eL "_law_script" 0:=by walk_at "n"
theorem kQ:NV jS "_law_begun" eL "_law_k" 1:=by walk_at "n"
theorem kR:NV jS "_law_begun" eL "_law_cell" 2:=by walk_at "n"
theorem iZ:NV jS "_law_begun" eL "_law_number" 3:=by walk_at "n"
theorem xN:NV jS "_law_begun" eL "_law_seed" 4:=by walk_at "n"
theorem zM:GL eL "len" := by decide +kernel
theorem zN:GL eL "max" := by decide +kernel
theorem JI (D:Df K mg "_law_begun" eL) (T:Txt K mg):Cal P w K mg base 1 "_law_begun" ["_law_script", "_law_k"] (LW K):=by
 refine D.ok AS (λ_ _ _ _ _ _ us hl=>match us,hl with | [_,_],_=>rfl) (λvs H Q E h=>?_) (λf cdv A outer s H vs Q E hr h=>?_)
 ·obtain ⟨p,k,ns,rfl,_⟩:=h
  rfl
 ·obtain ⟨p,k,ns,rfl,hS,k0,k1,kk⟩:=h
  have sc:=AS
  refine RK (eG (pO (i:=2) sc.nd rfl kR.lo bH rfl (.inl rfl))
   (eG (RQ (EG EE kQ.h (GZ VP zM T.b_len k3 (l4 xM.h AJ) lG lE) (eC _))
    (qE (pO (i:=2) sc.nd rfl kR.lo (uX VZ xM.h kQ.h (λ_ _=>rfl)) rfl (.inl rfl)))
    EF)
   (eG (pO (i:=3) sc.nd rfl iZ.lo (GZ (JS rfl) zN T.b_max IN (l4 kR.h (l4 (fO jP (a3A LQ bH) kR.h) AJ)) IM IL) rfl (.inl rfl))
   (eG (pO (i:=4) sc.nd rfl xN.lo (fO uY (fO bM (fO bM iZ.h (fO fW (fO fW bH kQ.h) kQ.h)) bH) bH) rfl (.inl rfl))
   (eG (RQ (EG EE iZ.h (fO jO bH bH) (eC _))
    (qE (pO (i:=3) sc.nd rfl iZ.lo bH rfl (.inl rfl)))
    EF)
   (qE (JV (a0N (l4 iZ.h (l4 xN.h (l4 bH AJ))))))))))) ?_
  refine LX (σ:=[some _,some _,none,none,none]) rfl ?_
  walk_at "st"
  have nn:∀ cell:Int,0 <= (if -1 - cell > cell then -1 - cell else cell):=by
   intro cell;split <;> omega
  refine LS hS ?_
  walk_at "st"
  refine UN (λh1=>?_) (λh1=>?_)
  ·have h2:k < ((ns.map V.int).length:Int):=a4f h1
   rw [a0d] at h2
   have h3:k.toNat < ns.length:=by omega
   have e:lD (ns.map V.int) k = some (.int ns[k.toNat]):=dO k0 (by rw [a0h,a0b h3];rfl)
   walk_at "st"
   refine a0V hS e ?_
   walk_at "st"
   have h4:=nn ns[k.toNat]
   refine UN (λh2=>?_) (λh2=>?_)
   all_goals (walk_at "st";intro q hq;exact kk q _ _ _ hq ⟨by first | omega | exact h4,a4t _ (by omega),a3y _ (by omega)⟩)
  ·walk_at "st"
   have h4:=nn 0
   refine UN (λh2=>?_) (λh2=>?_)
   all_goals (walk_at "st";intro q hq;exact kk q _ _ _ hq ⟨by first | omega | exact h4,a4t _ (by omega),a3y _ (by omega)⟩)
abbrev yX (P:Program) (w:World) (K:PySem.W.Frag) (mg:Str -> Option Value) (base:Heap):Prop:=Cal P w K mg base 1 "_law_begun" ["_law_script", "_law_k"] (o9 K [.scr,.bw] .st vY)
abbrev fU:Stmt:=top 31
abbrev lT:List Str:=["_law_state", "_law_many", "_law_found", "_law_made", "_law_turn"]
theorem CU:FnScope lT ["_law_state", "_law_many"] (a8 fU):=⟨rfl,rfl,rfl,by decide +kernel,rfl,by decide +kernel,by decide +kernel⟩
theorem cW:NV lT "_law_take" fU "_law_state" 0:=by walk_at "n"
theorem nD:NV lT "_law_take" fU "_law_many" 1:=by walk_at "n"
theorem A8:NV lT "_law_take" fU "_law_found" 2:=by walk_at "n"
theorem nE:NV lT "_law_take" fU "_law_made" 3:=by walk_at "n"
theorem JG:NV lT "_law_take" fU "_law_turn" 4:=by walk_at "n"
theorem yI:GL fU "range" := by decide +kernel
theorem BC:GL fU "int" := by decide +kernel
def XQ (H:Hp) (p:Addr) (m a:Int) (_:Nat) (σ:St) (H1:Hp):Prop:=∃ (b c made:Int) (tv:Option V),σ = [some (.ref p),some (.int m),none,some (.int made),tv] /\ H1 = c7 H p (T4 a b c) /\ StOk a b c
theorem NM (D:Df K mg "_law_take" fU) (T:Txt K mg):Cal P w K mg base 1 "_law_take" ["_law_state", "_law_many"] SC:=by
 refine D.ok CU (λ_ _ _ _ _ _ us hl=>match us,hl with | [_,_],_=>rfl) (λvs H Q E h=>?_) (λf cdv A outer s H vs Q E hr h=>?_)
 ·obtain ⟨p,m,a,b,c,rfl,_⟩:=h
  rfl
 ·obtain ⟨p,m,a,b,c,rfl,hp,ok,m0,m1,k⟩:=h
  have sc:=CU
  refine RK (eG (RQ (EG pN (uX pP cW.h bH (λ_ _=>rfl)) bH (eC _))
    (eG (pO (i:=2) sc.nd rfl A8.lo (fO uY (uX pP cW.h bH (λ_ _=>rfl)) nD.h) rfl (.inl rfl))
    (eG (JU (fO CO (uX pP cW.h bH (λ_ _=>rfl)) nD.h) (JT cW.h bH wI))
    (qE (JV A8.h))))
    EF)
   (eG (pO (i:=3) sc.nd rfl nE.lo bH rfl (.inl rfl))
   (eG (a0S a1r rfl (NQ yI T.b_range (l4 (fO bM bH (NP a0M BC T.b_int XX (l4 (VQ pN nD.h (fO jO bH bH) (eC _)) AJ) XW XS)) AJ)) (LP (i:=4) sc.nd rfl JG.lo (.inl rfl))
    (eG (JU (fO bM (uX pP cW.h bH (λ_ _=>rfl)) bH) (JT cW.h bH wI))
    (eG (JU (fO uY (fO bM (fO fW (uX pP cW.h bH (λ_ _=>rfl)) bH) (fO fW bH (uX pP cW.h bH (λ_ _=>rfl)))) bH) (JT cW.h bH wI))
    (qE (pO (i:=3) sc.nd rfl nE.lo (fO bM (fO fW nE.h bH) (fO uY (fO fW (uX pP cW.h bH (λ_ _=>rfl)) (uX pP cW.h bH (λ_ _=>rfl))) bH)) rfl (.inl rfl))))))
   (qE (JV (fO uY (fO CO nE.h bH) nD.h)))))) ?_
  refine LX (σ:=[some _,some _,none,none,none]) rfl ?_
  walk_at "st"
  refine UN (λh1=>?_) (λh1=>?_)
  ·have h2:=a4f h1
   walk_at "st"
   exact k _ _ _ _ (a4t _ (by omega)) (a3y _ m0) ⟨Int.ediv_nonneg ok.a0 (by omega),ok.b0,ok.b1⟩
  ·walk_at "st"
   generalize hn:(1 + if decide ((1000000:Int) < m) = true then (1:Int) else 0) = n
   have hn0:1 <= n /\ n <= 2:=by subst hn;split <;> omega
   refine ⟨by omega,by omega,N5 (XQ H p m a) ⟨b,c,0,none,rfl,(SO hp).symm,ok⟩ ?_ ?_⟩
   ·rintro i σ H1 hi ⟨b',c',made,tv,rfl,rfl,ok'⟩
    have h3:0 <= (b' * 48271 + 11 * (c' + 1)) % 2147483647:=a4t _ (by decide)
    have h4:(b' * 48271 + 11 * (c' + 1)) % 2147483647 < 2147483647:=a3y _ (by decide)
    walk_at "st"
    exact ⟨_,_,_,_,rfl,by rw [M6,M6],⟨ok'.a0,h3,h4⟩⟩
   ·rintro σ H1 ⟨b',c',made,tv,rfl,rfl,ok'⟩
    walk_at "st"
    exact k _ _ _ _ (a4t _ (by omega)) (a3y _ m0) ok'
abbrev lQ (P:Program) (w:World) (K:PySem.W.Frag) (mg:Str -> Option Value) (base:Heap):Prop:=Cal P w K mg base 1 "_law_take" ["_law_state", "_law_many"] (o9 K [.st,.bw] (.v .fl) aH)
abbrev dW:Stmt:=top 35
abbrev iE:List Str:=["_law_one", "_law_other", "_law_prices", "_law_moment", "_law_price"]
theorem AT:FnScope iE ["_law_one", "_law_other"] (a8 dW):=⟨rfl,rfl,rfl,by decide +kernel,rfl,by decide +kernel,by decide +kernel⟩
theorem G9:NV iE "_law_mixed" dW "_law_one" 0:=by walk_at "n"
theorem GA:NV iE "_law_mixed" dW "_law_other" 1:=by walk_at "n"
theorem kT:NV iE "_law_mixed" dW "_law_prices" 2:=by walk_at "n"
theorem pG:NV iE "_law_mixed" dW "_law_moment" 3:=by walk_at "n"
theorem xO:NV iE "_law_mixed" dW "_law_price" 4:=by walk_at "n"
theorem qK:(a8 dW).names.lookup (Str.ofString "_law_prices") = some NameKind.cell:=by decide +kernel
theorem u9:GL dW "sorted" := by decide +kernel
abbrev rK (P:Program) (w:World) (K:PySem.W.Frag) (mg:Str -> Option Value) (base:Heap):Prop:=Cal P w K mg base 1 "_law_mixed" ["_law_one", "_law_other"] (o9 K [.bw,.bw] (.o .fl) iG)
theorem JJ (D:Df K mg "_law_mixed" dW) (T:Txt K mg)  : rK P w K mg base :=
  have sc:=AT
  i6 (p:=m6) (mn:=[.no,.no,.no,.no,.no]) J0 D AT (λ_ _ _ _ _ _ us hl=>match us,hl with | [_,_],_=>rfl) rfl rfl rfl λf cdv A outer s H E hr =>
  (a9 (b4 (i:=2) sc.nd rfl kT.lo rfl (.inl rfl) M7 rfl (by decide))
 (a9 (iQ a1r rfl rfl (mD (nU (B4 (sL (d5 G9.h rfl)) (sL (d5 GA.h rfl))))) (eP (n:=2) rfl (aD (aN (i:=3) sc.nd rfl pG.lo (.inl rfl) rfl (by decide)) (aD (aN (i:=4) sc.nd rfl xO.lo (.inl rfl) rfl (by decide)) cY)))
 (a9 (M8 hr.units kT.h rfl (bO bM nT (aC (a3Z PySem.F.plainAttrs_dict a66 PySem.F.type_dict_get (RN hr.units) NW rfl (aP (el:=.fl) kT.h rfl) (a7 (aQ (d5 pG.h rfl)) (a7 aB aA)))) (aQ (d5 xO.h rfl))) (aQ (d5 pG.h rfl)))
 (gI (m1:=[(.v .sh),(.v .sh),(.o .fl),.no,.no]) rfl aW)))
 (aX (cB (o5 (N':=["_law_moment", "_law_prices"]) (n:=1) (cap:=[2]) (mb:=[(.v .fl),(.c .fl)]) (λ_=>rfl) rfl (show LcOk iE (a8 dW) _ _ _ _ from ⟨by rfl,by decide +kernel,by decide +kernel,by decide +kernel,by decide +kernel,by decide +kernel,by decide +kernel,by rfl⟩) rfl rfl (mD (nU (bW (AK rfl) y4 u9 T.b_sorted pZ (a7 (aP (el:=.fl) kT.h rfl) aA) C6 C1))) (λ_ _ _ _=>(aU (dU (i:=0) (by decide +kernel) rfl (by decide +kernel)) rfl (by decide))) (λ_ _ _ _=>eE) (λ_ _ _ _=>(eO .fl (a7 (aK (m:=(.v .fl)) (bD (i:=0) rfl (by decide +kernel) (by decide +kernel) (by decide +kernel)) rfl rfl) (a7 (qI hr.units (a5I (aK (m:=(.c .fl)) (gD (i:=1) rfl (by decide +kernel) rfl qK (by decide +kernel) (by decide +kernel)) rfl rfl)) (aC (aK (m:=(.v .fl)) (bD (i:=0) rfl (by decide +kernel) (by decide +kernel) (by decide +kernel)) rfl rfl)) (λ_ _=>rfl)) aA)) rfl))) rfl))))
abbrev j8:Stmt:=top 36
abbrev x9:List Str:=["_law_paper_here"]
theorem v7:FnScope x9 ["_law_paper_here"] (a8 j8):=⟨rfl,rfl,rfl,by decide +kernel,rfl,by decide +kernel,by decide +kernel⟩
theorem BE:NV x9 "_law_doubled" j8 "_law_paper_here" 0:=by walk_at "n"
abbrev mG (P:Program) (w:World) (K:PySem.W.Frag) (mg:Str -> Option Value) (base:Heap):Prop:=Cal P w K mg base 1 "_law_doubled" ["_law_paper_here"] (o9 K [.bw] (.o .fl) d6)
theorem E4 (D:Df K mg "_law_doubled" j8) (T:Txt K mg)  : mG P w K mg base :=
 have sc:=v7
 i6 (p:=j6) (mn:=[.no]) DI D v7 (λ_ _ _ _ _ _ us hl=>match us,hl with | [_],_=>rfl) rfl rfl rfl λf cdv A outer s H E hr =>
 (aX (cB (vI (o5 (N':=["_law_moment", "_law_price"]) (n:=2) (cap:=[]) (mb:=[(.v .sh),(.v .sh)]) (λ_=>rfl) rfl (show LcOk ["_law_paper_here"] (a8 j8) _ _ _ _ from ⟨by rfl,by decide +kernel,by decide +kernel,by decide +kernel,by decide +kernel,by decide +kernel,by decide +kernel,by rfl⟩) rfl rfl (fY (d5 BE.h rfl)) (λ_ _ _ _=>(eP (n:=2) rfl (aD (aU (dU (i:=0) (by decide +kernel) rfl (by decide +kernel)) rfl (by decide)) (aD (aU (dU (i:=1) (by decide +kernel) rfl (by decide +kernel)) rfl (by decide)) cY)))) (λ_ _ _ _=>eE) (λ_ _ _ _=>(eO .sh (a7 (aK (m:=(.v .sh)) (bD (i:=0) rfl (by decide +kernel) (by decide +kernel) (by decide +kernel)) rfl rfl) (a7 (bO fW NU (aC aB) (aQ (aK (m:=(.v .sh)) (bD (i:=1) rfl (by decide +kernel) (by decide +kernel) (by decide +kernel)) rfl rfl))) aA)) rfl)))) rfl))
abbrev gP:Stmt:=top 4
abbrev vP:List Str:=["book", "some", "moment"]
theorem AV:FnScope vP ["book", "some", "moment"] (a8 gP):=⟨rfl,rfl,rfl,by decide +kernel,rfl,by decide +kernel,by decide +kernel⟩
theorem GG:NV vP "load_at" gP "some" 1:=by walk_at "n"
theorem yE:(a8 gP).names.lookup (Str.ofString "book") = some NameKind.cell:=by decide +kernel
theorem tR:(a8 gP).names.lookup (Str.ofString "moment") = some NameKind.cell:=by decide +kernel
theorem zQ:GL gP "len" := by decide +kernel
abbrev mH (P:Program) (w:World) (K:PySem.W.Frag) (mg:Str -> Option Value) (base:Heap):Prop:=Cal P w K mg base 2 "load_at" ["book", "some", "moment"] (o9 K [.bw,.bw,.bw] (.v .fl) d4)
theorem JL (D:Df K mg "load_at" gP) (T:Txt K mg) (C_is_over:jY P w K mg base):mH P w K mg base :=
 have sc:=AV
 i6 (p:=gL) (mn:=[.no,.no,.no]) sC D AV (λ_ _ _ _ _ _ us hl=>match us,hl with | [_,_,_],_=>rfl) rfl rfl rfl λf cdv A outer s H E hr =>
 (aX (cB (bW iW jR zQ T.b_len k3 (a7 (a2K (o5 (N':=["number", "moment", "book"]) (n:=1) (cap:=[2,0]) (mb:=[(.v .sh),(.v .sh),(.v .sh)]) (λ_=>rfl) rfl (show LcOk vP (a8 gP) _ _ _ _ from ⟨by rfl,by decide +kernel,by decide +kernel,by decide +kernel,by decide +kernel,by decide +kernel,by decide +kernel,by rfl⟩) rfl rfl (fY (d5 GG.h rfl)) (λ_ _ _ _=>(aU (dU (i:=0) (by decide +kernel) rfl (by decide +kernel)) rfl (by decide))) (λ_ _ _ _=>(vL (EY (aC (aI C_is_over (hr.mono (by decide)) rfl rfl (a7 (aQ (aL (sL (aK (m:=(.v .sh)) (gD (i:=2) rfl (by decide +kernel) rfl yE (by decide +kernel) (by decide +kernel)) rfl rfl)) (aQ (aK (m:=(.v .sh)) (bD (i:=0) rfl (by decide +kernel) (by decide +kernel) (by decide +kernel)) rfl rfl)) (λ_ _=>rfl))) (a7 (aQ (aK (m:=(.v .sh)) (gD (i:=1) rfl (by decide +kernel) rfl tR (by decide +kernel) (by decide +kernel)) rfl rfl)) aA)) (CN (by decide +kernel)) oI))))) (λ_ _ _ _=>(aK (m:=(.v .sh)) (bD (i:=0) rfl (by decide +kernel) (by decide +kernel) (by decide +kernel)) rfl rfl)))) aA) lG lE) rfl))
abbrev j9:Stmt:=top 10
abbrev xA:List Str:=["book"]
theorem v8:FnScope xA ["book"] (a8 j9):=⟨rfl,rfl,rfl,by decide +kernel,rfl,by decide +kernel,by decide +kernel⟩
theorem BF:NV xA "places_of" j9 "book" 0:=by walk_at "n"
theorem m3:GL j9 "moments_of" := by decide +kernel
abbrev mI (P:Program) (w:World) (K:PySem.W.Frag) (mg:Str -> Option Value) (base:Heap):Prop:=Cal P w K mg base 2 "places_of" ["book"] (o9 K [.bw] (.o .fl) cO)
theorem E5 (D:Df K mg "places_of" j9) (T:Txt K mg) (C_moments_of:iR P w K mg base):mI P w K mg base :=
 have sc:=v8
 i6 (p:=dY) (mn:=[.no]) mO D v8 (λ_ _ _ _ _ _ us hl=>match us,hl with | [_],_=>rfl) rfl rfl rfl λf cdv A outer s H E hr =>
 (aX (cB (a1K (aI C_moments_of (hr.mono (by decide)) rfl rfl (a7 (aQ (d5 BF.h rfl)) aA) m3 oJ) (a1J (eN .fl (a7 aB aA) rfl))) rfl))
abbrev iP:Stmt:=top 24
abbrev vR:List Str:=["stretch", "paper"]
theorem AY:FnScope vR ["stretch", "paper"] (a8 iP):=⟨rfl,rfl,rfl,by decide +kernel,rfl,by decide +kernel,by decide +kernel⟩
theorem GK:NV vR "toll_of" iP "paper" 1:=by walk_at "n"
theorem rX:(a8 iP).names.lookup (Str.ofString "stretch") = some NameKind.cell:=by decide +kernel
theorem zS:GL iP "sum" := by decide +kernel
abbrev rO (P:Program) (w:World) (K:PySem.W.Frag) (mg:Str -> Option Value) (base:Heap):Prop:=Cal P w K mg base 2 "toll_of" ["stretch", "paper"] (o9 K [.bw,.bw] (.v .fl) eK)
theorem JO (D:Df K mg "toll_of" iP) (T:Txt K mg) (C_is_over:jY P w K mg base):rO P w K mg base :=
 have sc:=AY
 i6 (p:=gO) (mn:=[.no,.no]) sF D AY (λ_ _ _ _ _ _ us hl=>match us,hl with | [_,_],_=>rfl) rfl rfl rfl λf cdv A outer s H E hr =>
 (aX (cB (bW (ED rfl) yU zS T.b_sum D3 (a7 (a2K (o5 (N':=["moment", "price", "stretch"]) (n:=2) (cap:=[0]) (mb:=[(.v .sh),(.v .sh),(.v .sh)]) (λ_=>rfl) rfl (show LcOk vR (a8 iP) _ _ _ _ from ⟨by rfl,by decide +kernel,by decide +kernel,by decide +kernel,by decide +kernel,by decide +kernel,by decide +kernel,by rfl⟩) rfl rfl (fY (d5 GK.h rfl)) (λ_ _ _ _=>(eP (n:=2) rfl (aD (aU (dU (i:=0) (by decide +kernel) rfl (by decide +kernel)) rfl (by decide)) (aD (aU (dU (i:=1) (by decide +kernel) rfl (by decide +kernel)) rfl (by decide)) cY)))) (λ_ _ _ _=>(vL (EY (aC (aI C_is_over (hr.mono (by decide)) rfl rfl (a7 (aQ (aK (m:=(.v .sh)) (gD (i:=2) rfl (by decide +kernel) rfl rX (by decide +kernel) (by decide +kernel)) rfl rfl)) (a7 (aQ (aK (m:=(.v .sh)) (bD (i:=0) rfl (by decide +kernel) (by decide +kernel) (by decide +kernel)) rfl rfl)) aA)) (CN (by decide +kernel)) oI))))) (λ_ _ _ _=>(aK (m:=(.v .sh)) (bD (i:=1) rfl (by decide +kernel) (by decide +kernel) (by decide +kernel)) rfl rfl)))) aA) D2 D1) rfl))
abbrev fT:Stmt:=top 32
abbrev lR:List Str:=["_law_state", "_law_k", "_law_letters", "_law_spelt", "_law_j"]
theorem CT:FnScope lR ["_law_state", "_law_k"] (a8 fT):=⟨rfl,rfl,rfl,by decide +kernel,rfl,by decide +kernel,by decide +kernel⟩
theorem A7:NV lR "_law_name" fT "_law_state" 0:=by walk_at "n"
theorem JE:NV lR "_law_name" fT "_law_k" 1:=by walk_at "n"
theorem sV:NV lR "_law_name" fT "_law_letters" 2:=by walk_at "n"
theorem n9:NV lR "_law_name" fT "_law_spelt" 3:=by walk_at "n"
theorem JF:NV lR "_law_name" fT "_law_j" 4:=by walk_at "n"
theorem jG:GL fT "_law_take" := by decide +kernel
theorem yH:GL fT "range" := by decide +kernel
abbrev vN (P:Program) (w:World) (K:PySem.W.Frag) (mg:Str -> Option Value) (base:Heap):Prop:=Cal P w K mg base 2 "_law_name" ["_law_state", "_law_k"] (o9 K [.st,.bw] (.v .fl) fS)
theorem NL (D:Df K mg "_law_name" fT) (T:Txt K mg) (C_l_take:lQ P w K mg base):vN P w K mg base :=
  have sc:=CT
  i6 (p:=j7) (mn:=[.no,.no,.no,.no,.no]) w4 D CT (λ_ _ _ _ _ _ us hl=>match us,hl with | [_,_],_=>rfl) rfl rfl rfl λf cdv A outer s H E hr =>
  (a9 (b4 (i:=2) sc.nd rfl sV.lo rfl (.inl rfl) SV rfl (by decide))
 (a9 (b4 (i:=3) sc.nd rfl n9.lo rfl (.inl rfl) SV rfl (by decide))
 (a9 (iQ a1r rfl rfl (fM yH T.b_range (aC (aI C_l_take (hr.mono (by decide)) rfl rfl (a7 (B5 A7.h rfl) (a7 (aC aB) aA)) jG b7))) (aN (i:=4) sc.nd rfl JF.lo (.inl rfl) rfl (by decide))
 (a9 (b4 (i:=3) sc.nd rfl n9.lo rfl (.inl rfl) (bO HA HQ (aC (jX n9.h rfl)) (aC (aL (Q5 (jX sV.h rfl)) (aC (aI C_l_take (hr.mono (by decide)) rfl rfl (a7 (B5 A7.h rfl) (a7 (aC aB) aA)) jG b7)) (λ_ _=>rfl)))) rfl (by decide))
 (gI (m1:=[.st,(.v .sh),(.v .fl),(.v .fl),.no]) rfl aW)))
 (aX (cB (bO HA HQ (aC (jX n9.h rfl)) (aC (aL (Q5 (jX sV.h rfl)) (aQ (d5 JE.h rfl)) (λ_ _=>rfl)))) rfl)))))
abbrev bE:Stmt:=top 34
abbrev cZ:List Str:=["_law_state", "_law_book_here", "_law_moments", "_law_name_here", "_law_begin", "_law_end", "_law_worth", "_law_prices", "_law_turn", "_law_moment"]
theorem AU:FnScope cZ ["_law_state", "_law_book_here"] (a8 bE):=⟨rfl,rfl,rfl,by decide +kernel,rfl,by decide +kernel,by decide +kernel⟩
theorem kU:NV cZ "_law_paper" bE "_law_state" 0:=by walk_at "n"
theorem GB:NV cZ "_law_paper" bE "_law_book_here" 1:=by walk_at "n"
theorem j3:NV cZ "_law_paper" bE "_law_moments" 2:=by walk_at "n"
theorem GC:NV cZ "_law_paper" bE "_law_name_here" 3:=by walk_at "n"
theorem xP:NV cZ "_law_paper" bE "_law_begin" 4:=by walk_at "n"
theorem xQ:NV cZ "_law_paper" bE "_law_end" 5:=by walk_at "n"
theorem GD:NV cZ "_law_paper" bE "_law_worth" 6:=by walk_at "n"
theorem pH:NV cZ "_law_paper" bE "_law_prices" 7:=by walk_at "n"
theorem GE:NV cZ "_law_paper" bE "_law_turn" 8:=by walk_at "n"
theorem xR:NV cZ "_law_paper" bE "_law_moment" 9:=by walk_at "n"
theorem qL:(a8 bE).names.lookup (Str.ofString "_law_prices") = some NameKind.cell:=by decide +kernel
theorem d7:GL bE "_law_take" := by decide +kernel
theorem w6:GL bE "range" := by decide +kernel
theorem zO:GL bE "len" := by decide +kernel
theorem uA:GL bE "sorted" := by decide +kernel
abbrev rL (P:Program) (w:World) (K:PySem.W.Frag) (mg:Str -> Option Value) (base:Heap):Prop:=Cal P w K mg base 2 "_law_paper" ["_law_state", "_law_book_here"] (o9 K [.st,.bw] (.o .fl) d3)
theorem JK (D:Df K mg "_law_paper" bE) (T:Txt K mg) (C_l_take:lQ P w K mg base):rL P w K mg base :=
  have sc:=AU
  i6 (p:=gK) (mn:=[.no,.no,.no,.no,.no,.no,.no,.no,.no,.no]) sA D AU (λ_ _ _ _ _ _ us hl=>match us,hl with | [_,_],_=>rfl) rfl rfl rfl λf cdv A outer s H E hr =>
  (a9 (b4 (i:=2) sc.nd rfl j3.lo rfl (.inl rfl) (eN .fl (a7 aB (a7 aB (a7 (pX (aC (bO jO K5 (aC aB) (aC aB)))) (a7 (bO jP HN (aC (bO jO K5 (aC aB) (aC aB))) (aC aB)) aA)))) rfl) rfl (by decide))
 (a9 (SX (m1:=[.st,(.v .sh),(.o .sh),.no,.no,.no,.no,.no,.no,.no]) rfl (iQ a1r rfl rfl (fY (d5 GB.h rfl)) (eP (n:=4) rfl (aD (aN (i:=3) sc.nd rfl GC.lo (.inl rfl) rfl (by decide)) (aD (aN (i:=4) sc.nd rfl xP.lo (.inl rfl) rfl (by decide)) (aD (aN (i:=5) sc.nd rfl xQ.lo (.inl rfl) rfl (by decide)) (aD (aN (i:=6) sc.nd rfl GD.lo (.inl rfl) rfl (by decide)) cY)))))
 (a9 (b4 (i:=2) sc.nd rfl j3.lo rfl (.inl rfl) (B4 (aP (el:=.sh) j3.h rfl) (a5J (eN .sh (a7 (d5 xP.h rfl) (a7 (bO jP HN (aQ (d5 xQ.h rfl)) (aC aB)) aA)) rfl))) rfl (by decide))
 (gI (m1:=[.st,(.v .sh),(.o .sh),.no,.no,.no,.no,.no,.no,.no]) rfl aW))))
 (a9 (b4 (i:=7) sc.nd rfl pH.lo rfl (.inl rfl) M7 rfl (by decide))
 (a9 (iQ a1r rfl rfl (fM w6 T.b_range (aC (aI C_l_take (hr.mono (by decide)) rfl rfl (a7 (B5 kU.h rfl) (a7 (aC aB) aA)) d7 b7))) (aN (i:=8) sc.nd rfl GE.lo (.inl rfl) rfl (by decide))
 (a9 (b4 (i:=9) sc.nd rfl xR.lo rfl (.inl rfl) (aL (aP (el:=.sh) j3.h rfl) (aC (aI C_l_take (hr.mono (by decide)) rfl rfl (a7 (B5 kU.h rfl) (a7 (aC (bW iW jR zO T.b_len k3 (a7 (a5X (aP (el:=.sh) j3.h rfl)) aA) lG lE)) aA)) d7 b7)) (λ_ _=>rfl)) rfl (by decide))
 (a9 (M8 hr.units pH.h rfl (bO bM nT (aC aB) (aC (aI C_l_take (hr.mono (by decide)) rfl rfl (a7 (B5 kU.h rfl) (a7 (aC (aL (T2 (eN .fl (a7 aB (a7 aB (a7 aB (a7 (bO jO K5 (aC aB) (aC aB)) aA)))) rfl)) (aC (aI C_l_take (hr.mono (by decide)) rfl rfl (a7 (B5 kU.h rfl) (a7 (aC aB) aA)) d7 b7)) (λ_ _=>rfl))) aA)) d7 b7))) (aQ (d5 xR.h rfl)))
 (gI (m1:=[.st,(.v .sh),(.o .sh),.no,.no,.no,.no,(.o .fl),.no,.no]) rfl aW))))
 (aX (cB (o5 (N':=["_law_moment", "_law_prices"]) (n:=1) (cap:=[7]) (mb:=[(.v .fl),(.c .fl)]) (λ_=>rfl) rfl (show LcOk cZ (a8 bE) _ _ _ _ from ⟨by rfl,by decide +kernel,by decide +kernel,by decide +kernel,by decide +kernel,by decide +kernel,by decide +kernel,by rfl⟩) rfl rfl (mD (nU (bW (AK rfl) y4 uA T.b_sorted pZ (a7 (aP (el:=.fl) pH.h rfl) aA) C6 C1))) (λ_ _ _ _=>(aU (dU (i:=0) (by decide +kernel) rfl (by decide +kernel)) rfl (by decide))) (λ_ _ _ _=>eE) (λ_ _ _ _=>(eO .fl (a7 (aK (m:=(.v .fl)) (bD (i:=0) rfl (by decide +kernel) (by decide +kernel) (by decide +kernel)) rfl rfl) (a7 (qI hr.units (a5I (aK (m:=(.c .fl)) (gD (i:=1) rfl (by decide +kernel) rfl qL (by decide +kernel) (by decide +kernel)) rfl rfl)) (aC (aK (m:=(.v .fl)) (bD (i:=0) rfl (by decide +kernel) (by decide +kernel) (by decide +kernel)) rfl rfl)) (λ_ _=>rfl)) aA)) rfl))) rfl))))))
abbrev cA:Stmt:=top 5
abbrev eU:List Str:=["book", "some", "steps", "before", "moment", "load"]
theorem xX:FnScope eU ["book", "some"] (a8 cA):=⟨rfl,rfl,rfl,by decide +kernel,rfl,by decide +kernel,by decide +kernel⟩
theorem DW:NV eU "loads_of" cA "book" 0:=by walk_at "n"
theorem uL:NV eU "loads_of" cA "some" 1:=by walk_at "n"
theorem nG:NV eU "loads_of" cA "steps" 2:=by walk_at "n"
theorem nH:NV eU "loads_of" cA "before" 3:=by walk_at "n"
theorem nI:NV eU "loads_of" cA "moment" 4:=by walk_at "n"
theorem jN:NV eU "loads_of" cA "load" 5:=by walk_at "n"
theorem vV:(a8 cA).names.lookup (Str.ofString "book") = some NameKind.cell:=by decide +kernel
theorem mX:GL cA "moments_of" := by decide +kernel
theorem qP:GL cA "load_at" := by decide +kernel
abbrev oC (P:Program) (w:World) (K:PySem.W.Frag) (mg:Str -> Option Value) (base:Heap):Prop:=Cal P w K mg base 3 "loads_of" ["book", "some"] (o9 K [.bw,.bw] (.o .fl) dI)
theorem GQ (D:Df K mg "loads_of" cA) (T:Txt K mg) (C_moments_of:iR P w K mg base) (C_load_at:mH P w K mg base):oC P w K mg base :=
  have sc:=xX
  i6 (p:=f9) (mn:=[.no,.no,.no,.no,.no,.no]) oN D xX (λ_ _ _ _ _ _ us hl=>match us,hl with | [_,_],_=>rfl) rfl rfl rfl λf cdv A outer s H E hr =>
  (a9 (b4 (i:=2) sc.nd rfl nG.lo rfl (.inl rfl) (eN .fl aA rfl) rfl (by decide))
 (a9 (b4 (i:=3) sc.nd rfl nH.lo rfl (.inl rfl) aB rfl (by decide))
 (a9 (iQ a1r rfl rfl (mD (nU (aI C_moments_of (hr.mono (by decide)) rfl rfl (a7 (a2K (o5 (N':=["number", "book"]) (n:=1) (cap:=[0]) (mb:=[(.v .sh),(.v .sh)]) (λ_=>rfl) rfl (show LcOk eU (a8 cA) _ _ _ _ from ⟨by rfl,by decide +kernel,by decide +kernel,by decide +kernel,by decide +kernel,by decide +kernel,by decide +kernel,by rfl⟩) rfl rfl (fY (d5 uL.h rfl)) (λ_ _ _ _=>(aU (dU (i:=0) (by decide +kernel) rfl (by decide +kernel)) rfl (by decide))) (λ_ _ _ _=>eE) (λ_ _ _ _=>(aL (sL (aK (m:=(.v .sh)) (gD (i:=1) rfl (by decide +kernel) rfl vV (by decide +kernel) (by decide +kernel)) rfl rfl)) (aQ (aK (m:=(.v .sh)) (bD (i:=0) rfl (by decide +kernel) (by decide +kernel) (by decide +kernel)) rfl rfl)) (λ_ _=>rfl))))) aA) mX oJ))) (aN (i:=4) sc.nd rfl nI.lo (.inl rfl) rfl (by decide))
 (a9 (b4 (i:=5) sc.nd rfl jN.lo rfl (.inl rfl) (aI C_load_at (hr.mono (by decide)) rfl rfl (a7 (aQ (d5 DW.h rfl)) (a7 (aQ (d5 uL.h rfl)) (a7 (aC (jX nI.h rfl)) aA))) qP xF) rfl (by decide))
 (a9 (rJ (fQ RP LV (aC (jX jN.h rfl)) (aC (jX nH.h rfl)) (eC _))
 (a9 (qJ a3e a3a a3b jW gR nG.h rfl (a7 (eO .fl (a7 (jX nI.h rfl) (a7 (jX jN.h rfl) aA)) rfl) aA))
 aW)
 aW)
 (a9 (b4 (i:=3) sc.nd rfl nH.lo rfl (.inl rfl) (jX jN.h rfl) rfl (by decide))
 (gI (m1:=[(.v .sh),(.v .sh),(.o .fl),(.v .fl),.no,.no]) rfl aW)))))
 (aX (vK nG.h rfl rfl)))))
abbrev bV:Stmt:=top 13
abbrev fZ:List Str:=["book", "places", "limits", "chosen", "rooms"]
theorem xZ:FnScope fZ ["book", "places", "limits", "chosen"] (a8 bV):=⟨rfl,rfl,rfl,by decide +kernel,rfl,by decide +kernel,by decide +kernel⟩
theorem DY:NV fZ "roads_of" bV "book" 0:=by walk_at "n"
theorem uO:NV fZ "roads_of" bV "places" 1:=by walk_at "n"
theorem DZ:NV fZ "roads_of" bV "limits" 2:=by walk_at "n"
theorem E1:NV fZ "roads_of" bV "chosen" 3:=by walk_at "n"
theorem uP:NV fZ "roads_of" bV "rooms" 4:=by walk_at "n"
theorem vW:(a8 bV).names.lookup (Str.ofString "book") = some NameKind.cell:=by decide +kernel
theorem rW:(a8 bV).names.lookup (Str.ofString "chosen") = some NameKind.cell:=by decide +kernel
theorem yK:GL bV "zip" := by decide +kernel
theorem mY:GL bV "free_roads" := by decide +kernel
theorem kJ:GL bV "stretch_roads" := by decide +kernel
abbrev oE (P:Program) (w:World) (K:PySem.W.Frag) (mg:Str -> Option Value) (base:Heap):Prop:=Cal P w K mg base 3 "roads_of" ["book", "places", "limits", "chosen"] (o9 K [.bw,.bw,.bw,.bw] (.o .fl) dM)
theorem GS (D:Df K mg "roads_of" bV) (T:Txt K mg) (C_free_roads:lA P w K mg base) (C_stretch_roads:iD P w K mg base) (C_load_at:mH P w K mg base):oE P w K mg base :=
  have sc:=xZ
  i6 (p:=fB) (mn:=[.no,.no,.no,.no,.no]) oP D xZ (λ_ _ _ _ _ _ us hl=>match us,hl with | [_,_,_,_],_=>rfl) rfl rfl rfl λf cdv A outer s H E hr =>
  (a9 (pY (i:=4) (N':=["limit", "place", "book", "chosen"]) (n:=2) (cap:=[0,3]) (mb:=[(.v .sh),(.v .sh),(.v .sh),(.v .sh)]) sc.nd rfl uP.lo rfl (.inl rfl) rfl (by decide) (λ_=>rfl) rfl (show LcOk fZ (a8 bV) _ _ _ _ from ⟨by rfl,by decide +kernel,by decide +kernel,by decide +kernel,by decide +kernel,by decide +kernel,by decide +kernel,by rfl⟩) rfl rfl (SW yK T.b_zip (d5 DZ.h rfl) (d5 uO.h rfl)) (λ_ _ _ _=>(eP (n:=2) rfl (aD (aU (dU (i:=0) (by decide +kernel) rfl (by decide +kernel)) rfl (by decide)) (aD (aU (dU (i:=1) (by decide +kernel) rfl (by decide +kernel)) rfl (by decide)) cY)))) (λ_ _ _ _=>eE) (λ_ _ _ _=>(bO jP HN (aQ (aK (m:=(.v .sh)) (bD (i:=0) rfl (by decide +kernel) (by decide +kernel) (by decide +kernel)) rfl rfl)) (aC (aI C_load_at (hr.mono (by decide)) rfl rfl (a7 (aQ (aK (m:=(.v .sh)) (gD (i:=2) rfl (by decide +kernel) rfl vW (by decide +kernel) (by decide +kernel)) rfl rfl)) (a7 (aQ (aK (m:=(.v .sh)) (gD (i:=3) rfl (by decide +kernel) rfl rW (by decide +kernel) (by decide +kernel)) rfl rfl)) (a7 (aQ (aK (m:=(.v .sh)) (bD (i:=1) rfl (by decide +kernel) (by decide +kernel) (by decide +kernel)) rfl rfl)) aA))) (CN (by decide +kernel)) xF)))))
 (aX (cB (B4 (T2 (aI C_free_roads (hr.mono (by decide)) rfl rfl (a7 (IF (aP (el:=.fl) uP.h rfl)) aA) mY zI)) (T2 (aI C_stretch_roads (hr.mono (by decide)) rfl rfl (a7 (aQ (d5 DY.h rfl)) (a7 (aQ (d5 uO.h rfl)) (a7 (aQ (d5 E1.h rfl)) aA))) kJ tX))) rfl)))
abbrev iO:Stmt:=top 25
abbrev vQ:List Str:=["stretch", "paper"]
theorem AX:FnScope vQ ["stretch", "paper"] (a8 iO):=⟨rfl,rfl,rfl,by decide +kernel,rfl,by decide +kernel,by decide +kernel⟩
theorem xU:NV vQ "rest_of" iO "stretch" 0:=by walk_at "n"
theorem GJ:NV vQ "rest_of" iO "paper" 1:=by walk_at "n"
theorem sJ:GL iO "toll_of" := by decide +kernel
theorem zR:GL iO "max" := by decide +kernel
abbrev rN (P:Program) (w:World) (K:PySem.W.Frag) (mg:Str -> Option Value) (base:Heap):Prop:=Cal P w K mg base 3 "rest_of" ["stretch", "paper"] (o9 K [.bw,.bw] (.v .fl) eJ)
theorem JN (D:Df K mg "rest_of" iO) (T:Txt K mg) (C_toll_of:rO P w K mg base):rN P w K mg base :=
 have sc:=AX
 i6 (p:=gN) (mn:=[.no,.no]) sE D AX (λ_ _ _ _ _ _ us hl=>match us,hl with | [_,_],_=>rfl) rfl rfl rfl λf cdv A outer s H E hr =>
 (aX (cB (bW (JS rfl) HR zR T.b_max IN (a7 (aC aB) (a7 (aC (bO jP HN (aQ (aL (sL (d5 xU.h rfl)) (aC aB) (λ_ _=>rfl))) (aC (aI C_toll_of (hr.mono (by decide)) rfl rfl (a7 (aQ (d5 xU.h rfl)) (a7 (aQ (d5 GJ.h rfl)) aA)) sJ FK)))) aA)) IM IL) rfl))
abbrev cH:Stmt:=top 33
abbrev eF:List Str:=["_law_state", "_law_most", "_law_size", "_law_unit", "_law_low", "_law_book_here", "_law_k", "_law_begin", "_law_end", "_law_worth", "_law_span"]
theorem CS:FnScope eF ["_law_state", "_law_most"] (a8 cH):=⟨rfl,rfl,rfl,by decide +kernel,rfl,by decide +kernel,by decide +kernel⟩
theorem cV:NV eF "_law_book" cH "_law_state" 0:=by walk_at "n"
theorem JD:NV eF "_law_book" cH "_law_most" 1:=by walk_at "n"
theorem sQ:NV eF "_law_book" cH "_law_size" 2:=by walk_at "n"
theorem n6:NV eF "_law_book" cH "_law_unit" 3:=by walk_at "n"
theorem sR:NV eF "_law_book" cH "_law_low" 4:=by walk_at "n"
theorem n8:NV eF "_law_book" cH "_law_book_here" 5:=by walk_at "n"
theorem sT:NV eF "_law_book" cH "_law_k" 6:=by walk_at "n"
theorem sU:NV eF "_law_book" cH "_law_begin" 7:=by walk_at "n"
theorem A5:NV eF "_law_book" cH "_law_end" 8:=by walk_at "n"
theorem A6:NV eF "_law_book" cH "_law_worth" 9:=by walk_at "n"
theorem kS:NV eF "_law_book" cH "_law_span" 10:=by walk_at "n"
theorem aO:GL cH "_law_take" := by decide +kernel
theorem yG:GL cH "range" := by decide +kernel
theorem qO:GL cH "_law_name" := by decide +kernel
abbrev vM (P:Program) (w:World) (K:PySem.W.Frag) (mg:Str -> Option Value) (base:Heap):Prop:=Cal P w K mg base 3 "_law_book" ["_law_state", "_law_most"] (o9 K [.st,.bw] (.o .fl) fR)
theorem NK (D:Df K mg "_law_book" cH) (T:Txt K mg) (C_l_take:lQ P w K mg base) (C_l_name:vN P w K mg base):vM P w K mg base :=
  have sc:=CS
  i6 (p:=j5) (mn:=[.no,.no,.no,.no,.no,.no,.no,.no,.no,.no,.no]) vZ D CS (λ_ _ _ _ _ _ us hl=>match us,hl with | [_,_],_=>rfl) rfl rfl rfl λf cdv A outer s H E hr =>
  (a9 (b4 (i:=2) sc.nd rfl sQ.lo rfl (.inl rfl) (aL (T2 (eN .fl (a7 aB (a7 aB (a7 aB (a7 aB aA)))) rfl)) (aC (aI C_l_take (hr.mono (by decide)) rfl rfl (a7 (B5 cV.h rfl) (a7 (aC aB) aA)) aO b7)) (λ_ _=>rfl)) rfl (by decide))
 (a9 (b4 (i:=3) sc.nd rfl n6.lo rfl (.inl rfl) (bO bM nT (aC aB) (aC (aI C_l_take (hr.mono (by decide)) rfl rfl (a7 (B5 cV.h rfl) (a7 (aC (aL (T2 (eN .fl (a7 aB (a7 aB (a7 aB (a7 (bO jO K5 (aC aB) (aC aB)) aA)))) rfl)) (aC (aI C_l_take (hr.mono (by decide)) rfl rfl (a7 (B5 cV.h rfl) (a7 (aC aB) aA)) aO b7)) (λ_ _=>rfl))) aA)) aO b7))) rfl (by decide))
 (a9 (b4 (i:=4) sc.nd rfl sR.lo rfl (.inl rfl) (aL (T2 (eN .fl (a7 aB (a7 (pX (aC aB)) (a7 (pX (aC (bO jO K5 (aC aB) (aC aB)))) (a7 (bO jP HN (aC (bO jO K5 (aC aB) (aC aB))) (aC (bO fW NU (aC aB) (aC (jX n6.h rfl))))) aA)))) rfl)) (aC (aI C_l_take (hr.mono (by decide)) rfl rfl (a7 (B5 cV.h rfl) (a7 (aC aB) aA)) aO b7)) (λ_ _=>rfl)) rfl (by decide))
 (a9 (b4 (i:=5) sc.nd rfl n8.lo rfl (.inl rfl) (eN .fl aA rfl) rfl (by decide))
 (a9 (iQ a1r rfl rfl (fM yG T.b_range (aC (aI C_l_take (hr.mono (by decide)) rfl rfl (a7 (B5 cV.h rfl) (a7 (aC (bO bM nT (aQ (d5 JD.h rfl)) (aC aB))) aA)) aO b7))) (aN (i:=6) sc.nd rfl sT.lo (.inl rfl) rfl (by decide))
 (a9 (b4 (i:=7) sc.nd rfl sU.lo rfl (.inl rfl) (aI C_l_take (hr.mono (by decide)) rfl rfl (a7 (B5 cV.h rfl) (a7 (aC (jX sQ.h rfl)) aA)) aO b7) rfl (by decide))
 (a9 (b4 (i:=8) sc.nd rfl A5.lo rfl (.inl rfl) (bO bM nT (aC (bO bM nT (aC (jX sU.h rfl)) (aC aB))) (aC (aI C_l_take (hr.mono (by decide)) rfl rfl (a7 (B5 cV.h rfl) (a7 (aC (jX sQ.h rfl)) aA)) aO b7))) rfl (by decide))
 (a9 (b4 (i:=9) sc.nd rfl A6.lo rfl (.inl rfl) (aI C_l_take (hr.mono (by decide)) rfl rfl (a7 (B5 cV.h rfl) (a7 (aC (aL (T2 (eN .fl (a7 aB (a7 aB (a7 aB (a7 (bO bM nT (aC (bO jO K5 (aC aB) (aC aB))) (aC aB)) aA)))) rfl)) (aC (aI C_l_take (hr.mono (by decide)) rfl rfl (a7 (B5 cV.h rfl) (a7 (aC aB) aA)) aO b7)) (λ_ _=>rfl))) aA)) aO b7) rfl (by decide))
 (a9 (b4 (i:=10) sc.nd rfl kS.lo rfl (.inl rfl) (eO .fl (a7 (bO bM nT (aC (jX sR.h rfl)) (aC (bO fW NU (aC (jX n6.h rfl)) (aC (jX sU.h rfl))))) (a7 (bO bM nT (aC (jX sR.h rfl)) (aC (bO fW NU (aC (jX n6.h rfl)) (aC (jX A5.h rfl))))) aA)) rfl) rfl (by decide))
 (a9 (rJ (T1 (SZ (fQ pN a1T (aC (jX sT.h rfl)) (aC aB) (eC _)) (MA (fQ a0R WB (aC (aI C_l_take (hr.mono (by decide)) rfl rfl (a7 (B5 cV.h rfl) (a7 (aC aB) aA)) aO b7)) (aC aB) (eC _)))))
 (a9 (b4 (i:=10) sc.nd rfl kS.lo rfl (.inl rfl) (SU (Q5 (aL (aP (el:=.fl) n8.h rfl) (aC (pX (aC aB))) (λ_ _=>rfl))) (vJ (aC aB)) (vJ (aC aB))) rfl (by decide))
 aW)
 aW)
 (a9 (qJ a3e a3a a3b jW gR n8.h rfl (a7 (eO .fl (a7 (aI C_l_name (hr.mono (by decide)) rfl rfl (a7 (B5 cV.h rfl) (a7 (aC (jX sT.h rfl)) aA)) qO IZ) (a7 (aL (Q5 (jX kS.h rfl)) (aC aB) (λ_ _=>rfl)) (a7 (aL (Q5 (jX kS.h rfl)) (aC aB) (λ_ _=>rfl)) (a7 (jX A6.h rfl) aA)))) rfl) aA))
 (gI (m1:=[.st,(.v .sh),(.v .fl),(.v .fl),(.v .fl),(.o .fl),.no,.no,.no,.no,.no]) rfl aW))))))))
 (aX (vK n8.h rfl rfl)))))))
abbrev c9:Stmt:=top 6
abbrev eT:List Str:=["book", "some", "greatest", "first", "moment", "load"]
theorem xW:FnScope eT ["book", "some"] (a8 c9):=⟨rfl,rfl,rfl,by decide +kernel,rfl,by decide +kernel,by decide +kernel⟩
theorem DV:NV eT "crowd_of" c9 "book" 0:=by walk_at "n"
theorem uG:NV eT "crowd_of" c9 "some" 1:=by walk_at "n"
theorem jM:NV eT "crowd_of" c9 "greatest" 2:=by walk_at "n"
theorem n4:NV eT "crowd_of" c9 "first" 3:=by walk_at "n"
theorem uH:NV eT "crowd_of" c9 "moment" 4:=by walk_at "n"
theorem n5:NV eT "crowd_of" c9 "load" 5:=by walk_at "n"
theorem vU:(a8 c9).names.lookup (Str.ofString "book") = some NameKind.cell:=by decide +kernel
theorem tQ:(a8 c9).names.lookup (Str.ofString "first") = some NameKind.cell:=by decide +kernel
theorem oS:GL c9 "loads_of" := by decide +kernel
abbrev oB (P:Program) (w:World) (K:PySem.W.Frag) (mg:Str -> Option Value) (base:Heap):Prop:=Cal P w K mg base 4 "crowd_of" ["book", "some"] (o9 K [.bw,.bw] (.v .sn) dH)
theorem GP (D:Df K mg "crowd_of" c9) (T:Txt K mg) (C_loads_of:oC P w K mg base) (C_is_over:jY P w K mg base):oB P w K mg base :=
  have sc:=xW
  i6 (p:=f7) (mn:=[.no,.no,.no,.no,.no,.no]) oM D xW (λ_ _ _ _ _ _ us hl=>match us,hl with | [_,_],_=>rfl) rfl rfl rfl λf cdv A outer s H E hr =>
  (a9 (wZ (eO .fl (a7 aB (a7 nV aA)) rfl) (eP (n:=2) rfl (aD (aN (i:=2) sc.nd rfl jM.lo (.inl rfl) rfl (by decide)) (aD (aN (i:=3) sc.nd rfl n4.lo (.inl rfl) rfl (by decide)) cY))))
 (a9 (iQ a1r rfl rfl (mD (nU (aI C_loads_of (hr.mono (by decide)) rfl rfl (a7 (aQ (d5 DV.h rfl)) (a7 (aQ (d5 uG.h rfl)) aA)) oS DE))) (eP (n:=2) rfl (aD (aN (i:=4) sc.nd rfl uH.lo (.inl rfl) rfl (by decide)) (aD (aN (i:=5) sc.nd rfl n5.lo (.inl rfl) rfl (by decide)) cY)))
 (a9 (rJ (fQ pN a1T (aC (jX n5.h rfl)) (aC (jX jM.h rfl)) (eC _))
 (a9 (wZ (eO .fl (a7 (jX n5.h rfl) (a7 (jX uH.h rfl) aA)) rfl) (eP (n:=2) rfl (aD (aN (i:=2) sc.nd rfl jM.lo (.inl rfl) rfl (by decide)) (aD (aN (i:=3) sc.nd rfl n4.lo (.inl rfl) rfl (by decide)) cY))))
 aW)
 aW)
 (gI (m1:=[(.v .sh),(.v .sh),(.v .fl),(.v .fl),.no,.no]) rfl aW)))
 (aX (cB (eO .sn (a7 (jX jM.h rfl) (a7 (jX n4.h rfl) (a7 (G2 (nU (vI (o5 (N':=["number", "first", "book"]) (n:=1) (cap:=[3,0]) (mb:=[(.v .sh),(.v .fl),(.v .sh)]) (λ_=>rfl) rfl (show LcOk eT (a8 c9) _ _ _ _ from ⟨by rfl,by decide +kernel,by decide +kernel,by decide +kernel,by decide +kernel,by decide +kernel,by decide +kernel,by rfl⟩) rfl rfl (fY (d5 uG.h rfl)) (λ_ _ _ _=>(aU (dU (i:=0) (by decide +kernel) rfl (by decide +kernel)) rfl (by decide))) (λ_ _ _ _=>(vL (EY (aC (aI C_is_over (hr.mono (by decide)) rfl rfl (a7 (aQ (aL (sL (aK (m:=(.v .sh)) (gD (i:=2) rfl (by decide +kernel) rfl vU (by decide +kernel) (by decide +kernel)) rfl rfl)) (aQ (aK (m:=(.v .sh)) (bD (i:=0) rfl (by decide +kernel) (by decide +kernel) (by decide +kernel)) rfl rfl)) (λ_ _=>rfl))) (a7 (aC (aK (m:=(.v .fl)) (gD (i:=1) rfl (by decide +kernel) rfl tQ (by decide +kernel) (by decide +kernel)) rfl rfl)) aA)) (CN (by decide +kernel)) oI))))) (λ_ _ _ _=>(aK (m:=(.v .sh)) (bD (i:=0) rfl (by decide +kernel) (by decide +kernel) (by decide +kernel)) rfl rfl)))))) aA))) rfl) rfl))))
abbrev aJ:Stmt:=top 19
abbrev cC:List Str:=["book", "benches", "places", "chosen", "told", "many", "roads", "gains", "last_roads"]
theorem rB:FnScope cC ["book", "benches"] (a8 aJ):=⟨rfl,rfl,rfl,by decide +kernel,rfl,by decide +kernel,by decide +kernel⟩
theorem p6:NV cC "best_up_to" aJ "book" 0:=by walk_at "n"
theorem A2:NV cC "best_up_to" aJ "benches" 1:=by walk_at "n"
theorem dR:NV cC "best_up_to" aJ "places" 2:=by walk_at "n"
theorem gY:NV cC "best_up_to" aJ "chosen" 3:=by walk_at "n"
theorem p7:NV cC "best_up_to" aJ "told" 4:=by walk_at "n"
theorem p8:NV cC "best_up_to" aJ "many" 5:=by walk_at "n"
theorem p9:NV cC "best_up_to" aJ "roads" 6:=by walk_at "n"
theorem pA:NV cC "best_up_to" aJ "gains" 7:=by walk_at "n"
theorem pB:NV cC "best_up_to" aJ "last_roads" 8:=by walk_at "n"
theorem lW:GL aJ "places_of" := by decide +kernel
theorem qM:GL aJ "range" := by decide +kernel
theorem gW:GL aJ "len" := by decide +kernel
theorem mU:GL aJ "roads_of" := by decide +kernel
theorem jC:GL aJ "greatest_gains" := by decide +kernel
theorem lX:GL aJ "prices_by" := by decide +kernel
theorem jJ:GL aJ "numbers_along" := by decide +kernel
theorem lM:GL aJ "changed_by" := by decide +kernel
abbrev l8 (P:Program) (w:World) (K:PySem.W.Frag) (mg:Str -> Option Value) (base:Heap):Prop:=Cal P w K mg base 4 "best_up_to" ["book", "benches"] (o9 K [.bw,.bw] (.o .sn) cD)
theorem BH (D:Df K mg "best_up_to" aJ) (T:Txt K mg) (C_places_of:mI P w K mg base) (C_roads_of:oE P w K mg base) (C_greatest_gains:gT P w K mg base) (C_changed_by:l9 P w K mg base) (C_numbers_along:iC P w K mg base) (C_prices_by:mJ P w K mg base):l8 P w K mg base :=
  have sc:=rB
  i6 (p:=dB) (mn:=[.no,.no,.no,.no,.no,.no,.no,.no,.no]) lI D rB (λ_ _ _ _ _ _ us hl=>match us,hl with | [_,_],_=>rfl) rfl rfl rfl λf cdv A outer s H E hr =>
  (a9 (b4 (i:=2) sc.nd rfl dR.lo rfl (.inl rfl) (aI C_places_of (hr.mono (by decide)) rfl rfl (a7 (aQ (d5 p6.h rfl)) aA) lW B8) rfl (by decide))
 (a9 (M9 (i:=3) (j:=4) (m1:=(.o .fl)) (m2:=(.o .fl)) rfl sc.nd rfl rfl (by decide) (show (a8 aJ).names.lookup (Str.ofString "chosen") = some NameKind.local by decide +kernel) (show (a8 aJ).names.lookup (Str.ofString "told") = some NameKind.local by decide +kernel) (eN .fl aA rfl) (eN .fl aA rfl) rfl rfl rfl (by decide) rfl (by decide))
 (a9 (SX (m1:=[(.v .sh),(.v .sh),(.o .fl),(.o .fl),(.o .sn),.no,.no,.no,.no]) rfl (iQ a1r rfl rfl (fM qM T.b_range (aC (bO bM nT (aQ (d5 A2.h rfl)) (aC aB)))) (aN (i:=5) sc.nd rfl p8.lo (.inl rfl) rfl (by decide))
 (a9 (b4 (i:=6) sc.nd rfl p9.lo rfl (.inl rfl) (aI C_roads_of (hr.mono (by decide)) rfl rfl (a7 (aQ (d5 p6.h rfl)) (a7 (IF (aP (el:=.fl) dR.h rfl)) (a7 (ZI (KC (T2 (eN .fl (a7 (jX p8.h rfl) aA) rfl)) (aC (bO jP HN (aC (bW iW jR gW T.b_len k3 (a7 (IF (aP (el:=.fl) dR.h rfl)) aA) lG lE)) (aC aB))))) (a7 (IF (aP (el:=.fl) gY.h rfl)) aA)))) mU DG) rfl (by decide))
 (a9 (wZ (aI C_greatest_gains (hr.mono (by decide)) rfl rfl (a7 (IF (aP (el:=.fl) p9.h rfl)) (a7 (aC (bW iW jR gW T.b_len k3 (a7 (IF (aP (el:=.fl) dR.h rfl)) aA) lG lE)) (a7 (aC aB) aA))) jC rY) (eP (n:=2) rfl (aD (aN (i:=7) sc.nd rfl pA.lo (.inl rfl) rfl (by decide)) (aD (aN (i:=8) sc.nd rfl pB.lo (.inl rfl) rfl (by decide)) cY))))
 (a9 (x8 3 .fl rfl (qJ a3e a3a a3b jW gR p7.h rfl (a7 (eO .sn (a7 (G2 (a3I gY.h rfl)) (a7 (G2 (nU (aI C_prices_by (hr.mono (by decide)) rfl rfl (a7 (yM (RZ pA.h rfl)) (a7 (ZI (a1M (aP (el:=.fl) dR.h rfl) WW (vJ (aC (pX (aC aB)))))) aA)) lX B9))) aA)) rfl) aA)))
 (a9 (b4 (i:=3) sc.nd rfl gY.lo rfl (.inl rfl) (aI C_changed_by (hr.mono (by decide)) rfl rfl (a7 (a4U (a3I gY.h rfl)) (a7 (ZI (aI C_numbers_along (hr.mono (by decide)) rfl rfl (a7 (yM (RZ pB.h rfl)) (a7 (aC (bO jP HN (aC (bW iW jR gW T.b_len k3 (a7 (IF (aP (el:=.fl) dR.h rfl)) aA) lG lE)) (aC aB))) aA)) jJ tW)) aA)) lM zH) rfl (by decide))
 (gI (m1:=[(.v .sh),(.v .sh),(.o .fl),(.o .fl),(.o .sn),.no,.no,.no,.no]) rfl aW)))))))
 (aX (vK p7.h rfl rfl)))))
abbrev gF:Stmt:=top 26
abbrev rR:List Str:=["book", "paper"]
theorem xY:FnScope rR ["book", "paper"] (a8 gF):=⟨rfl,rfl,rfl,by decide +kernel,rfl,by decide +kernel,by decide +kernel⟩
theorem DX:NV rR "rests_of" gF "book" 0:=by walk_at "n"
theorem tS:(a8 gF).names.lookup (Str.ofString "paper") = some NameKind.cell:=by decide +kernel
theorem yJ:GL gF "sum" := by decide +kernel
abbrev oD (P:Program) (w:World) (K:PySem.W.Frag) (mg:Str -> Option Value) (base:Heap):Prop:=Cal P w K mg base 4 "rests_of" ["book", "paper"] (o9 K [.bw,.bw] (.v .fl) dJ)
theorem GR (D:Df K mg "rests_of" gF) (T:Txt K mg) (C_rest_of:rN P w K mg base):oD P w K mg base :=
 have sc:=xY
 i6 (p:=fA) (mn:=[.no,.no]) oO D xY (λ_ _ _ _ _ _ us hl=>match us,hl with | [_,_],_=>rfl) rfl rfl rfl λf cdv A outer s H E hr =>
 (aX (cB (bW (ED rfl) yU yJ T.b_sum D3 (a7 (ZI (o5 (N':=["stretch", "paper"]) (n:=1) (cap:=[1]) (mb:=[(.v .sh),(.v .sh)]) (λ_=>rfl) rfl (show LcOk rR (a8 gF) _ _ _ _ from ⟨by rfl,by decide +kernel,by decide +kernel,by decide +kernel,by decide +kernel,by decide +kernel,by decide +kernel,by rfl⟩) rfl rfl (fY (d5 DX.h rfl)) (λ_ _ _ _=>(aU (dU (i:=0) (by decide +kernel) rfl (by decide +kernel)) rfl (by decide))) (λ_ _ _ _=>eE) (λ_ _ _ _=>(aI C_rest_of (hr.mono (by decide)) rfl rfl (a7 (aQ (aK (m:=(.v .sh)) (bD (i:=0) rfl (by decide +kernel) (by decide +kernel) (by decide +kernel)) rfl rfl)) (a7 (aQ (aK (m:=(.v .sh)) (gD (i:=1) rfl (by decide +kernel) rfl tS (by decide +kernel) (by decide +kernel)) rfl rfl)) aA)) (CN (by decide +kernel)) FJ)))) aA) D2 D1) rfl))
abbrev c5:Stmt:=top 20
abbrev nW:List Str:=["book"]
theorem m9:FnScope nW ["book"] (a8 c5):=⟨rfl,rfl,rfl,by decide +kernel,rfl,by decide +kernel,by decide +kernel⟩
theorem kP:NV nW "greatest_load" c5 "book" 0:=by walk_at "n"
theorem oT:GL c5 "len" := by decide +kernel
theorem o7:GL c5 "list" := by decide +kernel
theorem mV:GL c5 "range" := by decide +kernel
theorem kI:GL c5 "crowd_of" := by decide +kernel
abbrev iB (P:Program) (w:World) (K:PySem.W.Frag) (mg:Str -> Option Value) (base:Heap):Prop:=Cal P w K mg base 5 "greatest_load" ["book"] (o9 K [.bw] (.v .sn) bA)
theorem wD (D:Df K mg "greatest_load" c5) (T:Txt K mg) (C_crowd_of:oB P w K mg base):iB P w K mg base :=
 have sc:=m9
 i6 (p:=bZ) (mn:=[.no]) iH D m9 (λ_ _ _ _ _ _ us hl=>match us,hl with | [_],_=>rfl) rfl rfl rfl λf cdv A outer s H E hr =>
 (aX (cB (aL (DP (aI C_crowd_of (hr.mono (by decide)) rfl rfl (a7 (aQ (d5 kP.h rfl)) (a7 (ZI (ST rfl o7 T.b_list mV T.b_range (aC (bW iW jR oT T.b_len k3 (a7 (aQ (d5 kP.h rfl)) aA) lG lE)))) aA)) kI DC)) (aC aB) (λ_ _=>rfl)) rfl))
abbrev l5:Stmt:=top 28
abbrev yP:List Str:=["book", "benches", "paper"]
theorem HP:FnScope yP ["book", "benches", "paper"] (a8 l5):=⟨rfl,rfl,rfl,by decide +kernel,rfl,by decide +kernel,by decide +kernel⟩
theorem NH:NV yP "claim" l5 "book" 0:=by walk_at "n"
theorem NI:NV yP "claim" l5 "benches" 1:=by walk_at "n"
theorem CK:NV yP "claim" l5 "paper" 2:=by walk_at "n"
theorem sH:GL l5 "prices_of" := by decide +kernel
theorem u6:GL l5 "rests_of" := by decide +kernel
abbrev yW (P:Program) (w:World) (K:PySem.W.Frag) (mg:Str -> Option Value) (base:Heap):Prop:=Cal P w K mg base 5 "claim" ["book", "benches", "paper"] (o9 K [.bw,.bw,.bw] (.v .fl) cX)
theorem QU (D:Df K mg "claim" l5) (T:Txt K mg) (C_rests_of:oD P w K mg base) (C_prices_of:mK P w K mg base):yW P w K mg base :=
 have sc:=HP
 i6 (p:=l3) (mn:=[.no,.no,.no]) zJ D HP (λ_ _ _ _ _ _ us hl=>match us,hl with | [_,_,_],_=>rfl) rfl rfl rfl λf cdv A outer s H E hr =>
 (aX (cB (bO bM nT (aC (bO fW NU (aC (aI C_prices_of (hr.mono (by decide)) rfl rfl (a7 (aQ (d5 CK.h rfl)) aA) sH BA)) (aQ (d5 NI.h rfl)))) (aC (aI C_rests_of (hr.mono (by decide)) rfl rfl (a7 (aQ (d5 NH.h rfl)) (a7 (aQ (d5 CK.h rfl)) aA)) u6 DF))) rfl))
abbrev fE:Stmt:=top 21
abbrev rQ:List Str:=["book", "benches"]
theorem xV:FnScope rQ ["book", "benches"] (a8 fE):=⟨rfl,rfl,rfl,by decide +kernel,rfl,by decide +kernel,by decide +kernel⟩
theorem uF:NV rQ "best_for" fE "book" 0:=by walk_at "n"
theorem DU:NV rQ "best_for" fE "benches" 1:=by walk_at "n"
theorem kH:GL fE "greatest_load" := by decide +kernel
theorem yF:GL fE "min" := by decide +kernel
theorem mT:GL fE "best_up_to" := by decide +kernel
abbrev oA (P:Program) (w:World) (K:PySem.W.Frag) (mg:Str -> Option Value) (base:Heap):Prop:=Cal P w K mg base 6 "best_for" ["book", "benches"] (o9 K [.bw,.bw] (.v .sn) dG)
theorem GO (D:Df K mg "best_for" fE) (T:Txt K mg) (C_best_up_to:l8 P w K mg base) (C_greatest_load:iB P w K mg base):oA P w K mg base :=
 have sc:=xV
 i6 (p:=f6) (mn:=[.no,.no]) oK D xV (λ_ _ _ _ _ _ us hl=>match us,hl with | [_,_],_=>rfl) rfl rfl rfl λf cdv A outer s H E hr =>
 (aX (cB (aL (a5K (aI C_best_up_to (hr.mono (by decide)) rfl rfl (a7 (aQ (d5 uF.h rfl)) (a7 (aC (bW (RM rfl) HS yF T.b_min OT (a7 (aQ (d5 DU.h rfl)) (a7 (yM (aI C_greatest_load (hr.mono (by decide)) rfl rfl (a7 (aQ (d5 uF.h rfl)) aA) kH tU)) aA)) OP OM)) aA)) mT zG)) (aC (pX (aC aB))) (λ_ _=>rfl)) rfl))
abbrev fL:Stmt:=top 22
abbrev lU:List Str:=["book", "benches", "choice", "paper"]
theorem AW:FnScope lU ["book", "benches"] (a8 fL):=⟨rfl,rfl,rfl,by decide +kernel,rfl,by decide +kernel,by decide +kernel⟩
theorem xS:NV lU "most_of" fL "book" 0:=by walk_at "n"
theorem GH:NV lU "most_of" fL "benches" 1:=by walk_at "n"
theorem pJ:NV lU "most_of" fL "choice" 2:=by walk_at "n"
theorem xT:NV lU "most_of" fL "paper" 3:=by walk_at "n"
theorem qQ:GL fL "best_for" := by decide +kernel
theorem qR:GL fL "worth_of" := by decide +kernel
abbrev rM (P:Program) (w:World) (K:PySem.W.Frag) (mg:Str -> Option Value) (base:Heap):Prop:=Cal P w K mg base 7 "most_of" ["book", "benches"] (o9 K [.bw,.bw] (.v .sn) eI)
theorem JM (D:Df K mg "most_of" fL) (T:Txt K mg) (C_best_for:oA P w K mg base) (C_worth_of:oF P w K mg base):rM P w K mg base :=
  have sc:=AW
  i6 (p:=gM) (mn:=[.no,.no,.no,.no]) sD D AW (λ_ _ _ _ _ _ us hl=>match us,hl with | [_,_],_=>rfl) rfl rfl rfl λf cdv A outer s H E hr =>
  (a9 (wZ (aI C_best_for (hr.mono (by decide)) rfl rfl (a7 (aQ (d5 xS.h rfl)) (a7 (aQ (d5 GH.h rfl)) aA)) qQ DB) (eP (n:=2) rfl (aD (aN (i:=2) sc.nd rfl pJ.lo (.inl rfl) rfl (by decide)) (aD (aN (i:=3) sc.nd rfl xT.lo (.inl rfl) rfl (by decide)) cY))))
 (aX (cB (eO .sn (a7 (aI C_worth_of (hr.mono (by decide)) rfl rfl (a7 (aQ (d5 xS.h rfl)) (a7 (yM (RZ pJ.h rfl)) aA)) qR DH) (a7 (RZ pJ.h rfl) (a7 (RZ xT.h rfl) aA))) rfl) rfl)))
abbrev cR:Stmt:=top 37
abbrev jZ:List Str:=["_law_script", "_law_k", "_law_state", "_law_book_here", "_law_told", "_law_drawn", "_law_papers", "_law_benches", "_law_paper_here", "_law_at", "_law_single", "_law_ends"]
theorem S7:FnScope jZ ["_law_script"] (a8 cR):=⟨rfl,rfl,rfl,by decide +kernel,rfl,by decide +kernel,by decide +kernel⟩
theorem LC:NV jZ "law" cR "_law_script" 0:=by walk_at "n"
theorem LD:NV jZ "law" cR "_law_k" 1:=by walk_at "n"
theorem qB:NV jZ "law" cR "_law_state" 2:=by walk_at "n"
theorem kW:NV jZ "law" cR "_law_book_here" 3:=by walk_at "n"
theorem uJ:NV jZ "law" cR "_law_told" 4:=by walk_at "n"
theorem LE:NV jZ "law" cR "_law_drawn" 5:=by walk_at "n"
theorem qC:NV jZ "law" cR "_law_papers" 6:=by walk_at "n"
theorem iU:NV jZ "law" cR "_law_benches" 7:=by walk_at "n"
theorem LF:NV jZ "law" cR "_law_paper_here" 8:=by walk_at "n"
theorem uK:NV jZ "law" cR "_law_at" 9:=by walk_at "n"
theorem A9:NV jZ "law" cR "_law_single" 10:=by walk_at "n"
theorem uI:NV jZ "law" cR "_law_ends" 11:=by walk_at "n"
theorem rV:(a8 cR).names.lookup (Str.ofString "_law_book_here") = some NameKind.cell:=by decide +kernel
theorem zP:GL cR "len" := by decide +kernel
theorem J5:GL cR "min" := by decide +kernel
theorem J4:GL cR "max" := by decide +kernel
theorem mW:GL cR "range" := by decide +kernel
theorem uB:GL cR "_law_begun" := by decide +kernel
theorem w8:GL cR "_law_book" := by decide +kernel
theorem kN:GL cR "_law_paper" := by decide +kernel
theorem gX:GL cR "claim" := by decide +kernel
theorem lZ:GL cR "_law_take" := by decide +kernel
theorem uC:GL cR "_law_mixed" := by decide +kernel
theorem jH:GL cR "_law_doubled" := by decide +kernel
abbrev OD (P:Program) (w:World) (K:PySem.W.Frag) (mg:Str -> Option Value) (base:Heap):Prop:=Cal P w K mg base 8 "law" ["_law_script"] (o9 K [.scr] (.v .fl) FF)
theorem ZS (D:Df K mg "law" cR) (T:Txt K mg) (C_l_begun:yX P w K mg base) (C_l_book:vM P w K mg base) (C_l_take:lQ P w K mg base) (C_l_mixed:rK P w K mg base) (C_most_of:rM P w K mg base) (C_l_paper:rL P w K mg base) (C_claim:yW P w K mg base) (C_l_doubled:mG P w K mg base):OD P w K mg base :=
  have sc:=S7
  i6 (p:=GU) (mn:=[.no,.no,.no,.no,.no,.no,.no,.no,.no,.no,.no,.no]) Y5 D S7 (λ_ _ _ _ _ _ us hl=>match us,hl with | [_],_=>rfl) rfl rfl rfl λf cdv A outer s H E hr =>
  (a9 (iQ a1r rfl rfl (fM mW T.b_range (aC (bW (JS rfl) HR J4 T.b_max IN (a7 (aC aB) (a7 (aC (bW (RM rfl) HS J5 T.b_min OT (a7 (aC (O3 zP T.b_len k3 (a7 (a5M LC.h rfl) aA))) (a7 (aC aB) aA)) OP OM)) aA)) IM IL))) (aN (i:=1) sc.nd rfl LD.lo (.inl rfl) rfl (by decide))
 (a9 (b4 (i:=2) sc.nd rfl qB.lo rfl (.inl rfl) (aI C_l_begun (hr.mono (by decide)) rfl rfl (a7 (a5M LC.h rfl) (a7 (aC (jX LD.h rfl)) aA)) uB FG) rfl (by decide))
 (a9 (b4 (i:=3) sc.nd rfl kW.lo rfl (.inl rfl) (aI C_l_book (hr.mono (by decide)) rfl rfl (a7 (B5 qB.h rfl) (a7 (aC aB) aA)) w8 IW) rfl (by decide))
 (a9 (pY (i:=4) (N':=["_law_benches", "_law_book_here"]) (n:=1) (cap:=[3]) (mb:=[(.v .fl),(.c .fl)]) sc.nd rfl uJ.lo rfl (.inl rfl) rfl (by decide) (λ_=>rfl) rfl (show LcOk jZ (a8 cR) _ _ _ _ from ⟨by rfl,by decide +kernel,by decide +kernel,by decide +kernel,by decide +kernel,by decide +kernel,by decide +kernel,by rfl⟩) rfl rfl (fM mW T.b_range (aC aB)) (λ_ _ _ _=>(aU (dU (i:=0) (by decide +kernel) rfl (by decide +kernel)) rfl (by decide))) (λ_ _ _ _=>eE) (λ_ _ _ _=>(aI C_most_of (hr.mono (by decide)) rfl rfl (a7 (a5V (aK (m:=(.c .fl)) (gD (i:=1) rfl (by decide +kernel) rfl rV (by decide +kernel) (by decide +kernel)) rfl rfl)) (a7 (aC (aK (m:=(.v .fl)) (bD (i:=0) rfl (by decide +kernel) (by decide +kernel) (by decide +kernel)) rfl rfl)) aA)) (CN (by decide +kernel)) FI)))
 (a9 (b4 (i:=5) sc.nd rfl LE.lo rfl (.inl rfl) (eN .sn (a7 (G2 (nU (aI C_l_paper (hr.mono (by decide)) rfl rfl (a7 (B5 qB.h rfl) (a7 (IF (aP (el:=.fl) kW.h rfl)) aA)) kN xE))) (a7 (G2 (nU (aI C_l_paper (hr.mono (by decide)) rfl rfl (a7 (B5 qB.h rfl) (a7 (IF (aP (el:=.fl) kW.h rfl)) aA)) kN xE))) aA)) rfl) rfl (by decide))
 (a9 (x8 4 .sn rfl (b4 (i:=6) sc.nd rfl qC.lo rfl (.inl rfl) (B4 (a5K (o5 (N':=["_law_one"]) (n:=1) (cap:=[]) (mb:=[(.v .sn)]) (λ_=>rfl) rfl (show LcOk jZ (a8 cR) _ _ _ _ from ⟨by rfl,by decide +kernel,by decide +kernel,by decide +kernel,by decide +kernel,by decide +kernel,by decide +kernel,by rfl⟩) rfl rfl (mD (a49 uJ.h rfl)) (λ_ _ _ _=>(aU (dU (i:=0) (by decide +kernel) rfl (by decide +kernel)) rfl (by decide))) (λ_ _ _ _=>eE) (λ_ _ _ _=>(aL (DP (aK (m:=(.v .sn)) (bD (i:=0) rfl (by decide +kernel) (by decide +kernel) (by decide +kernel)) rfl rfl)) (aC aB) (λ_ _=>rfl))))) (aP (el:=.sn) LE.h rfl)) rfl (by decide)))
 (a9 (x8 6 .sn rfl (SX (m1:=[.scr,(.v .fl),.st,(.o .fl),(.z .sn),(.o .sn),(.v .sn),.no,.no,.no,.no,.no]) rfl (iQ a1r rfl rfl (fM mW T.b_range (aC aB)) (aN (i:=7) sc.nd rfl iU.lo (.inl rfl) rfl (by decide))
 (a9 (iQ a1r rfl rfl (fY (RZ qC.h rfl)) (aN (i:=8) sc.nd rfl LF.lo (.inl rfl) rfl (by decide))
 (a9 (rJ (fQ EE a5O (aC (aI C_claim (hr.mono (by decide)) rfl rfl (a7 (IF (aP (el:=.fl) kW.h rfl)) (a7 (aC (jX iU.h rfl)) (a7 (yM (RZ LF.h rfl)) aA))) gX lV)) (yM (aL (DP (aL (ZH (a49 uJ.h rfl)) (aC (jX iU.h rfl)) (λ_ _=>rfl))) (aC aB) (λ_ _=>rfl))) (eC _))
 (aX (cB B3 rfl))
 aW)
 (gI (m1:=[.scr,(.v .fl),.st,(.o .fl),(.z .sn),(.o .sn),(.v .sn),(.v .fl),.no,.no,.no,.no]) rfl aW)))
 (a9 (rJ (fQ RP LV (aC (aI C_claim (hr.mono (by decide)) rfl rfl (a7 (IF (aP (el:=.fl) kW.h rfl)) (a7 (aC (jX iU.h rfl)) (a7 (yM (aL (DP (aL (ZH (a49 uJ.h rfl)) (aC (jX iU.h rfl)) (λ_ _=>rfl))) (aC aB) (λ_ _=>rfl))) aA))) gX lV)) (yM (aL (DP (aL (ZH (a49 uJ.h rfl)) (aC (jX iU.h rfl)) (λ_ _=>rfl))) (aC aB) (λ_ _=>rfl))) (eC _))
 (aX (cB B3 rfl))
 aW)
 (gI (m1:=[.scr,(.v .fl),.st,(.o .fl),(.z .sn),(.o .sn),(.v .sn),.no,.no,.no,.no,.no]) rfl aW))))))
 (a9 (b4 (i:=7) sc.nd rfl iU.lo rfl (.inl rfl) (aI C_l_take (hr.mono (by decide)) rfl rfl (a7 (B5 qB.h rfl) (a7 (aC aB) aA)) lZ b7) rfl (by decide))
 (a9 (b4 (i:=9) sc.nd rfl uK.lo rfl (.inl rfl) (aI C_l_take (hr.mono (by decide)) rfl rfl (a7 (B5 qB.h rfl) (a7 (aC aB) aA)) lZ b7) rfl (by decide))
 (a9 (b4 (i:=10) sc.nd rfl A9.lo rfl (.inl rfl) (aI C_l_mixed (hr.mono (by decide)) rfl rfl (a7 (yM (aL (DP (RZ qC.h rfl)) (aC (jX uK.h rfl)) (λ_ _=>rfl))) (a7 (yM (aL (DP (RZ qC.h rfl)) (aC (bO bM nT (aC (jX uK.h rfl)) (aC aB))) (λ_ _=>rfl))) aA)) uC FH) rfl (by decide))
 (a9 (rJ (fQ RO a5N (aC (bW iW jR zP T.b_len k3 (a7 (IF (aP (el:=.fl) A9.h rfl)) aA) lG lE)) (aC aB) (eC _))
 (a9 (b4 (i:=11) sc.nd rfl uI.lo rfl (.inl rfl) (aI C_claim (hr.mono (by decide)) rfl rfl (a7 (IF (aP (el:=.fl) kW.h rfl)) (a7 (aC (jX iU.h rfl)) (a7 (ZI (aI C_l_doubled (hr.mono (by decide)) rfl rfl (a7 (yM (aL (DP (RZ qC.h rfl)) (aC (jX uK.h rfl)) (λ_ _=>rfl))) aA) jH qV)) aA))) gX lV) rfl (by decide))
 (a9 (b4 (i:=11) sc.nd rfl uI.lo rfl (.inl rfl) (bO bM nT (aC (jX uI.h rfl)) (aC (aI C_claim (hr.mono (by decide)) rfl rfl (a7 (IF (aP (el:=.fl) kW.h rfl)) (a7 (aC (jX iU.h rfl)) (a7 (ZI (aI C_l_doubled (hr.mono (by decide)) rfl rfl (a7 (yM (aL (DP (RZ qC.h rfl)) (aC (bO bM nT (aC (jX uK.h rfl)) (aC aB))) (λ_ _=>rfl))) aA) jH qV)) aA))) gX lV))) rfl (by decide))
 (a9 (rJ (fQ pN a1T (aC (bO fW NU (aC aB) (aC (aI C_claim (hr.mono (by decide)) rfl rfl (a7 (IF (aP (el:=.fl) kW.h rfl)) (a7 (aC (jX iU.h rfl)) (a7 (IF (aP (el:=.fl) A9.h rfl)) aA))) gX lV)))) (aC (jX uI.h rfl)) (eC _))
 (aX (cB B3 rfl))
 aW)
 (gI (m1:=[.scr,(.v .fl),.st,(.o .fl),(.z .sn),(.o .sn),(.v .sn),(.v .fl),.no,(.v .fl),(.o .fl),.no]) rfl aW))))
 aW)
 (gI (m1:=[.scr,.no,.no,.no,.no,.no,.no,.no,.no,.no,.no,.no]) rfl aW))))))))))))
 (aX (cB B3 rfl)))
end
theorem XR {l:PySem.W.OpenLaw} {w:World} {K:PySem.W.Frag} {h:Heap} {mg:Str -> Option Value} {fa:Addr} (X:K.In h) (G:h.Ns mainGlobals mg) (hfa:mg "law" = some (.ref fa))
  (D_is_over:DfA K "is_over" m8) (D_moments_of:DfA K "moments_of" fK) (D_load_at:DfA K "load_at" gP) (D_loads_of:DfA K "loads_of" cA) (D_crowd_of:DfA K "crowd_of" c9) (D_worth_of:DfA K "worth_of" gG) (D_places_of:DfA K "places_of" j9) (D_free_roads:DfA K "free_roads" bU) (D_stretch_roads:DfA K "stretch_roads" aM) (D_roads_of:DfA K "roads_of" bV) (D_greatest_gains:DfA K "greatest_gains" aF) (D_numbers_along:DfA K "numbers_along" bN) (D_changed_by:DfA K "changed_by" eD) (D_prices_by:DfA K "prices_by" cI) (D_best_up_to:DfA K "best_up_to" aJ) (D_greatest_load:DfA K "greatest_load" c5) (D_best_for:DfA K "best_for" fE) (D_most_of:DfA K "most_of" fL) (D_toll_of:DfA K "toll_of" iP) (D_rest_of:DfA K "rest_of" iO) (D_rests_of:DfA K "rests_of" gF) (D_prices_of:DfA K "prices_of" gQ) (D_claim:DfA K "claim" l5) (D_l_begun:DfA K "_law_begun" eL) (D_l_take:DfA K "_law_take" fU) (D_l_name:DfA K "_law_name" fT) (D_l_book:DfA K "_law_book" cH) (D_l_paper:DfA K "_law_paper" bE) (D_l_mixed:DfA K "_law_mixed" dW) (D_l_doubled:DfA K "_law_doubled" j8) (D_law:DfA K "law" cR)
  (z_enumerate:PySem.W.nsIn K mainGlobals "enumerate" = some none) (z_int:PySem.W.nsIn K mainGlobals "int" = some none) (z_len:PySem.W.nsIn K mainGlobals "len" = some none) (z_list:PySem.W.nsIn K mainGlobals "list" = some none) (z_max:PySem.W.nsIn K mainGlobals "max" = some none) (z_min:PySem.W.nsIn K mainGlobals "min" = some none) (z_range:PySem.W.nsIn K mainGlobals "range" = some none) (z_set:PySem.W.nsIn K mainGlobals "set" = some none) (z_sorted:PySem.W.nsIn K mainGlobals "sorted" = some none) (z_sum:PySem.W.nsIn K mainGlobals "sum" = some none) (z_zip:PySem.W.nsIn K mainGlobals "zip" = some none)  :
  ∃ fd:FuncData,(∀ (s:Shared) (v:Value),BindsTo s fd ⟨[v],[]⟩ [("_law_script",v)]) /\ ∀ base:Heap,K.In base -> base.Ns mainGlobals mg -> FnOk l.prog w K mg base OE 8 fa fd ["_law_script"] (ES K):=by
 obtain ⟨fl,oc,od,an,osl,kV,doc,pm,cdv,ct,al,ll,cl,kl⟩:=D_law.ex
 have e:=hfa.symm.trans (PySem.W.mg_of X G al)
 cases e
 have T:Txt K mg:=⟨a2c X G z_enumerate,a2c X G z_int,a2c X G z_len,a2c X G z_list,a2c X G z_max,a2c X G z_min,a2c X G z_range,a2c X G z_set,a2c X G z_sorted,a2c X G z_sum,a2c X G z_zip⟩
 refine ⟨PySem.W.fnOf "law" "law" (iS cR) (fI cR) (a8 cR) .none kV doc pm an cdv ct,λs v=>.of_eq rfl,λbase _ _=>?_⟩
 have C_is_over:jY l.prog w K mg base:=JH (D_is_over.df X G) T
 have C_moments_of:iR l.prog w K mg base:=BK (D_moments_of.df X G) T
 have C_worth_of:oF l.prog w K mg base:=GT (D_worth_of.df X G) T
 have C_free_roads:lA l.prog w K mg base:=BJ (D_free_roads.df X G) T
 have C_stretch_roads:iD l.prog w K mg base:=wG (D_stretch_roads.df X G) T
 have C_greatest_gains:gT l.prog w K mg base:=uU (D_greatest_gains.df X G) T
 have C_numbers_along:iC l.prog w K mg base:=wF (D_numbers_along.df X G) T
 have C_changed_by:l9 l.prog w K mg base:=BI (D_changed_by.df X G) T
 have C_prices_by:mJ l.prog w K mg base:=E6 (D_prices_by.df X G) T
 have C_prices_of:mK l.prog w K mg base:=E7 (D_prices_of.df X G) T
 have C_l_begun:yX l.prog w K mg base:=MJ (JI (D_l_begun.df X G) T )
 have C_l_take:lQ l.prog w K mg base:=OX (NM (D_l_take.df X G) T )
 have C_l_mixed:rK l.prog w K mg base:=JJ (D_l_mixed.df X G) T
 have C_l_doubled:mG l.prog w K mg base:=E4 (D_l_doubled.df X G) T
 have C_load_at:mH l.prog w K mg base:=JL (D_load_at.df X G) T C_is_over
 have C_places_of:mI l.prog w K mg base:=E5 (D_places_of.df X G) T C_moments_of
 have C_toll_of:rO l.prog w K mg base:=JO (D_toll_of.df X G) T C_is_over
 have C_l_name:vN l.prog w K mg base:=NL (D_l_name.df X G) T C_l_take
 have C_l_paper:rL l.prog w K mg base:=JK (D_l_paper.df X G) T C_l_take
 have C_loads_of:oC l.prog w K mg base:=GQ (D_loads_of.df X G) T C_moments_of C_load_at
 have C_roads_of:oE l.prog w K mg base:=GS (D_roads_of.df X G) T C_free_roads C_stretch_roads C_load_at
 have C_rest_of:rN l.prog w K mg base:=JN (D_rest_of.df X G) T C_toll_of
 have C_l_book:vM l.prog w K mg base:=NK (D_l_book.df X G) T C_l_take C_l_name
 have C_crowd_of:oB l.prog w K mg base:=GP (D_crowd_of.df X G) T C_loads_of C_is_over
 have C_best_up_to:l8 l.prog w K mg base:=BH (D_best_up_to.df X G) T C_places_of C_roads_of C_greatest_gains C_changed_by C_numbers_along C_prices_by
 have C_rests_of:oD l.prog w K mg base:=GR (D_rests_of.df X G) T C_rest_of
 have C_greatest_load:iB l.prog w K mg base:=wD (D_greatest_load.df X G) T C_crowd_of
 have C_claim:yW l.prog w K mg base:=QU (D_claim.df X G) T C_rests_of C_prices_of
 have C_best_for:oA l.prog w K mg base:=GO (D_best_for.df X G) T C_best_up_to C_greatest_load
 have C_most_of:rM l.prog w K mg base:=JM (D_most_of.df X G) T C_best_for C_worth_of
 have C_law:OD l.prog w K mg base:=ZS (D_law.df X G) T C_l_begun C_l_book C_l_take C_l_mixed C_most_of C_l_paper C_claim C_l_doubled
 exact XZ (TQ C_law ZJ) hfa ll
theorem a5E {l:PySem.W.OpenLaw} {q:Program} {loose:List Str} {XP:(Str -> Option Value) -> Heap -> Prop} {YP:World -> Heap -> Prop} {d:DefRec} {K:Params -> PySem.W.Frag} (hn:l.most = some 63) (hdf:d.params.defaults = [])
  (hY:∀ (w:World) (h:Heap),YP w h -> (K w.params).In h)
  (F:∀ (w:World) (mg:Str -> Option Value) (fa:Addr) (h:Heap),(K w.params).In h -> h.Ns mainGlobals mg -> mg d.name = some (.ref fa) ->
   ∃ fd:FuncData,(∀ (s:Shared) (u:Value),BindsTo s fd ⟨[u],[]⟩ [("_law_script",u)]) /\ ∀ base:Heap,(K w.params).In base -> base.Ns mainGlobals mg -> FnOk l.prog w (K w.params) mg base OE 8 fa fd ["_law_script"] (ES (K w.params))) :
  PySem.W.WalkO q loose XP YP l.row.toRowW d [] (λf vs=>PySem.call f vs) :=
 L2.WY (n:=63) (k:=8) (x := "_law_script") (CX:=λ_=>OE) (sp:=λw=>ES (K w.params)) hn (by decide) hdf ⟨rfl,by decide,by decide⟩ hY F (λ_ _ a ns hl o hS=>⟨a,ns,rfl,S8 hS o,hl,λ_=>rfl⟩) λ_ _ _ _ _ z=>z
end K35
open PySem PySem.W PyProof.Rows
set_option maxRecDepth 100000 in
set_option maxHeartbeats 0 in
theorem PySem.Challenge.cw_benchworth_k35_whole_papers_above_the_mo_holds : PySem.Challenge.rw_benchworth_k35_whole_papers_above_the_mo.Holds := by
 w_on;o_law;k_head;(case hw=>w_witness2)
 k_fill
 refine K35.a5E (l:=PySem.Challenge.rw_benchworth_k35_whole_papers_above_the_mo) rfl rfl (λw h Y=>PySem.W.kIn_of Y) ?F
 case F =>
  intro w mg fa h KX G hmg
  refine' K35.XR KX G hmg ?D_is_over ?D_moments_of ?D_load_at ?D_loads_of ?D_crowd_of ?D_worth_of ?D_places_of ?D_free_roads ?D_stretch_roads ?D_roads_of ?D_greatest_gains ?D_numbers_along ?D_changed_by ?D_prices_by ?D_best_up_to ?D_greatest_load ?D_best_for ?D_most_of ?D_toll_of ?D_rest_of ?D_rests_of ?D_prices_of ?D_claim ?D_l_begun ?D_l_take ?D_l_name ?D_l_book ?D_l_paper ?D_l_mixed ?D_l_doubled ?D_law ?z_enumerate ?z_int ?z_len ?z_list ?z_max ?z_min ?z_range ?z_set ?z_sorted ?z_sum ?z_zip
  (case D_is_over=>walk_at "d")
  (case D_moments_of=>walk_at "d")
  (case D_load_at=>walk_at "d")
  (case D_loads_of=>walk_at "d")
  (case D_crowd_of=>walk_at "d")
  (case D_worth_of=>walk_at "d")
  (case D_places_of=>walk_at "d")
  (case D_free_roads=>walk_at "d")
  (case D_stretch_roads=>walk_at "d")
  (case D_roads_of=>walk_at "d")
  (case D_greatest_gains=>walk_at "d")
  (case D_numbers_along=>walk_at "d")
  (case D_changed_by=>walk_at "d")
  (case D_prices_by=>walk_at "d")
  (case D_best_up_to=>walk_at "d")
  (case D_greatest_load=>walk_at "d")
  (case D_best_for=>walk_at "d")
  (case D_most_of=>walk_at "d")
  (case D_toll_of=>walk_at "d")
  (case D_rest_of=>walk_at "d")
  (case D_rests_of=>walk_at "d")
  (case D_prices_of=>walk_at "d")
  (case D_claim=>walk_at "d")
  (case D_l_begun=>walk_at "d")
  (case D_l_take=>walk_at "d")
  (case D_l_name=>walk_at "d")
  (case D_l_book=>walk_at "d")
  (case D_l_paper=>walk_at "d")
  (case D_l_mixed=>walk_at "d")
  (case D_l_doubled=>walk_at "d")
  (case D_law=>walk_at "d")
  (case z_enumerate=>k_is)
  (case z_int=>k_is)
  (case z_len=>k_is)
  (case z_list=>k_is)
  (case z_max=>k_is)
  (case z_min=>k_is)
  (case z_range=>k_is)
  (case z_set=>k_is)
  (case z_sorted=>k_is)
  (case z_sum=>k_is)
  (case z_zip=>k_is)
