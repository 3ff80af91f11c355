import PyProof.Rows.All
import Wide.All
import OpenK.AllK
import Wide.FinOn
import Lean
import PyProof.EqAt
import PyProof.CallStr
import PyProof.StrCalls2
import PyProof.EqKinds
import PyProof.TupleCall
import PyProof.NeKinds
import PyProof.CollectWalk
import PyProof.CollectStr
import PyProof.SetRoads
import KE.KDictSum
import PyProof.Rows.RuleN_abs
import PyProof.Rows.SeqMore2
import KE.KSortTup
import PyProof.SeqI3
import PyProof.ZipIter
import PyProof.Rows.SetFrom
import PyProof.FactsAll.set
import PySem.Challenge.RW_benchworth_k28_whole_moved_prices
set_option Elab.async false
set_option linter.all false
set_option maxRecDepth 100000
set_option genSizeOf false
abbrev a0a:=@PySem.wpAny_bind
abbrev a0b:=@List.getElem?_eq_getElem
abbrev a0c:=@List.length_map
abbrev a0d:=@PySem.wpAny_pure
abbrev a0e:=@PySem.Heap.get?_push_of_some
abbrev a0f:=@List.map_cons
abbrev a0g:=@List.getD_eq_getElem?_getD
abbrev a0h:=@List.getElem?_map
abbrev a0i:=@List.getElem?_eq_some_iff
abbrev a0j:=@List.mem_cons_of_mem
abbrev a0k:=@Bool.false_ne_true
abbrev a0l:=@Array.length_toList
abbrev a0m:=@List.mem_cons_self
abbrev a0n:=@PySem.Heap.lt_size
namespace L2
open PySem PySem.Spec PyProof.Rows
abbrev b9:=Sum Int Str
def u9:b9 -> Value -> Bool
 | .inl k,v=>Value.isInt k v
 | .inr x,v=>Value.isStrOf x v
def a0H (w:World):b9 -> Int
 | .inl k=>hashInt k
 | .inr x=>hashStr w x
theorem bX:∀ {k:b9} {v:Value},u9 k v = true -> (∃ i t,k = Sum.inl i /\ v = Value.int i t) \/ (∃ x t,k = Sum.inr x /\ v = Value.str x t)
 | .inl i,v,h=>by
  obtain ⟨t,e⟩:=Value.isInt_shape (k:=i) (v:=v) h
  exact .inl ⟨i,t,rfl,e⟩
 | .inr x,v,h=>by
  obtain ⟨t,e⟩:=Value.isStrOf_shape (x:=x) (v:=v) h
  exact .inr ⟨x,t,rfl,e⟩
theorem FR (i:Int) (t:Tok):u9 (.inl i) (.int i t) = true:=by simp [u9,Value.isInt]
theorem FS (x:Str) (t:Tok):u9 (.inr x) (.str x t) = true:=by simp [u9,Value.isStrOf]
theorem TX (a b:Int):decide ((Sum.inl a:b9) = Sum.inl b) = (a == b):=by
 by_cases e:a = b
 ·subst e;simp
 ·have h:¬ (Sum.inl a:b9) = Sum.inl b:=λq=>e (Sum.inl.inj q)
  rw [decide_eq_false h]
  exact (beq_eq_false_iff_ne.mpr e).symm
theorem U0 (a b:Str):decide ((Sum.inr a:b9) = Sum.inr b) = decide (a = b):=by
 by_cases e:a = b
 ·subst e;simp
 ·have h:¬ (Sum.inr a:b9) = Sum.inr b:=λq=>e (Sum.inr.inj q)
  rw [decide_eq_false h,decide_eq_false e]
theorem TY (a:Int) (b:Str):decide ((Sum.inl a:b9) = Sum.inr b) = false:=decide_eq_false (λq=>nomatch q)
theorem TZ (a:Str) (b:Int):decide ((Sum.inr a:b9) = Sum.inl b) = false:=decide_eq_false (λq=>nomatch q)
def aV (prog:Program) (w:World):PySem.KeyKind prog w b9 where
 is:=u9
 hash:=a0H w
 inj:=λv a b ha hb=>by
  rcases bX ha with ⟨i,t,rfl,rfl⟩ | ⟨x,t,rfl,rfl⟩
  ·rcases bX hb with ⟨j,u,rfl,e⟩ | ⟨y,u,rfl,e⟩
   ·injection e with e1 _;rw [e1]
   ·exact nomatch e
  ·rcases bX hb with ⟨j,u,rfl,e⟩ | ⟨y,u,rfl,e⟩
   ·exact nomatch e
   ·injection e with e1 _;rw [e1]
 byValue:=λk v h=>by
  rcases bX h with ⟨i,t,rfl,rfl⟩ | ⟨x,t,rfl,rfl⟩ <;> rfl
 pyHash:=λhv h=>by
  rcases bX hv with ⟨i,t,rfl,rfl⟩ | ⟨x,t,rfl,rfl⟩
  ·exact wpAny_pyHash_int h
  ·exact wpAny_pyHash_str h
 eqBool:=λhu hv h=>by
  rcases bX hu with ⟨i,t,rfl,rfl⟩ | ⟨x,t,rfl,rfl⟩
  ·rcases bX hv with ⟨j,u,rfl,rfl⟩ | ⟨y,u,rfl,rfl⟩
   ·rw [TX] at h;exact wpAny_eqBool_int h
   ·rw [TY] at h;exact SeqAt.EqAt.int_str i t y u _ _ _ _ h
  ·rcases bX hv with ⟨j,u,rfl,rfl⟩ | ⟨y,u,rfl,rfl⟩
   ·rw [TZ] at h;exact SeqAt.EqAt.str_int x t j u _ _ _ _ h
   ·rw [U0] at h;exact wpAny_eqBool_str h
 «strs»:=λk x t v h=>by
  rcases bX h with ⟨i,u,rfl,e⟩ | ⟨y,u,rfl,e⟩
  ·exact nomatch e
  ·injection e with e1 _
   subst e1
   cases v <;> rfl
theorem yR (prog:Program) (w:World) (i:Int) (t:Tok):(aV prog w).is (.inl i) (.int i t) = true:=FR i t
theorem yS (prog:Program) (w:World) (x:Str) (t:Tok):(aV prog w).is (.inr x) (.str x t) = true:=FS x t
inductive V where
 | non | bl (b:Bool) | int (i:Int) | str (x:Str) | byt (b:Array UInt8) | flt (b:UInt64) | ref (a:Addr) | ty (n:String)
 deriving DecidableEq
def b7:V -> Value -> Prop
 | .non,u=>u = Value.none
 | .bl b,u=>u = Value.bool b
 | .int i,u=>∃ t,u = Value.int i t
 | .str x,u=>∃ t,u = Value.str x t
 | .byt b,u=>∃ t,u = Value.bytes b t
 | .flt b,u=>∃ t,u = Value.float b t
 | .ref a,u=>u = Value.ref a
 | .ty n,u=>u = Value.type n
abbrev aU:List V -> List Value -> Prop:=Paired b7
theorem aU.length {xs:List V} {us:List Value} (r:aU xs us):xs.length = us.length:=Paired.length r
theorem aU.get:∀ {xs:List V} {us:List Value} {i:Nat} {x:V},aU xs us -> xs[i]? = some x -> ∃ u,us[i]? = some u /\ b7 x u
 | _,_,_,_,.nil,e=>by simp at e
 | _,_,0,_,.cons r _,e=>by simp at e;subst e;exact ⟨_,rfl,r⟩
 | _,_,i + 1,x,.cons _ t,e=>by
  obtain ⟨u,h1,h2⟩:=aU.get (i:=i) (x:=x) t (by simpa using e)
  exact ⟨u,by simpa using h1,h2⟩
theorem aU.set {x:V} {u:Value} (r:b7 x u):∀ {xs:List V} {us:List Value} (i:Nat),aU xs us -> aU (xs.set i x) (us.set i u)
 | _,_,_,.nil=>.nil
 | _,_,0,.cons _ t=>.cons r t
 | _,_,i + 1,.cons q t=>.cons q (aU.set r i t)
theorem aU.append:∀ {xs ys:List V} {us ws:List Value},aU xs us -> aU ys ws -> aU (xs ++ ys) (us ++ ws)
 | _,_,_,_,.nil,s=>s
 | _,_,_,_,.cons r t,s=>.cons r (aU.append t s)
theorem aU.take:∀ {xs:List V} {us:List Value} (n:Nat),aU xs us -> aU (xs.take n) (us.take n)
 | _,_,0,_=>.nil
 | _,_,_ + 1,.nil=>.nil
 | _,_,n + 1,.cons r t=>.cons r (aU.take n t)
theorem aU.drop:∀ {xs:List V} {us:List Value} (n:Nat),aU xs us -> aU (xs.drop n) (us.drop n)
 | _,_,0,r=>r
 | _,_,_ + 1,.nil=>.nil
 | _,_,n + 1,.cons _ t=>aU.drop n t
def pG:Option V -> Option Value -> Prop
 | some v,some u=>b7 v u
 | none,none=>True
 | _,_=>False
def KV {κ:Type}:List (κ × V) -> List (κ × Value) -> Prop:=Paired λ(p:κ × V) (q:κ × Value)=>p.1 = q.1 /\ b7 p.2 q.2
def kV:b9 -> V
 | .inl i=>.int i
 | .inr x=>.str x
inductive HO where
 | lst (xs:List V)
 | tup (xs:List V)
 | dK (kvs:List (b9 × V)) | dT (kvs:List (List b9 × V))
 | set (S:Int -> Bool) (n:Nat)
 | ins (C dx:Addr) (fs:List (Str × V))
 | own (x:Addr)
 | xd (fs:List (Str × V))
 | met (f x:Addr)
 | rng (lo hi:Int)
 | frz (o:Obj) (u:HO)
 | tbl
 | ext (φ:Heap -> Prop)
abbrev Hp:=Addr -> Option HO
def bD (H:Hp) (a:Addr) (o:HO):Hp:=λb=>if b = a then some o else H b
theorem b5 {H:Hp} {a:Addr} {o:HO}:bD H a o a = some o:=by unfold bD;rw [if_pos rfl]
theorem aE {H:Hp} {a b:Addr} {o:HO} (h:b ≠ a):bD H a o b = H b:=by unfold bD;rw [if_neg h]
theorem EC {H:Hp} {a:Addr} {o u:HO}:bD (bD H a o) a u = bD H a u:=by
 funext b;unfold bD;split <;> rfl
theorem Y6 {H:Hp} {a b:Addr} {o u:HO} (h:H a = some o) (h':H b = some u) (d:o ≠ u):a ≠ b:=by
 intro e;subst e;rw [h] at h';exact d (Option.some.inj h')
theorem cO {H:Hp} {a b:Addr} {o:HO} (h:H a = some o) (h':H b = none):a ≠ b:=by
 intro e;subst e;rw [h] at h';cases h'
section
variable (P:Program) (w:World)
def cF (H:Hp) (h:Heap) (a:Addr):HO -> Prop
 | .lst xs=>xs.length <= sizeLine /\ ∃ (its:List Value) (n:Nat),aU xs its /\ h.get? a = some { cls:=.type "list",data:=.seq its.toArray n }
 | .tup xs=>xs.length <= sizeLine /\ ∃ its:List Value,aU xs its /\ IsTup h a its.toArray
 | .dK kvs=>kvs.length <= sizeLine /\ (a == sysModules) = false /\ ∃ vs,KV kvs vs /\ h.DictOf (aV P w) a vs
 | .dT kvs=>kvs.length <= sizeLine /\ (a == sysModules) = false /\ ∃ xs:List (List b9 × Addr × Value),
   Paired (λ(p:List b9 × V) (q:List b9 × Addr × Value)=>p.1 = q.1 /\ H q.2.1 = some (.tup (p.1.map kV)) /\ b7 p.2 q.2.2) kvs xs /\
   ∃ o es ep,h.get? a = some o /\ o.ExactDict /\ o.data = .dict es ep /\ es.toList = xs.map (entryOfKey (tupleKind (aV P w))) /\ (xs.map (·.1)).Nodup
 | .set S n=>h.SetOf (intKind P w) a S n
 | .ins C dx fs=>H dx = some (.own a) /\ fs.length <= 1000 /\ dx ≠ a /\ h.get? a = some (PySem.W.instObj C dx) /\
   ∃ mA,h.Ns1 dx mA /\ (∀ f,pG (fs.lookup f) (mA f)) /\ PySem.Within mA (fs.map (·.1))
 | .own _=>∃ o,h.get? a = some o
 | .xd fs=>∃ mA,h.Ns1 a mA /\ ∀ f,pG (fs.lookup f) (mA f)
 | .rng lo hi=>∃ t u v,h.get? a = some { cls:=.type "range",data:=.fields #[.int lo t,.int hi u,.int 1 v] }
 | .frz o u=>h.get? a = some o /\ cF H h a u
 | .tbl=>∃ ps:Array Value,h.get? a = some { cls:=.none,data:=.fields ps } /\ TriplesOk ps.toList
 | .met f x=>h.get? a = some (PySem.W.methodObj (.ref f) (.ref x))
 | .ext φ=>φ h /\ (∃ o,h.get? a = some o) /\ ∀ h1 h2:Heap,φ h1 -> (∀ o,h1.get? a = some o -> h2.get? a = some o) -> φ h2
def l7 (H:Hp) (h:Heap):Prop:=∀ a o,H a = some o -> cF P w H h a o
end
section
variable {P:Program} {w:World} {H H':Hp} {h h':Heap} {a:Addr} {o:HO}
theorem cF.lt (x:cF P w H h a o):a < h.objs.size:=by
 cases o with
 | lst xs=>obtain ⟨_,_,_,_,e⟩:=x;exact a0n e
 | tup xs=>obtain ⟨_,_,_,p⟩:=x;exact p.lt
 | dK kvs=>obtain ⟨_,_,_,_,o,_,_,e,_⟩:=x;exact a0n e
 | dT kvs=>obtain ⟨_,_,_,_,o,_,_,e,_⟩:=x;exact a0n e
 | set S n=>obtain ⟨o,_,_,_,e,_⟩:=x;exact a0n e
 | ins C dx fs=>obtain ⟨_,_,_,e,_⟩:=x;exact a0n e
 | own y=>obtain ⟨_,e⟩:=x;exact a0n e
 | xd fs=>obtain ⟨_,⟨_,_,_,e,_⟩,_⟩:=x;exact a0n e
 | rng lo hi=>obtain ⟨_,_,_,e⟩:=x;exact a0n e
 | frz ob u=>obtain ⟨e,_⟩:=x;exact a0n e
 | tbl=>obtain ⟨_,e,_⟩:=x;exact a0n e
 | met f y=>exact a0n (show h.get? a = some _ from x)
 | ext φ=>obtain ⟨_,⟨_,e⟩,_⟩:=x;exact a0n e
theorem Paired.mapP {α β:Type} {F G:α -> β -> Prop}:∀ {l₁:List α} {l₂:List β},Paired F l₁ l₂ -> (∀ a b,F a b -> G a b) -> Paired G l₁ l₂
 | _,_,.nil,_=>.nil
 | _,_,.cons r t,f=>.cons (f _ _ r) (Paired.mapP t f)
theorem cF.stay (x:cF P w H h a o) (k:∀ b u,(b = a \/ H b = some (.own a)) -> h.get? b = some u -> h'.get? b = some u)
  (ho:∀ b,H b = some (.own a) -> H' b = some (.own a)) (ht:∀ b xs,H b = some (.tup xs) -> H' b = some (.tup xs)):cF P w H' h' a o:=by
 induction o with
 | lst xs=>obtain ⟨z,its,n,r,e⟩:=x;exact ⟨z,its,n,r,k _ _ (.inl rfl) e⟩
 | tup xs=>obtain ⟨z,its,r,ob,e,c⟩:=x;exact ⟨z,its,r,ob,k _ _ (.inl rfl) e,c⟩
 | dK kvs=>obtain ⟨z,y,vs,r,ob,es,ep,e,c⟩:=x;exact ⟨z,y,vs,r,ob,es,ep,k _ _ (.inl rfl) e,c⟩
 | dT kvs =>
  obtain ⟨z,y,xs,r,ob,es,ep,e,c⟩:=x
  exact ⟨z,y,xs,Paired.mapP r λp q z=>⟨z.1,ht _ _ z.2.1,z.2.2⟩,ob,es,ep,k _ _ (.inl rfl) e,c⟩
 | set S n=>obtain ⟨ob,es,ep,t,e,c⟩:=x;exact ⟨ob,es,ep,t,k _ _ (.inl rfl) e,c⟩
 | ins C dx fs =>
  obtain ⟨d,z,ne,e,mA,⟨od,es,ep,e2,c⟩,r⟩:=x
  exact ⟨ho _ d,z,ne,k _ _ (.inl rfl) e,mA,⟨od,es,ep,k _ _ (.inr d) e2,c⟩,r⟩
 | own y=>obtain ⟨ob,e⟩:=x;exact ⟨ob,k _ _ (.inl rfl) e⟩
 | xd fs=>obtain ⟨mA,⟨od,es,ep,e,c⟩,r⟩:=x;exact ⟨mA,⟨od,es,ep,k _ _ (.inl rfl) e,c⟩,r⟩
 | rng lo hi=>obtain ⟨t,u,v,e⟩:=x;exact ⟨t,u,v,k _ _ (.inl rfl) e⟩
 | frz ob u ih=>obtain ⟨e,q⟩:=x;exact ⟨k _ _ (.inl rfl) e,ih q⟩
 | tbl=>obtain ⟨ps,e,q⟩:=x;exact ⟨ps,k _ _ (.inl rfl) e,q⟩
 | met f y =>
  have e:h.get? a = some (PySem.W.methodObj (.ref f) (.ref y)):=x
  show h'.get? a = some (PySem.W.methodObj (.ref f) (.ref y))
  exact k a _ (.inl rfl) e
 | ext φ=>obtain ⟨p,⟨o,e⟩,st⟩:=x;exact ⟨st _ _ p λo q=>k _ _ (.inl rfl) q,⟨o,k _ _ (.inl rfl) e⟩,st⟩
theorem l7.lt (x:l7 P w H h) (e:H a = some o):a < h.objs.size:=(x a o e).lt
theorem l7.fresh (x:l7 P w H h) (e:h.objs.size <= a):H a = none:=by
 cases q:H a with
 | none=>rfl
 | some u=>exact absurd (Nat.lt_of_lt_of_le (x.lt q) e) (Nat.lt_irrefl _)
theorem l7.kept (x:l7 P w H h) (k:∀ b u,h.get? b = some u -> h'.get? b = some u):l7 P w H h':=λa o e =>
 (x a o e).stay (λb u _ q=>k b u q) (λ_ q=>q) λ_ _ q=>q
theorem l7.laid (x:l7 P w H h) (k:∀ b u,h.get? b = some u -> h'.get? b = some u) (hp:h.objs.size <= a) (new:cF P w (bD H a o) h' a o):l7 P w (bD H a o) h':=λb u e=>by
 have hn:=x.fresh hp
 by_cases hb:b = a
 ·subst hb;rw [b5] at e;cases e;exact new
 ·rw [aE hb] at e
  exact (x b u e).stay (λc v _ q=>k c v q) (λc q=>by rw [aE (cO q hn)];exact q) λc xs q=>by rw [aE (cO q hn)];exact q
end
def Rd (H:Hp) (a:Addr) (u:HO):Prop:=H a = some u \/ ∃ o,H a = some (.frz o u)
theorem Rd.ok {P:Program} {w:World} {H:Hp} {h:Heap} {a:Addr} {u:HO} (r:Rd H a u) (x:l7 P w H h):cF P w H h a u:=by
 rcases r with r | ⟨o,r⟩
 ·exact x a u r
 ·obtain ⟨_,q⟩:=x a _ r
  exact q
def X4:Option HO -> Prop
 | some (.lst _)=>True
 | some (.dK _)=>True
 | some (.dT _)=>True
 | some (.set _ _)=>True
 | some (.ins _ _ _)=>True
 | some (.ext _)=>True
 | _=>False
section
variable {P:Program} {w:World} {H:Hp} {h h':Heap} {x e:Addr} {o':HO}
theorem l7.write (ok:l7 P w H h) (mu:X4 (H x)) (he:e = x \/ H e = some (.own x)) (k:∀ b u,b ≠ e -> h.get? b = some u -> h'.get? b = some u) (heo:∃ u,h'.get? e = some u)
  (new:cF P w (bD H x o') h' x o'):l7 P w (bD H x o') h':=λb u q=>by
 have nown:∀ c y,H c = some (.own y) -> c ≠ x:=λc y r z=>by subst z;rw [r] at mu;exact mu
 have ntup:∀ c xs,H c = some (.tup xs) -> c ≠ x:=λc xs r z=>by subst z;rw [r] at mu;exact mu
 by_cases hb:b = x
 ·subst hb;rw [b5] at q;cases q;exact new
 ·rw [aE hb] at q
  by_cases hbe:b = e
  ·have q':H b = some (.own x):=by
    rcases he with z | z
    ·exact absurd (hbe.trans z) hb
    ·rw [hbe];exact z
   rw [q] at q';cases q'
   obtain ⟨v,hv⟩:=heo
   exact ⟨v,by rw [hbe];exact hv⟩
  ·refine (ok b u q).stay (λc v hc r=>k c v ?_ r) (λc r=>by rw [aE (nown c b r)];exact r) λc xs r=>by rw [aE (ntup c xs r)];exact r
   rcases hc with rfl | hc
   ·exact hbe
   ·rintro rfl
    rcases he with z | z
    ·exact nown c b hc z
    ·rw [hc] at z;cases z;exact hb rfl
end
structure Un (fs ex:List Addr) (H H':Hp) (h h':Heap):Prop where
 keep:∀ b o,h.get? b = some o -> H b = none -> b ∉ fs -> b ∉ ex -> h'.get? b = some o
 slot:∀ b o,h.get? b = some o -> H b = none -> b ∈ fs -> b ∉ ex -> ∃ sl,h'.get? b = some { o with slots:=sl }
 free:∀ b o,h.get? b = some o -> H b = none -> b ∉ ex -> H' b = none
 there:∀ b o,h.get? b = some o -> b ∉ ex -> ∃ o',h'.get? b = some o'
 tups:∀ b xs,H b = some (.tup xs) -> H' b = some (.tup xs)
 frzs:∀ b o u,H b = some (.frz o u) -> H' b = some (.frz o u)
 tbls:∀ b,H b = some .tbl -> H' b = some .tbl
section
variable {fs fs' ex ex':List Addr} {H H1 H2:Hp} {h h1 h2 h':Heap} {a x e:Addr} {o:HO}
theorem Un.any (u:Un fs ex H H1 h h1) {b:Addr} {ob:Obj} (q:h.get? b = some ob) (n:H b = none) (hx:b ∉ ex):∃ sl,h1.get? b = some { ob with slots:=sl }:=by
 by_cases hb:b ∈ fs
 ·exact u.slot b ob q n hb hx
 ·exact ⟨ob.slots,u.keep b ob q n hb hx⟩
theorem Un.kept (k:∀ b u,h.get? b = some u -> h'.get? b = some u):Un fs ex H H h h' :=
 ⟨λb ob q _ _ _=>k b ob q,λb ob q _ _ _=>⟨ob.slots,k b ob q⟩,λ_ _ _ n _=>n,λb ob q _=>⟨ob,k b ob q⟩,λ_ _ q=>q,λ_ _ _ q=>q,λ_ q=>q⟩
theorem Un.refl:Un fs ex H H h h:=Un.kept λ_ _ q=>q
theorem Un.laid (k:∀ b u,h.get? b = some u -> h'.get? b = some u) (hp:h.objs.size <= a) (hn:H a = none):Un fs ex H (bD H a o) h h' where
 keep:=λb u q _ _ _=>k b u q
 slot:=λb u q _ _ _=>⟨u.slots,k b u q⟩
 free:=λb u q n _=>by rw [aE (Nat.ne_of_lt (Nat.lt_of_lt_of_le (a0n q) hp))];exact n
 there:=λb u q _=>⟨u,k b u q⟩
 tups:=λb xs q=>by rw [aE (cO q hn)];exact q
 frzs:=λb u xs q=>by rw [aE (cO q hn)];exact q
 tbls:=λb q=>by rw [aE (cO q hn)];exact q
theorem Un.write (mu:X4 (H x)) (he:e = x \/ H e = some (.own x)) (k:∀ b u,b ≠ e -> h.get? b = some u -> h'.get? b = some u) (heo:∃ u,h'.get? e = some u):Un fs ex H (bD H x o) h h':=by
 have hx:∀ b,H b = none -> b ≠ x:=λb n z=>by subst z;rw [n] at mu;exact mu
 have hb:∀ b,H b = none -> b ≠ e:=λb n z=>by
  subst z
  rcases he with r | r
  ·exact hx b n r
  ·rw [n] at r;cases r
 have hm:∀ b u,H b = some u -> ¬ X4 (some u) -> b ≠ x:=λb u q nm z=>by subst z;rw [q] at mu;exact nm mu
 refine ⟨λb u q n _ _=>k b u (hb b n) q,λb u q n _ _=>⟨u.slots,k b u (hb b n) q⟩,λb u q n _=>by rw [aE (hx b n)];exact n,λb u q _=>?_,
  λb xs q=>by rw [aE (hm b _ q λz=>z)];exact q,λb u xs q=>by rw [aE (hm b _ q λz=>z)];exact q,λb q=>by rw [aE (hm b _ q λz=>z)];exact q⟩
 by_cases hbe:b = e
 ·subst hbe;exact heo
 ·exact ⟨u,k b u hbe q⟩
end
def ZW (h:Heap) (H:Hp):List Addr:=(List.range h.objs.size).filter λa=>(H a).isSome
def FM (h:Heap) (H:Hp):Heap:=PySem.W.hideAll h (ZW h H)
theorem FN (h:Heap) (H:Hp):(FM h H).objs.size = h.objs.size:=PySem.W.hideAll_size _ _
theorem JA {h:Heap} {H:Hp} {b:Addr} {o:Obj} (e:h.get? b = some o) (n:H b = none):(FM h H).get? b = some o :=
 PySem.W.hideAll_get _ e λhm=>by
  have q:(H b).isSome = true:=(List.mem_filter.mp hm).2
  rw [n] at q;simp at q
theorem OH {h:Heap} {H:Hp} {b:Addr} {o:Obj} (e:(FM h H).get? b = some o):h.get? b = some o /\ H b = none:=by
 have e':h.get? b = some o:=PySem.W.of_hideAll (ZW h H) e
 refine ⟨e',?_⟩
 cases q:H b with
 | none=>rfl
 | some x =>
  have hm:b ∈ ZW h H:=List.mem_filter.mpr ⟨List.mem_range.mpr (a0n e'),by simp [q]⟩
  have z:(FM h H).get? b = none:=PySem.W.hideAll_none (ZW h H) hm
  rw [z] at e;cases e
def GX (a b:Array GenState):Prop:=∀ (i:Nat) (x:GenState),a[i]? = some x -> b[i]? = some x
structure Mod (K:PySem.W.Frag) (mg:Str -> Option Value) (base:Heap):Prop where
 kin:K.In base
 glob:base.Ns mainGlobals mg
 blt:∃ mb,base.Ns builtinsNs mb /\ ∀ x:Str,x ≠ "__name__" -> mb x = bootBuiltins x
 nolimit:base.NoLimit
 mods:∃ o,base.get? sysModules = some o
 bmod:∃ bm ob,BMod base mainGlobals mg bm ob
structure Cx where
 prog:Program
 w:World
 K:PySem.W.Frag
 mg:Str -> Option Value
 base:Heap
 A:Around
 N:List Str
 s₀:Shared
 H₀:Hp
 env:Env
 outer:List Env
 stack:List Env
 ex:List Addr
 fn:Str -> Bool
 calm:Bool
 pn:List (Addr × Obj)
 xe:Value -> Shared -> Prop
def J4 (l:List Env):List Addr:=l.filterMap (·.frame)
abbrev Cx.fs (X:Cx):List Addr:=J4 X.outer
def a05 (sc:Scope) (x:Str):Prop:=sc.names.lookup x = some .local \/ sc.names.lookup x = some .cell \/ sc.names.lookup x = some .free
def EJ (sc:Scope) (x:Str):Prop:=sc.names.lookup x = some .local \/ sc.names.lookup x = some .cell
def a02 (env:Env) (h:Heap) (m:Str -> Option Value) (x:Str) (u:Value):Prop :=
 (env.kindOf x = some .local /\ m x = some u) \/ ((env.kindOf x = some .cell \/ env.kindOf x = some .free) /\ ∃ c,env.cells.lookup x = some c /\ h.IsCell c (some u))
structure Cx.Ok (X:Cx):Prop where
 mod:Mod X.K X.mg X.base
 kind:X.env.scope.kind = .function
 glob:X.env.globals = mainGlobals
 blt:X.env.builtins = builtinsNs
 above:X.s₀.heap.objs.size <= X.env.locals
 inj:∀ x y c,X.env.cells.lookup x = some c -> X.env.cells.lookup y = some c -> x = y
 has:∀ x,(X.env.kindOf x = some .cell \/ X.env.kindOf x = some .free) -> ∃ c,X.env.cells.lookup x = some c
 cab:∀ x c,X.fn x = true -> X.env.cells.lookup x = some c -> X.s₀.heap.objs.size <= c
 hd:X.calm = true -> X.A.handled = none
 frames:X.A.frames = some X.stack
 stk:X.stack = X.outer \/ (X.stack = X.env :: X.outer /\ X.env.frame = some X.env.locals)
 exf:∀ b ∈ X.ex,b ≠ X.env.locals /\ ∀ x c,X.env.cells.lookup x = some c -> c ≠ b
 bs:∀ b o,X.base.get? b = some o -> X.s₀.heap.get? b = some o /\ X.H₀ b = none
 bsz:X.base.objs.size <= X.s₀.heap.objs.size
 noex:∀ b o,X.base.get? b = some o -> b ∉ X.ex
 exfs:∀ b ∈ X.ex,b ∉ X.fs
 funs:X.s₀.heap.FunFrames X.base X.outer
 frf:∀ b ∈ X.fs,X.H₀ b = none
 tb:∀ b ∈ X.base.life.registered,X.H₀ b = some .tbl
structure Inv (X:Cx) (pins:List (Addr × Obj)) (σ:List (Option V)) (H:Hp) (s:Shared):Prop where
 ok:X.Ok
 os:s.os = X.s₀.os
 bare:AllBare s.gens /\ GX X.s₀.gens s.gens
 base:Un X.fs X.ex X.H₀ H X.s₀.heap s.heap
 loc:∃ m,s.heap.Ns X.env.locals m /\ ∀ (i:Nat) (x:Str) (v:V),X.N[i]? = some x -> σ[i]? = some (some v) -> a05 X.env.scope x -> ∃ u,b7 v u /\ a02 X.env s.heap m x u
 cell:∀ x c,X.env.cells.lookup x = some c -> ∃ v,s.heap.IsCell c v
 free:H X.env.locals = none
 freeC:∀ x c,X.env.cells.lookup x = some c -> H c = none
 pin:∀ p ∈ X.pn ++ pins,s.heap.get? p.1 = some p.2 /\ H p.1 = none /\ p.1 ≠ X.env.locals /\ p.1 ∉ X.fs /\ ∀ v,p.2.data ≠ .cell v
 hok:l7 X.prog X.w H s.heap
 len:σ.length = X.N.length
section
variable {X:Cx} {pins:List (Addr × Obj)} {σ:List (Option V)} {H H':Hp} {s:Shared} {h':Heap}
theorem Cx.Ok.nofr (ok:X.Ok) {b:Addr} {o:Obj} (e:X.base.get? b = some o):b ∉ X.fs:=λhb=>by
 have:=(ok.funs.mem hb).1
 rw [e] at this;cases this
theorem Inv.bs (I:Inv X pins σ H s):∀ b o,X.base.get? b = some o -> s.heap.get? b = some o /\ H b = none:=λb o e =>
 ⟨I.base.keep b o (I.ok.bs b o e).1 (I.ok.bs b o e).2 (I.ok.nofr e) (I.ok.noex b o e),I.base.free b o (I.ok.bs b o e).1 (I.ok.bs b o e).2 (I.ok.noex b o e)⟩
theorem Inv.bk (I:Inv X pins σ H s):∀ b o,X.base.get? b = some o -> s.heap.get? b = some o:=λb o e=>(I.bs b o e).1
theorem Inv.mod (I:Inv X pins σ H s):Mod X.K X.mg X.base:=I.ok.mod
theorem Inv.kIn (I:Inv X pins σ H s):X.K.In s.heap:=I.ok.mod.kin.keeps I.bk
theorem Inv.lt (I:Inv X pins σ H s):X.env.locals < s.heap.objs.size:=let ⟨_,hn,_⟩:=I.loc;hn.lt
theorem Inv.sz (I:Inv X pins σ H s):X.s₀.heap.objs.size <= s.heap.objs.size:=Nat.le_trans I.ok.above (Nat.le_of_lt I.lt)
theorem Inv.nofs (I:Inv X pins σ H s) {a:Addr} (h:s.heap.objs.size <= a):a ∉ X.fs:=λhb=>by
 obtain ⟨_,o,ho,_⟩:=I.ok.funs.mem hb
 exact absurd (Nat.lt_of_lt_of_le (a0n ho) (Nat.le_trans I.sz h)) (Nat.lt_irrefl _)
theorem Inv.cne (I:Inv X pins σ H s):∀ x c,X.env.cells.lookup x = some c -> c ≠ X.env.locals:=λx c e z=>by
 obtain ⟨v,o,ho,hd⟩:=I.cell x c e
 obtain ⟨m,⟨o',es,ep,ho',hd',_⟩,_⟩:=I.loc
 rw [z,ho'] at ho;cases ho;rw [hd'] at hd;cases hd
theorem Inv.funs (I:Inv X pins σ H s):s.heap.FunFrames X.base X.outer:=by
 have all:∀ (l:List Env),(∀ b ∈ J4 l,b ∈ X.fs) -> X.s₀.heap.FunFrames X.base l -> s.heap.FunFrames X.base l:=by
  intro l
  induction l with
  | nil=>intro _ _;trivial
  | cons env r ih =>
   intro hs hl
   obtain ⟨hk,⟨L,o,hf,hn,ho,hd⟩,hr⟩:=hl
   have hL:L ∈ X.fs:=hs L (by unfold J4;rw [List.filterMap_cons,hf];exact a0m)
   obtain ⟨sl,e⟩:=I.base.slot L o ho (I.ok.frf L hL) hL λz=>I.ok.exfs L z hL
   exact ⟨hk,⟨L,_,hf,hn,e,hd⟩,ih (λb hb=>hs b (by unfold J4;rw [List.filterMap_cons,hf];exact a0j _ hb)) hr⟩
 exact all X.outer (λ_ hb=>hb) I.ok.funs
theorem Inv.stack (I:Inv X pins σ H s):s.heap.FunFrames X.base X.stack:=by
 rcases I.ok.stk with e | ⟨e,hf⟩
 ·rw [e];exact I.funs
 ·rw [e]
  obtain ⟨m,hn,_⟩:=I.loc
  refine .cons (by rw [I.ok.kind];decide) hf hn ?_ I.funs
  exact Heap.get?_none_of_le (Nat.le_trans I.ok.bsz I.ok.above)
theorem Inv.stkSub (I:Inv X pins σ H s):∀ b ∈ J4 X.stack,b ∈ X.env.locals :: X.fs:=λb hb=>by
 rcases I.ok.stk with e | ⟨e,hf⟩
 ·rw [e] at hb;exact a0j _ hb
 ·rw [e] at hb
  unfold J4 at hb
  rw [List.filterMap_cons,hf] at hb
  exact hb
theorem Inv.stkFree (I:Inv X pins σ H s):∀ b ∈ J4 X.stack,H b = none:=λb hb=>by
 rcases List.mem_cons.mp (I.stkSub b hb) with e | hb
 ·rw [e];exact I.free
 ·obtain ⟨_,o,ho,_⟩:=I.ok.funs.mem hb
  exact I.base.free b o ho (I.ok.frf b hb) λz=>I.ok.exfs b z hb
theorem Inv.tb (I:Inv X pins σ H s):∀ b ∈ X.base.life.registered,H b = some .tbl:=λb hb=>I.base.tbls b (I.ok.tb b hb)
theorem Inv.step {g':Array GenState} {t':Nat} {d':Drawn} {ch:List Addr} (I:Inv X pins σ H s)
  (hch:∀ b ∈ ch,(b ∈ X.ex \/ X.s₀.heap.objs.size <= b) /\ b ≠ X.env.locals /\ (∀ x c,X.env.cells.lookup x = some c -> c ≠ b) /\ ∀ p ∈ X.pn ++ pins,p.1 ≠ b)
  (keep:∀ b o,b ≠ X.env.locals -> b ∉ X.fs -> b ∉ ch -> s.heap.get? b = some o -> H b = none -> h'.get? b = some o)
  (slot:∀ b o,b ≠ X.env.locals -> b ∈ X.fs -> b ∉ ch -> s.heap.get? b = some o -> H b = none -> ∃ sl,h'.get? b = some { o with slots:=sl }) (free:∀ b o,b ∉ ch -> s.heap.get? b = some o -> H b = none -> H' b = none)
  (there:∀ b o,b ∉ ch -> s.heap.get? b = some o -> ∃ o',h'.get? b = some o')
  (tups:∀ b xs,H b = some (.tup xs) -> H' b = some (.tup xs)) (frzs:∀ b o u,H b = some (.frz o u) -> H' b = some (.frz o u)) (tbls:∀ b,H b = some .tbl -> H' b = some .tbl)
  (ns:∀ m,s.heap.Ns X.env.locals m -> h'.Ns X.env.locals m) (hok:l7 X.prog X.w H' h') (hg:AllBare g' /\ GX X.s₀.gens g') :
  Inv X pins σ H' { s with heap:=h',gens:=g',drawn:=d',toks:=t' }:=by
 have neL:∀ b o,X.s₀.heap.get? b = some o -> b ≠ X.env.locals:=λb o e=>Nat.ne_of_lt (Nat.lt_of_lt_of_le (a0n e) I.ok.above)
 have neC:∀ b o,X.s₀.heap.get? b = some o -> b ∉ X.ex -> b ∉ ch:=λb o e hx hb=>by
  rcases (hch b hb).1 with z | z
  ·exact hx z
  ·exact absurd (Nat.lt_of_lt_of_le (a0n e) z) (Nat.lt_irrefl _)
 have cellK:∀ x c,X.env.cells.lookup x = some c -> ∀ v,s.heap.IsCell c v -> h'.IsCell c v:=λx c e v ⟨o,ho,hd⟩=>by
  have nch:c ∉ ch:=λz=>(hch c z).2.2.1 x c e rfl
  by_cases hc:c ∈ X.fs
  ·obtain ⟨sl,q⟩:=slot c o (I.cne x c e) hc nch ho (I.freeC x c e)
   exact ⟨_,q,hd⟩
  ·exact ⟨o,keep c o (I.cne x c e) hc nch ho (I.freeC x c e),hd⟩
 refine ⟨I.ok,I.os,hg,⟨λb o e n hb hx=>?_,λb o e n hb hx=>?_,λb o e n hx=>?_,λb o e hx=>?_,λb xs e=>tups b xs (I.base.tups b xs e),λb o xs e=>frzs b o xs (I.base.frzs b o xs e),λb e=>tbls b (I.base.tbls b e)⟩,?_,λx c e=>?_,?_,λx c e=>?_,λp hp=>?_,hok,I.len⟩
 ·exact keep b o (neL b o e) hb (neC b o e hx) (I.base.keep b o e n hb hx) (I.base.free b o e n hx)
 ·obtain ⟨sl,e1⟩:=I.base.slot b o e n hb hx
  obtain ⟨sl',e2⟩:=slot b _ (neL b o e) hb (neC b o e hx) e1 (I.base.free b o e n hx)
  exact ⟨sl',e2⟩
 ·obtain ⟨o',e1⟩:=I.base.there b o e hx
  exact free b o' (neC b o e hx) e1 (I.base.free b o e n hx)
 ·obtain ⟨o',e1⟩:=I.base.there b o e hx
  exact there b o' (neC b o e hx) e1
 ·obtain ⟨m,hn,hl⟩:=I.loc
  refine ⟨m,ns m hn,λi x v e1 e2 e3=>?_⟩
  obtain ⟨u,r,l⟩:=hl i x v e1 e2 e3
  refine ⟨u,r,?_⟩
  rcases l with l | ⟨k,c,e,z⟩
  ·exact .inl l
  ·exact .inr ⟨k,c,e,cellK x c e _ z⟩
 ·obtain ⟨v,z⟩:=I.cell x c e
  exact ⟨v,cellK x c e v z⟩
 ·obtain ⟨m,⟨o,_,_,ho,_⟩,_⟩:=I.loc
  exact free _ o (λz=>(hch _ z).2.1 rfl) ho I.free
 ·obtain ⟨v,o,ho,hd⟩:=I.cell x c e
  exact free c o (λz=>(hch c z).2.2.1 x c e rfl) ho (I.freeC x c e)
 ·obtain ⟨e,n,ne,nf,d⟩:=I.pin p hp
  have nch:p.1 ∉ ch:=λz=>(hch p.1 z).2.2.2 p hp rfl
  exact ⟨keep p.1 p.2 ne nf nch e n,free p.1 p.2 nch e n,ne,nf,d⟩
theorem Inv.un {t':Nat} (I:Inv X pins σ H s) (u:Un X.fs [] H H' s.heap h') (hok:l7 X.prog X.w H' h'):Inv X pins σ H' { s with heap:=h',toks:=t' }:=by
 obtain ⟨m,⟨o,es,ep,ho,r⟩,_⟩:=id I.loc
 obtain ⟨sl,hL⟩:=u.any ho I.free (by simp)
 exact I.step (g':=s.gens) (d':=s.drawn) (ch:=[]) (λ_ z=>nomatch z) (λb o _ hb _ e n=>u.keep b o e n hb (by simp)) (λb o _ hb _ e n=>u.slot b o e n hb (by simp)) (λb o _ e n=>u.free b o e n (by simp)) (λb o _ e=>u.there b o e (by simp)) u.tups u.frzs u.tbls (λm' hm=>by
  obtain ⟨o',es',ep',ho',r'⟩:=hm
  rw [ho] at ho';cases ho'
  exact ⟨_,es',ep',hL,r'⟩) hok I.bare
theorem Inv.call {g':Array GenState} {t':Nat} {d':Drawn} {ch:List Addr} (I:Inv X pins σ H s) (u:Un (J4 X.stack) ch H H' s.heap h') (hok:l7 X.prog X.w H' h') (hg:AllBare g' /\ GX s.gens g')
  (hch:∀ b ∈ ch,(b ∈ X.ex \/ X.s₀.heap.objs.size <= b) /\ b ≠ X.env.locals /\ (∀ x c,X.env.cells.lookup x = some c -> c ≠ b) /\ ∀ p ∈ X.pn ++ pins,p.1 ≠ b) :
  Inv X pins σ H' { s with heap:=h',gens:=g',drawn:=d',toks:=t' }:=by
 obtain ⟨m,⟨o,es,ep,ho,r⟩,_⟩:=id I.loc
 obtain ⟨sl,hL⟩:=u.any ho I.free λz=>(hch _ z).2.1 rfl
 exact I.step (ch:=ch) hch (λb o hL hb hc e n=>u.keep b o e n (λz=>(List.mem_cons.mp (I.stkSub b z)).elim hL hb) hc) (λb o _ _ hc e n=>u.any e n hc) (λb o hc e n=>u.free b o e n hc) (λb o hc e=>u.there b o e hc) u.tups u.frzs u.tbls (λm' hm=>by
  obtain ⟨o',es',ep',ho',r'⟩:=hm
  rw [ho] at ho';cases ho'
  exact ⟨_,es',ep',hL,r'⟩) hok ⟨hg.1,λi x e=>hg.2 i x (I.bare.2 i x e)⟩
theorem Inv.turned {t':Nat} {it:Addr} (I:Inv X pins σ H s) (k:∀ b o,b ≠ it -> s.heap.get? b = some o -> h'.get? b = some o) (hn:H it = none) (hL:it ≠ X.env.locals)
  (h1:it ∈ X.ex \/ X.s₀.heap.objs.size <= it) (h2:∀ x c,X.env.cells.lookup x = some c -> c ≠ it) (h3:∀ p ∈ X.pn ++ pins,p.1 ≠ it):Inv X pins σ H { s with heap:=h',toks:=t' }:=by
 have nit:∀ b u,H b = some u -> b ≠ it:=λb u e z=>by rw [z,hn] at e;cases e
 refine I.step (g':=s.gens) (d':=s.drawn) (ch:=[it]) (λb hb=>?_) (λb o _ _ hc e _=>k b o (λz=>hc (by simp [z])) e) (λb o _ _ hc e _=>⟨o.slots,k b o (λz=>hc (by simp [z])) e⟩) (λ_ _ _ _ n=>n)
  (λb o hc e=>⟨o,k b o (λz=>hc (by simp [z])) e⟩) (λ_ _ e=>e) (λ_ _ _ e=>e) (λb e=>e) (λm hm=>?_) (λb u e=>?_) I.bare
 ·have e:b = it:=by simpa using hb
  subst e
  exact ⟨h1,hL,h2,h3⟩
 ·obtain ⟨o,es,ep,ho,r⟩:=hm
  exact ⟨o,es,ep,k _ o (Ne.symm hL) ho,r⟩
 ·refine (I.hok b u e).stay (λc v hc q=>k c v ?_ q) (λ_ q=>q) λ_ _ q=>q
  rcases hc with z | z
  ·rw [z];exact nit b u e
  ·exact nit c _ z
theorem Inv.tok (I:Inv X pins σ H s) (t:Nat):Inv X pins σ H { s with toks:=t }:=I.un (h':=s.heap) (t':=t) Un.refl I.hok
theorem Inv.kept {t':Nat} (I:Inv X pins σ H s) (k:∀ b u,s.heap.get? b = some u -> h'.get? b = some u):Inv X pins σ H { s with heap:=h',toks:=t' }:=I.un (Un.kept k) (I.hok.kept k)
theorem Inv.laid {a:Addr} {o:HO} {t':Nat} (I:Inv X pins σ H s) (k:∀ b u,s.heap.get? b = some u -> h'.get? b = some u) (hp:s.heap.objs.size <= a) (new:cF X.prog X.w (bD H a o) h' a o) :
  Inv X pins σ (bD H a o) { s with heap:=h',toks:=t' }:=I.un (Un.laid k hp (I.hok.fresh hp)) (I.hok.laid k hp new)
theorem Inv.write {x e:Addr} {o:HO} {t':Nat} (I:Inv X pins σ H s) (mu:X4 (H x)) (he:e = x \/ H e = some (.own x)) (k:∀ b u,b ≠ e -> s.heap.get? b = some u -> h'.get? b = some u) (heo:∃ u,h'.get? e = some u)
  (new:cF X.prog X.w (bD H x o) h' x o):Inv X pins σ (bD H x o) { s with heap:=h',toks:=t' }:=I.un (Un.write mu he k heo) (I.hok.write mu he k heo new)
theorem Inv.pins_of {pins':List (Addr × Obj)} (I:Inv X pins σ H s) (h:∀ p ∈ pins',s.heap.get? p.1 = some p.2 /\ H p.1 = none /\ p.1 ≠ X.env.locals /\ p.1 ∉ X.fs /\ ∀ v,p.2.data ≠ .cell v):Inv X pins' σ H s :=
 ⟨I.ok,I.os,I.bare,I.base,I.loc,I.cell,I.free,I.freeC,λp hp=>(List.mem_append.mp hp).elim (λz=>I.pin p (List.mem_append_left _ z)) (h p),I.hok,I.len⟩
theorem yV {N:List Str} (hN:N.Nodup) {i j:Nat} {x:Str} (a:N[i]? = some x) (b:N[j]? = some x):i = j:=by
 obtain ⟨h1,e1⟩:=a0i.mp a
 obtain ⟨h2,e2⟩:=a0i.mp b
 exact (List.getElem_inj hN).mp (e1.trans e2.symm)
theorem GD {M:Model} {A:Around} {E:Value -> Shared -> Prop} {i:Nat} {x:Str} {v:V} {u:Value} {Q:Unit -> Shared -> Prop} (I:Inv X pins σ H s) (hN:X.N.Nodup) (hi:X.N[i]? = some x) (hx:EJ X.env.scope x) (r:b7 v u)
  (h:∀ s',Inv X pins (σ.set i (some v)) H s' -> (∃ a,Heap.SameBut a s.heap s'.heap /\ (a = X.env.locals \/ X.env.cells.lookup x = some a)) -> Q () s') (hf:X.fn x = true \/ X.env.scope.names.lookup x = some .local:=by first | exact .inl rfl | exact .inr rfl | assumption):wpAny M A (storeName X.env x u) Q E s:=by
 obtain ⟨m,hn,hl⟩:=id I.loc
 have hcls:(X.env.scope.kind == .class || (X.env.scope.kind == .module && X.env.locals != X.env.globals)) = false:=by rw [I.ok.kind];rfl
 have hiσ:i < σ.length:=by rw [I.len];exact (a0i.mp hi).1
 have cne:=I.cne
 have tracked:∀ {a:Addr} {h':Heap},(∃ o,s.heap.get? a = some o /\ H a = none) -> Heap.SameBut a s.heap h' -> l7 X.prog X.w H h':=fun {a h'} ha hs b ob e=>by
  obtain ⟨_,_,hfree⟩:=ha
  refine (I.hok b ob e).stay (λc w' hc q=>(hs.2 c ?_).trans q) (λ_ q=>q) λ_ _ q=>q
  rintro rfl
  rcases hc with rfl | hc
  ·rw [hfree] at e;cases e
  ·rw [hfree] at hc;cases hc
 rcases hx with hk | hk
 ·refine wpAny_storeName_local hk hn (λh' hn' hs=>?_) hcls
  obtain ⟨oL,_,_,hoL,_⟩:=id hn
  refine h _ ⟨I.ok,I.os,I.bare,⟨λb o e n hb hx=>?_,λb o e n hb hx=>?_,I.base.free,λb o e hx=>?_,I.base.tups,I.base.frzs,I.base.tbls⟩,⟨_,hn',λj y v' e1 e2 e3=>?_⟩,λy c e=>?_,I.free,I.freeC,λp hp=>?_,tracked ⟨oL,hoL,I.free⟩ hs,by simpa using I.len⟩ ⟨_,hs,.inl rfl⟩
  ·exact (hs.2 b (Nat.ne_of_lt (Nat.lt_of_lt_of_le (a0n e) I.ok.above))).trans (I.base.keep b o e n hb hx)
  ·obtain ⟨sl,e1⟩:=I.base.slot b o e n hb hx
   exact ⟨sl,(hs.2 b (Nat.ne_of_lt (Nat.lt_of_lt_of_le (a0n e) I.ok.above))).trans e1⟩
  ·obtain ⟨o',e1⟩:=I.base.there b o e hx
   exact ⟨o',(hs.2 b (Nat.ne_of_lt (Nat.lt_of_lt_of_le (a0n e) I.ok.above))).trans e1⟩
  ·by_cases hj:j = i
   ·subst hj
    rw [hi] at e1;cases e1
    rw [List.getElem?_set_self hiσ] at e2
    cases e2
    exact ⟨u,r,.inl ⟨hk,by simp⟩⟩
   ·rw [List.getElem?_set_ne (Ne.symm hj)] at e2
    obtain ⟨u',r',q⟩:=hl j y v' e1 e2 e3
    refine ⟨u',r',?_⟩
    rcases q with ⟨k,e⟩ | ⟨k,c,e,z⟩
    ·refine .inl ⟨k,?_⟩
     have:y ≠ x:=λe=>hj (yV hN e1 (e ▸ hi))
     simp [this,e]
    ·exact .inr ⟨k,c,e,z.sameBut hs (cne y c e)⟩
  ·obtain ⟨w',z⟩:=I.cell y c e
   exact ⟨w',z.sameBut hs (cne y c e)⟩
  ·obtain ⟨e,n,ne,nf,d⟩:=I.pin p hp
   exact ⟨(hs.2 p.1 ne).trans e,n,ne,nf,d⟩
 ·have hfn:X.fn x = true:=by
   rcases hf with z | z
   ·exact z
   ·rw [z] at hk;cases hk
  obtain ⟨c,hc⟩:=I.ok.has x (.inl hk)
  obtain ⟨w',z⟩:=I.cell x c hc
  refine wpAny_storeName_cell I.ok.kind hk hc z (λh' hc' hs=>?_)
  obtain ⟨oc,hoc,hocd⟩:=id z
  refine h { s with heap:=h' } ⟨I.ok,I.os,I.bare,⟨λb o e n hb hx=>?_,λb o e n hb hx=>?_,I.base.free,λb o e hx=>?_,I.base.tups,I.base.frzs,I.base.tbls⟩,⟨m,hn.sameBut hs (Ne.symm (cne x c hc)),λj y v' e1 e2 e3=>?_⟩,λy c' e=>?_,I.free,I.freeC,λp hp=>?_,tracked ⟨oc,hoc,I.freeC x c hc⟩ hs,by simpa using I.len⟩ ⟨c,hs,.inr hc⟩
  ·exact (hs.2 b (Nat.ne_of_lt (Nat.lt_of_lt_of_le (a0n e) (I.ok.cab x c hfn hc)))).trans (I.base.keep b o e n hb hx)
  ·obtain ⟨sl,e1⟩:=I.base.slot b o e n hb hx
   exact ⟨sl,(hs.2 b (Nat.ne_of_lt (Nat.lt_of_lt_of_le (a0n e) (I.ok.cab x c hfn hc)))).trans e1⟩
  ·obtain ⟨o',e1⟩:=I.base.there b o e hx
   exact ⟨o',(hs.2 b (Nat.ne_of_lt (Nat.lt_of_lt_of_le (a0n e) (I.ok.cab x c hfn hc)))).trans e1⟩
  ·by_cases hj:j = i
   ·subst hj
    rw [hi] at e1;cases e1
    rw [List.getElem?_set_self hiσ] at e2
    cases e2
    exact ⟨u,r,.inr ⟨.inl hk,c,hc,hc'⟩⟩
   ·rw [List.getElem?_set_ne (Ne.symm hj)] at e2
    obtain ⟨u',r',q⟩:=hl j y v' e1 e2 e3
    refine ⟨u',r',?_⟩
    rcases q with q | ⟨k,c',e,z'⟩
    ·exact .inl q
    ·refine .inr ⟨k,c',e,z'.sameBut hs ?_⟩
     rintro rfl
     exact hj (yV hN e1 (I.ok.inj _ _ _ e hc ▸ hi))
  ·by_cases hcc:c' = c
   ·subst hcc;exact ⟨_,hc'⟩
   ·obtain ⟨w2,z2⟩:=I.cell y c' e
    exact ⟨w2,z2.sameBut hs hcc⟩
  ·obtain ⟨e,n,ne,nf,d⟩:=I.pin p hp
   refine ⟨(hs.2 p.1 ?_).trans e,n,ne,nf,d⟩
   intro q
   rw [q,hoc] at e
   have q':oc = p.2:=Option.some.inj e
   exact d w' (by rw [<- q'];exact hocd)
theorem nH {M:Model} {A:Around} {E:Value -> Shared -> Prop} {i:Nat} {x:Str} {v:V} {u:Value} {Q:Unit -> Shared -> Prop} (I:Inv X pins σ H s) (hN:X.N.Nodup) (hi:X.N[i]? = some x) (hx:EJ X.env.scope x) (r:b7 v u)
  (h:∀ s',Inv X pins (σ.set i (some v)) H s' -> Q () s') (hf:X.fn x = true \/ X.env.scope.names.lookup x = some .local:=by first | exact .inl rfl | exact .inr rfl | assumption):wpAny M A (storeName X.env x u) Q E s :=
 GD I hN hi hx r (λs' I' _=>h s' I') hf
theorem Inv.call' {s':Shared} {ch:List Addr} (I:Inv X pins σ H s) (ho:s'.os = s.os) (u:Un (J4 X.stack) ch H H' s.heap s'.heap) (hok:l7 X.prog X.w H' s'.heap) (hg:AllBare s'.gens /\ GX s.gens s'.gens)
  (hch:∀ b ∈ ch,(b ∈ X.ex \/ X.s₀.heap.objs.size <= b) /\ b ≠ X.env.locals /\ (∀ x c,X.env.cells.lookup x = some c -> c ≠ b) /\ ∀ p ∈ X.pn ++ pins,p.1 ≠ b):Inv X pins σ H' s':=by
 obtain ⟨h',g',d',t',o'⟩:=s'
 have e:o' = s.os:=ho
 subst e
 exact I.call (g':=g') (t':=t') (d':=d') u hok hg hch
end
abbrev XK:=Value -> Option Addr -> Hp -> Prop
abbrev St:=List (Option V)
abbrev VK:=V -> Hp -> Prop
abbrev TE:=St -> Hp -> VK -> Prop
abbrev TT:=St -> Hp -> (Bool -> Hp -> Prop) -> Prop
abbrev TA:=St -> Hp -> (List V -> Hp -> Prop) -> Prop
structure Ends where
 nx:St -> Hp -> Prop
 rt:VK
 bk:St -> Hp -> Prop:=λ_ _=>False
 ct:St -> Hp -> Prop:=λ_ _=>False
abbrev TS:=Ends -> St -> Hp -> Prop
def EP (X:Cx) (pins:List (Addr × Obj)) (σ:St) (Q:VK) (u:Value) (s':Shared):Prop:=∃ v H',Inv X pins σ H' s' /\ b7 v u /\ Q v H'
def TP (X:Cx) (pins:List (Addr × Obj)) (σ:St) (Q:Bool -> Hp -> Prop) (b:Bool) (s':Shared):Prop:=∃ H',Inv X pins σ H' s' /\ Q b H'
def AP (X:Cx) (pins:List (Addr × Obj)) (σ:St) (Q:List V -> Hp -> Prop) (us:List Value) (s':Shared):Prop:=∃ vs H',Inv X pins σ H' s' /\ aU vs us /\ Q vs H'
def SP (X:Cx) (pins:List (Addr × Obj)) (D:Ends) (f:Flow) (s':Shared):Prop :=
 match f with
 | .next=>∃ σ' H',Inv X pins σ' H' s' /\ D.nx σ' H'
 | .brk=>∃ σ' H',Inv X pins σ' H' s' /\ D.bk σ' H'
 | .cont=>∃ σ' H',Inv X pins σ' H' s' /\ D.ct σ' H'
 | .ret u=>∃ v σ' H',Inv X pins σ' H' s' /\ b7 v u /\ D.rt v H'
def PE (X:Cx) (e:Expr) (t:TE):Prop :=
 ∀ (pins:List (Addr × Obj)) (s:Shared) (σ:St) (H:Hp) (Q:VK),Inv X pins σ H s -> t σ H Q -> wpAny (model X.prog X.w) X.A (eval e X.env) (EP X pins σ Q) X.xe s
def PT (X:Cx) (e:Expr) (t:TT):Prop :=
 ∀ (pins:List (Addr × Obj)) (s:Shared) (σ:St) (H:Hp) (Q:Bool -> Hp -> Prop),Inv X pins σ H s -> t σ H Q -> wpAny (model X.prog X.w) X.A (isTrue e X.env (eval e X.env)) (TP X pins σ Q) X.xe s
def PW (X:Cx) (e:Expr) (t:TT):Prop :=
 ∀ (whole:Sem Value) (pins:List (Addr × Obj)) (s:Shared) (σ:St) (H:Hp) (Q:Bool -> Hp -> Prop),Inv X pins σ H s -> t σ H Q -> wpAny (model X.prog X.w) X.A (isTrue e X.env whole) (TP X pins σ Q) X.xe s
theorem PW.pt {X:Cx} {e:Expr} {t:TT} (h:PW X e t):PT X e t:=h _
def PA (X:Cx) (es:List Expr) (t:TA):Prop :=
 ∀ (pos:Pos) (pins:List (Addr × Obj)) (s:Shared) (σ:St) (H:Hp) (Q:List V -> Hp -> Prop),Inv X pins σ H s -> t σ H Q -> wpAny (model X.prog X.w) X.A (spliced (backTo pos (starEach es X.env))) (AP X pins σ Q) X.xe s
def PS (X:Cx) (st:Stmt) (t:TS):Prop :=
 ∀ (pins:List (Addr × Obj)) (s:Shared) (σ:St) (H:Hp) (D:Ends),Inv X pins σ H s -> t D σ H -> wpAny (model X.prog X.w) X.A (exec st X.env) (SP X pins D) X.xe s
def tL (X:Cx) (st:List Stmt) (t:TS):Prop :=
 ∀ (pins:List (Addr × Obj)) (s:Shared) (σ:St) (H:Hp) (D:Ends),Inv X pins σ H s -> t D σ H -> wpAny (model X.prog X.w) X.A (execs st X.env) (SP X pins D) X.xe s
theorem c5 {α:Type} {t:Sem α} {Q Q':α -> Shared -> Prop} {M:Model} {A:Around} {E:Value -> Shared -> Prop} {s:Shared} (h:wpAny M A t Q E s) (hQ:∀ a s,Q a s -> Q' a s):wpAny M A t Q' E s:=wpAny_mono h hQ λ_ _ x=>x
section
variable {X:Cx}
def dU (i:Nat):TE:=λσ H Q=>∃ v,σ[i]? = some (some v) /\ Q v H
def tC (v:V):TE:=λ_ H Q=>Q v H
theorem V1 {i:Nat} {x:Str} {pos:Pos} (hN:X.N[i]? = some x) (hv:a05 X.env.scope x) (hd:(x == ("__debug__" : Str)) = false:=by decide) (hcd:(x == ("__classdict__" : Str)) = false:=by decide):PE X (.Name x pos) (dU i):=by
 intro pins s σ H Q I h
 obtain ⟨v,e,h⟩:=h
 obtain ⟨m,hn,hl⟩:=I.loc
 obtain ⟨u,r,l⟩:=hl i x v hN e hv
 have fin:EP X pins σ Q u s:=⟨v,H,I,r,h⟩
 rcases l with ⟨hk,hm⟩ | ⟨hk,c,hc,hcell⟩
 ·exact wpAny_Name (wpAny_loadName_local I.ok.kind hk hn hm fin) hd
 ·rcases hk with hk | hk
  ·exact wpAny_Name (wpAny_loadName_cell I.ok.kind hk hc hcell fin) hd
  ·exact wpAny_Name (wpAny_loadName_free I.ok.kind hk hc hcell fin hcd) hd
theorem UU {i j pos}:PE X (.Constant (.int i) j pos) (tC (.int i)):=λ_ _ _ H _ I h=>wpAny_Constant_int ⟨.int i,H,I.tok _,⟨_,rfl⟩,h⟩
theorem YH {b j pos}:PE X (.Constant (.bool b) j pos) (tC (.bl b)):=λ_ _ _ H _ I h=>Constant_bool ⟨.bl b,H,I,rfl,h⟩
theorem UV {j pos}:PE X (.Constant .none j pos) (tC .non):=λ_ _ _ H _ I h=>Constant_none ⟨.non,H,I,rfl,h⟩
theorem UZ {x j pos}:PE X (.Constant (.str x) j pos) (tC (.str x)):=λ_ _ _ H _ I h=>Calls.Constant_str ⟨.str x,H,I.tok _,⟨_,rfl⟩,h⟩
def Gl (X:Cx) (x:Str):Prop:=X.env.kindOf x = some .globalImplicit
theorem O5 {E:Value -> Shared -> Prop} {pins:List (Addr × Obj)} {s:Shared} {σ:St} {H:Hp} {x:Str} {u:Value} {pos:Pos} {Q:Value -> Shared -> Prop} (I:Inv X pins σ H s) (hg:Gl X x) (hm:X.mg x = some u) (h:Q u s)
  (hd:(x == ("__debug__" : Str)) = false:=by decide):wpAny (model X.prog X.w) X.A (eval (.Name x pos) X.env) Q E s :=
 Calls.Name_function_global I.ok.kind hg (Calls.loadGlobal_global (by rw [I.ok.glob];exact I.mod.glob.keeps I.bk) hm h) hd
theorem o7 {E:Value -> Shared -> Prop} {pins:List (Addr × Obj)} {s:Shared} {σ:St} {H:Hp} {x:Str} {u:Value} {pos:Pos} {Q:Value -> Shared -> Prop} (I:Inv X pins σ H s) (hg:Gl X x) (hm:X.mg x = none) (hv:bootBuiltins x = some u) (h:Q u s)
  (hn:x ≠ "__name__" := by decide) (hd:(x == ("__debug__" : Str)) = false:=by decide):wpAny (model X.prog X.w) X.A (eval (.Name x pos) X.env) Q E s:=by
 obtain ⟨mb,h1,h2⟩:=I.mod.blt
 exact Calls.Name_function_global I.ok.kind hg (Calls.loadGlobal_builtin (by rw [I.ok.glob];exact I.mod.glob.keeps I.bk) hm (by rw [I.ok.blt];exact h1.keeps I.bk) ((h2 x hn).trans hv) h) hd
variable {a b:Expr} {ta tb:TE} {pos:Pos}
def tB (t:TE):TT:=λσ H Q=>t σ H λx H1=>∃ c,x = .bl c /\ Q c H1
theorem V8 {e:Expr} {t:TE} (h:PE X e t) (he:∀ whole,isTrue e X.env whole = (do let v <- whole;standAt e.pos;holding [v] (truthy v)):=by intro _;rfl):PT X e (tB t):=by
 intro pins s σ H Q I hw
 refine isTrue_plain (c5 (h pins s σ H _ I hw) λv s1 ⟨x,H1,I1,r1,q1⟩=>?_) (he _)
 obtain ⟨d,rfl,q⟩:=q1
 cases r1
 exact wpAny_truthy_bool ⟨H1,I1,q⟩
variable {tA tB':TT} {rest:List Expr}
def a0Y (t u:TT):TT:=λσ H Q=>t σ H λc H1=>if c = true then u σ H1 Q else Q false H1
def a1V (t u:TT):TT:=λσ H Q=>t σ H λc H1=>if c = true then Q true H1 else u σ H1 Q
def a12 (t:TT):TT:=λσ H Q=>t σ H λc H1=>Q (!c) H1
theorem OX (ha:PT X a tA):PW X (.BoolOp .And [a] pos) tA:=by
 intro wh pins s σ H Q I h
 refine isTrue_and (c5 (ha pins s σ H Q I h) λc s1 e=>?_)
 cases c with
 | true=>exact isTrue_and_nil e
 | false=>exact e
theorem VC (ha:PT X a tA):PW X (.BoolOp .Or [a] pos) tA:=by
 intro wh pins s σ H Q I h
 refine isTrue_or (c5 (ha pins s σ H Q I h) λc s1 e=>?_)
 cases c with
 | false=>exact isTrue_or_nil e
 | true=>exact e
theorem V9 (ha:PT X a tA) (hb:PW X (.BoolOp .And (b :: rest) pos) tB'):PW X (.BoolOp .And (a :: b :: rest) pos) (a0Y tA tB'):=by
 intro wh pins s σ H Q I h
 refine isTrue_and (c5 (ha pins s σ H _ I h) λc s1 ⟨H1,I1,q1⟩=>?_)
 cases c with
 | true=>exact hb wh pins s1 σ H1 Q I1 q1
 | false=>exact ⟨H1,I1,q1⟩
theorem YQ (ha:PT X a tA) (hb:PW X (.BoolOp .Or (b :: rest) pos) tB'):PW X (.BoolOp .Or (a :: b :: rest) pos) (a1V tA tB'):=by
 intro wh pins s σ H Q I h
 refine isTrue_or (c5 (ha pins s σ H _ I h) λc s1 ⟨H1,I1,q1⟩=>?_)
 cases c with
 | true=>exact ⟨H1,I1,q1⟩
 | false=>exact hb wh pins s1 σ H1 Q I1 q1
theorem V7 (ha:PT X a tA):PT X (.UnaryOp .Not a pos) (a12 tA):=by
 intro pins s σ H Q I h
 exact isTrue_not (ha pins s σ H (λc H1=>Q (!c) H1) I h)
theorem UW {op} {t:TE} (h:PE X a t):PE X (.BoolOp op [a] pos) t:=λpins s σ H Q I hw=>BoolOp_one (h pins s σ H Q I hw)
end
def cT (K:PySem.W.Frag) (H:Hp) (a:Addr) (xs:List V):Prop :=
 Rd H a (.lst xs) \/
  ∃ (o:Obj) (its:Array Value) (n:Nat),K.lookup a = some o /\ o.cls = .type "list" /\ o.dict = none /\ o.data = .seq its n /\ its.size <= sizeLine /\ aU xs its.toList
def iM (K:PySem.W.Frag) (H:Hp) (a:Addr) (xs:List V):Prop :=
 Rd H a (.tup xs) \/
  ∃ (o:Obj) (its:Array Value) (n:Nat),K.lookup a = some o /\ o.cls = .type "tuple" /\ o.data = .seq its n /\ its.size <= sizeLine /\ aU xs its.toList
def a06:Value -> Option V
 | .none=>some .non
 | .bool b=>some (.bl b)
 | .int i _=>some (.int i)
 | .str x _=>some (.str x)
 | .bytes b _=>some (.byt b)
 | .float b _=>some (.flt b)
 | .ref a=>some (.ref a)
 | .type n=>some (.ty n)
 | _=>none
theorem b7.abs {x:V} {u:Value} (r:b7 x u):a06 u = some x:=by
 cases x with
 | non=>cases r;rfl
 | bl _=>cases r;rfl
 | int _=>obtain ⟨t,rfl⟩:=r;rfl
 | str _=>obtain ⟨t,rfl⟩:=r;rfl
 | byt _=>obtain ⟨t,rfl⟩:=r;rfl
 | flt _=>obtain ⟨t,rfl⟩:=r;rfl
 | ref _=>cases r;rfl
 | ty _=>cases r;rfl
theorem b7.inj {x y:V} {u:Value} (r:b7 x u) (q:b7 y u):x = y:=Option.some.inj (r.abs.symm.trans q.abs)
theorem aU.inj:∀ {xs ys:List V} {us:List Value},aU xs us -> aU ys us -> xs = ys
 | _,_,_,.nil,.nil=>rfl
 | _,_,_,.cons r t,.cons r' t'=>by rw [r.inj r',aU.inj t t']
section
variable {X:Cx} {pins:List (Addr × Obj)} {σ:St} {H:Hp} {s:Shared} {a:Addr} {xs ys:List V}
theorem cT.of {K:PySem.W.Frag} (h:H a = some (.lst xs)):cT K H a xs:=.inl (.inl h)
theorem iM.of {K:PySem.W.Frag} (h:H a = some (.tup xs)):iM K H a xs:=.inl (.inl h)
theorem Inv.list (I:Inv X pins σ H s) (h:cT X.K H a xs):∃ its:List Value,aU xs its /\ PlainL s.heap a its.toArray /\ xs.length <= sizeLine:=by
 rcases h with h | ⟨o,its,n,hk,hc,hd,hs,hz,r⟩
 ·obtain ⟨z,its,n,r,e⟩:=h.ok I.hok
  exact ⟨its,r,⟨_,n,e,rfl,rfl,rfl⟩,z⟩
 ·refine ⟨its.toList,r,⟨o,n,I.kIn a o hk,hc,hd,by simpa using hs⟩,?_⟩
  have e:=r.length
  simp only [a0l] at e
  omega
theorem Inv.tuple (I:Inv X pins σ H s) (h:iM X.K H a xs):∃ its:List Value,aU xs its /\ IsTup s.heap a its.toArray /\ xs.length <= sizeLine:=by
 rcases h with h | ⟨o,its,n,hk,hc,hs,hz,r⟩
 ·obtain ⟨z,its,r,p⟩:=h.ok I.hok
  exact ⟨its,r,p,z⟩
 ·refine ⟨its.toList,r,⟨o,I.kIn a o hk,hc,n,by simpa using hs⟩,?_⟩
  have e:=r.length
  simp only [a0l] at e
  omega
theorem Inv.list_inj (I:Inv X pins σ H s) (h:cT X.K H a xs) (h':cT X.K H a ys):xs = ys:=by
 obtain ⟨its,r,⟨o,n,e,_,_,d⟩,_⟩:=I.list h
 obtain ⟨its',r',⟨o',n',e',_,_,d'⟩,_⟩:=I.list h'
 rw [e] at e';cases e'
 rw [d] at d'
 injection d' with d1 _
 have:its = its':=by simpa using congrArg Array.toList d1
 subst this
 exact r.inj r'
theorem Inv.tuple_inj (I:Inv X pins σ H s) (h:iM X.K H a xs) (h':iM X.K H a ys):xs = ys:=by
 obtain ⟨its,r,⟨o,e,_,n,d⟩,_⟩:=I.tuple h
 obtain ⟨its',r',⟨o',e',_,n',d'⟩,_⟩:=I.tuple h'
 rw [e] at e';cases e'
 rw [d] at d'
 injection d' with d1 _
 have:its = its':=by simpa using congrArg Array.toList d1
 subst this
 exact r.inj r'
end
abbrev Cx.wish (X:Cx) (E:Value -> Shared -> Prop):Cx:={ X with xe:=E }
abbrev Cx.nox (X:Cx):Cx:=X.wish λ_ _=>False
theorem Cx.Ok.wish {X:Cx} (ok:X.Ok) (E:Value -> Shared -> Prop):(X.wish E).Ok :=
 ⟨ok.mod,ok.kind,ok.glob,ok.blt,ok.above,ok.inj,ok.has,ok.cab,ok.hd,ok.frames,ok.stk,ok.exf,ok.bs,ok.bsz,ok.noex,ok.exfs,ok.funs,ok.frf,ok.tb⟩
theorem Cx.Ok.unwish {X:Cx} {E:Value -> Shared -> Prop} (ok:(X.wish E).Ok):X.Ok :=
 ⟨ok.mod,ok.kind,ok.glob,ok.blt,ok.above,ok.inj,ok.has,ok.cab,ok.hd,ok.frames,ok.stk,ok.exf,ok.bs,ok.bsz,ok.noex,ok.exfs,ok.funs,ok.frf,ok.tb⟩
section
variable {X:Cx} {pins:List (Addr × Obj)} {σ:St} {H:Hp} {s:Shared} {E:Value -> Shared -> Prop}
theorem Inv.wish (I:Inv X pins σ H s) (E:Value -> Shared -> Prop):Inv (X.wish E) pins σ H s:=⟨I.ok.wish E,I.os,I.bare,I.base,I.loc,I.cell,I.free,I.freeC,I.pin,I.hok,I.len⟩
theorem Inv.unwish (I:Inv (X.wish E) pins σ H s):Inv X pins σ H s:=⟨I.ok.unwish,I.os,I.bare,I.base,I.loc,I.cell,I.free,I.freeC,I.pin,I.hok,I.len⟩
theorem SP.unwish {D:Ends} {f:Flow} {s':Shared} (h:SP (X.wish E) pins D f s'):SP X pins D f s':=by
 cases f with
 | next=>obtain ⟨σ',H',I,q⟩:=h;exact ⟨σ',H',I.unwish,q⟩
 | brk=>obtain ⟨σ',H',I,q⟩:=h;exact ⟨σ',H',I.unwish,q⟩
 | cont=>obtain ⟨σ',H',I,q⟩:=h;exact ⟨σ',H',I.unwish,q⟩
 | ret u=>obtain ⟨v,σ',H',I,r,q⟩:=h;exact ⟨v,σ',H',I.unwish,r,q⟩
theorem tL.nox {st:List Stmt} {t:TS} (h:tL X.nox st t):tL X st t:=λpins s σ H D I hw =>
 wpAny_mono (h pins s σ H D (I.wish _) hw) (λ_ _ q=>q.unwish) λ_ _ z=>False.elim z
end
section
variable {X:Cx} {st:Stmt} {rest:List Stmt} {t u:TS} {e:Expr} {te:TE} {pos:Pos}
def EA:TS:=λD σ H=>D.nx σ H
def Q5 (t u:TS):TS:=λD σ H=>t { D with nx:=u D } σ H
theorem DU:tL X [] EA:=λ_ _ σ H _ I h=>wpAny_execs_nil ⟨σ,H,I,h⟩
theorem zH (h1:PS X st t) (h2:tL X rest u):tL X (st :: rest) (Q5 t u):=by
 intro pins s σ H D I h
 refine wpAny_execs_cons (c5 (h1 pins s σ H { D with nx:=u D } I h) λf s1 q=>?_)
 cases f with
 | next =>
  obtain ⟨σ',H',I',q⟩:=q
  exact h2 pins s1 σ' H' D I' q
 | ret v=>exact q
 | brk=>exact q
 | cont=>exact q
theorem DV (h1:PS X st t):tL X [st] t:=by
 intro pins s σ H D I h
 refine wpAny_execs_cons (c5 (h1 pins s σ H D I h) λf s1 q=>?_)
 cases f with
 | next=>exact wpAny_execs_nil q
 | ret v=>exact q
 | brk=>exact q
 | cont=>exact q
theorem Inv.quiet {pins:List (Addr × Obj)} {σ:St} {H:Hp} {s:Shared} (I:Inv X pins σ H s):interactive X.env = false:=by simp [interactive,I.ok.kind]
def ZA (te:TE):TS:=λD σ H=>te σ H λ_ H1=>D.nx σ H1
theorem OU (he:PE X e te) (hs:swapsWith e none pos.line X.env = pure false:=by rfl):PS X (.Expr e pos) (ZA te):=by
 intro pins s σ H D I h
 exact wpAny_Expr_any (c5 (he pins s σ H _ I h) λv s1 ⟨x,H1,I1,r1,q1⟩=>⟨σ,H1,I1,q1⟩) I.quiet hs
def Q4 (te:TE):TS:=λD σ H=>te σ H D.rt
theorem C2 (he:PE X e te):PS X (.Return (some e) pos) (Q4 te):=by
 intro pins s σ H D I h
 exact wpAny_Return_some (c5 (he pins s σ H _ I h) λv s1 ⟨x,H1,I1,r1,q1⟩=>⟨x,σ,H1,I1,r1,q1⟩)
def PZ (c:TT) (t u:TS):TS:=λD σ H=>c σ H λb H1=>if b = true then t D σ H1 else u D σ H1
theorem RH {c:Expr} {a b:List Stmt} {tc:TT} (hc:PT X c tc) (ha:tL X a t) (hb:tL X b u):PS X (.If c a b pos) (PZ tc t u):=by
 intro pins s σ H D I h
 refine wpAny_If (c5 (hc pins s σ H _ I h) λd s1 ⟨H1,I1,q1⟩=>?_)
 cases d with
 | true=>exact ha pins s1 σ H1 D I1 q1
 | false=>exact hb pins s1 σ H1 D I1 q1
end
abbrev TG:=V -> St -> Hp -> (St -> Hp -> Prop) -> Prop
abbrev ML:=List V -> St -> Hp -> (St -> Hp -> Prop) -> Prop
def PG (X:Cx) (target:Expr) (t:TG):Prop :=
 ∀ (pins:List (Addr × Obj)) (s:Shared) (σ:St) (H:Hp) (v:V) (u:Value) (Q:St -> Hp -> Prop),Inv X pins σ H s -> b7 v u -> t v σ H Q ->
  wpAny (model X.prog X.w) X.A (assign target X.env u) (λ_ s'=>∃ σ' H',Inv X pins σ' H' s' /\ Q σ' H') X.xe s
def QR (X:Cx) (ts:List Expr) (t:ML):Prop :=
 ∀ (pins:List (Addr × Obj)) (s:Shared) (σ:St) (H:Hp) (vs:List V) (us:List Value) (Q:St -> Hp -> Prop),Inv X pins σ H s -> aU vs us -> t vs σ H Q ->
  wpAny (model X.prog X.w) X.A (assignInOrder ((assignEach ts X.env).map (·.2)) us) (λ_ s'=>∃ σ' H',Inv X pins σ' H' s' /\ Q σ' H') X.xe s
abbrev AS:=V -> V -> V -> Hp -> (Hp -> Prop) -> Prop
def RT (X:Cx) (t:AS):Prop :=
 ∀ (pins:List (Addr × Obj)) (s:Shared) (σ:St) (H:Hp) (o i v:V) (ov iv u:Value) (Q:Hp -> Prop),Inv X pins σ H s -> b7 o ov -> b7 i iv -> b7 v u -> t o i v H Q ->
  wpAny (model X.prog X.w) X.A (setItem ov iv u) (λ_ s'=>∃ H',Inv X pins σ H' s' /\ Q H') X.xe s
section
variable {X:Cx} {pos:Pos}
def jI (i:Nat):TG:=λv σ H Q=>Q (σ.set i (some v)) H
theorem pW {i:Nat} {x:Str} (hN:X.N.Nodup) (hi:X.N[i]? = some x) (hx:EJ X.env.scope x) (hf:X.fn x = true \/ X.env.scope.names.lookup x = some .local:=by first | exact .inl rfl | exact .inr rfl | assumption):PG X (.Name x pos) (jI i):=by
 intro pins s σ H v u Q I r h
 exact wpAny_assign_Name (nH I hN hi hx r (λs' I'=>⟨_,H,I',h⟩) hf)
def a0D:ML:=λvs σ H Q=>vs = [] /\ Q σ H
def XW (t:TG) (u:ML):ML:=λvs σ H Q=>∃ v r,vs = v :: r /\ t v σ H λσ' H'=>u r σ' H' Q
theorem DR:QR X [] a0D:=by
 intro pins s σ H vs us Q I r h
 obtain ⟨e,h⟩:=h
 subst e
 cases r
 exact assignInOrder_nil ⟨σ,H,I,h⟩
theorem rJ {e:Expr} {es:List Expr} {t:TG} {u:ML} (h1:PG X e t) (h2:QR X es u)
  (hs:(assignEach (e :: es) X.env).map (·.2) = assign e X.env :: (assignEach es X.env).map (·.2):=by rfl):QR X (e :: es) (XW t u):=by
 intro pins s σ H vs us Q I r h
 obtain ⟨v,vr,e1,h⟩:=h
 subst e1
 cases r with
 | cons r rr =>
  rw [hs]
  refine assignInOrder_cons (c5 (h1 pins s σ H _ _ _ I r h) λ_ s1 ⟨σ1,H1,I1,q1⟩=>?_)
  exact h2 pins s1 σ1 H1 _ _ Q I1 rr q1
def a0E (K:PySem.W.Frag) (n:Nat) (t:ML):TG:=λv σ H Q=>∃ a xs,v = .ref a /\ iM K H a xs /\ xs.length = n /\ t xs σ H Q
theorem K4 {es:List Expr} {k:Nat} {t:ML} {n:Nat} (hc:X.calm = true) (h:QR X es t)
  (hn:(assignEach es X.env).length = n:=by rfl) (hst:(assignEach es X.env).findIdx? (·.1) = none:=by rfl):PG X (.Tuple es k pos) (a0E X.K n t):=by
 intro pins s σ H v u Q I r hw
 obtain ⟨a,xs,e1,hq,hl,hw⟩:=hw
 subst e1
 cases r
 obtain ⟨its,rv,ht,hz⟩:=I.tuple hq
 refine assign_Tuple_tuple (I.ok.hd hc) ht (by simp [hn,<- hl,rv.length]) hst λh' hx=>?_
 have I1:Inv X pins σ H { s with heap:=h' }:=I.kept (t':=s.toks) λb o e=>hx b o (Nat.ne_of_lt (a0n e)) e
 exact h pins _ σ H xs _ Q I1 (by simpa using rv) hw
def J6 (to ti:TE) (t:AS):TG:=λv σ H Q=>to σ H λo H1=>ti σ H1 λi H2=>t o i v H2 λH3=>Q σ H3
theorem wI {o i:Expr} {to ti:TE} {t:AS} (ho:PE X o to) (hi:PE X i ti) (hs:RT X t)
  (ha:∀ v,assign (.Subscript o i pos) X.env v = (do
   let ov <- holding [v] (eval o X.env)
   let iv <- holding [v,ov] (eval i X.env)
   standAt pos
   holding [v,ov,iv] (setItem ov iv v)
   release [v,ov,iv] []):=by intro _;rfl):PG X (.Subscript o i pos) (J6 to ti t):=by
 intro pins s σ H v u Q I r h
 rw [ha]
 refine a0a (wpAny_holding (c5 (ho pins s σ H _ I h) λov s1 ⟨x,H1,I1,r1,q1⟩=>?_))
 refine a0a (wpAny_holding (c5 (hi pins s1 σ H1 _ I1 q1) λiv s2 ⟨y,H2,I2,r2,q2⟩=>?_))
 refine a0a (wpAny_standAt (a0a (wpAny_holding (c5 (hs pins s2 σ H2 x y v ov iv u _ I2 r1 r2 r q2) λ_ s3 ⟨H3,I3,q3⟩=>?_))))
 exact wpAny_release ⟨σ,H3,I3,q3⟩
def A3 (te:TE) (g:TG):TS:=λD σ H=>te σ H λx H1=>g x σ H1 D.nx
theorem wK {tg e:Expr} {te:TE} {g:TG} (he:PE X e te) (hg:PG X tg g) (hs:swapsWithSole [tg] e pos.line X.env = pure false:=by rfl) (hw:swappedStores [tg] e X.env = pure none:=by rfl)
  (h1:(assignEach [tg] X.env).map (·.2) = [assign tg X.env]:=by rfl):PS X (.Assign [tg] e pos) (A3 te g):=by
 intro pins s σ H D I h
 refine wpAny_Assign_stores (c5 (he pins s σ H _ I h) λv s1 ⟨x,H1,I1,r1,q1⟩=>?_) hs hw
 rw [h1]
 exact c5 (hg pins s1 σ H1 x v _ I1 r1 q1) λ_ s2 q=>q
theorem K9 {i:Nat} {x:Str} {e:Expr} {te:TE} {pos':Pos} (hN:X.N.Nodup) (hi:X.N[i]? = some x) (hx:EJ X.env.scope x) (he:PE X e te) (hs:swapsWith e (some (.Name x pos')) pos.line X.env = pure false:=by rfl) (hf:X.fn x = true \/ X.env.scope.names.lookup x = some .local:=by first | exact .inl rfl | exact .inr rfl | assumption) :
  PS X (.Assign [.Name x pos'] e pos) (A3 te (jI i)):=by
 intro pins s σ H D I h
 refine wpAny_Assign_Name (c5 (he pins s σ H _ I h) λv s1 ⟨y,H1,I1,r1,q1⟩=>?_) hs
 exact nH I1 hN hi hx r1 (λs2 I2=>⟨_,H1,I2,q1⟩) hf
def a14 (i j:Nat) (ta:TA):TS:=λD σ H=>ta σ H λvs H1=>∃ v w,vs = [v,w] /\ D.nx ((σ.set i (some v)).set j (some w)) H1
theorem V6 {i j:Nat} {x y:Str} {a b:Expr} {ta:TA} {px py pt:Pos} {kt k2 pt2} (hc:X.calm = true) (hN:X.N.Nodup) (hi:X.N[i]? = some x) (hj:X.N[j]? = some y) (hij:i ≠ j)
  (hx:X.env.scope.names.lookup x = some .local) (hy:X.env.scope.names.lookup y = some .local) (ha:PA X [a,b] ta)
  (hw:swappedStores [.Tuple [.Name x px,.Name y py] kt pt] (.Tuple [a,b] k2 pt2) X.env = pure (some [x,y]))
  (hs:swapsWithSole [.Tuple [.Name x px,.Name y py] kt pt] (.Tuple [a,b] k2 pt2) pos.line X.env = pure false:=by rfl) :
  PS X (.Assign [.Tuple [.Name x px,.Name y py] kt pt] (.Tuple [a,b] k2 pt2) pos) (a14 i j ta):=by
 intro pins s σ H D I h
 rw [exec_Assign_arm]
 refine a0a (wpAny_standAt ?_)
 rw [hs]
 refine a0a (a0d ?_)
 rw [if_neg (by decide)]
 refine a0a (Tuple_ (c5 (ha _ pins s σ H _ I h) λus s1 ⟨vs,H1,I1,r1,q1⟩=>?_))
 obtain ⟨v,w,e1,q1⟩:=q1
 subst e1
 obtain ⟨u1,u2,rfl,rv,rw'⟩ : ∃ u1 u2,us = [u1,u2] /\ b7 v u1 /\ b7 w u2:=by
  cases r1 with
  | cons p q =>
   cases q with
   | cons p' q' =>
    cases q'
    exact ⟨_,_,rfl,p,p'⟩
 refine wpAny_newObj_type ?_ (by show 2 <= sizeLine;decide)
 have I2:Inv X pins σ H1 { s1 with heap:=s1.heap.push { cls:=.type "tuple",data:=.seq [u1,u2].toArray } }:=I1.kept (t':=s1.toks) λb o e=>a0e _ e
 rw [hw]
 refine a0a (a0d ?_)
 show wpAny (model X.prog X.w) X.A (do rule "assign.swapped-stores";let items <- unpackItems (.ref s1.heap.objs.size) 2 none;assignInOrder [λv=>bindName X.env y v,λv=>bindName X.env x v] items.reverse;pure Flow.next) _ _ _
 refine a0a (wpAny_rule (a0a (unpackItems_tuple (items:=#[u1,u2]) (I.ok.hd hc) (IsTup.new s1.heap _) λh' hx'=>?_)))
 have I3:=I2.kept (h':=h') (t':=s1.toks) λb o e=>hx' b o (Nat.ne_of_lt (a0n e)) e
 show wpAny _ _ (assignInOrder [λv=>bindName X.env y v,λv=>bindName X.env x v] [u2,u1] >>= λ_=>pure Flow.next) _ _ _
 refine a0a (assignInOrder_cons (wpAny_bindName (nH I3 hN hj (.inl hy) rw' (λs2 I4=>?_) (.inr hy))))
 refine assignInOrder_cons (wpAny_bindName (nH I4 hN hi (.inl hx) rv (λs3 I5=>assignInOrder_nil (a0d ?_)) (.inr hx)))
 rw [List.set_comm _ _ (Ne.symm hij)] at I5
 exact ⟨_,H1,I5,q1⟩
end
section
variable {X:Cx} {pos:Pos}
def WH (c:TT) (tb:TS):TS:=λD σ H=>∃ W:Nat -> St -> Hp -> Prop,(∃ m,W m σ H) /\ ∀ m σ H,W m σ H ->
 c σ H λb H1=>if b = true then ∃ N:St -> Hp -> Prop,(∀ σ' H',N σ' H' -> ∃ m',m' < m /\ W m' σ' H') /\ tb { D with nx:=N,ct:=N,bk:=D.nx } σ H1 else D.nx σ H1
theorem KA {c:Expr} {body:List Stmt} {tc:TT} {tb:TS} (hp:PassesOwn (model X.prog X.w) X.A X.env X.xe) (hc:PT X c tc) (hb:tL X body tb):PS X (.While c body [] pos) (WH tc tb):=by
 intro pins s σ H D I h
 obtain ⟨W,⟨m0,w0⟩,turn⟩:=h
 refine wpAny_While (codeAny_whileLoop (λn s'=>∃ σ' H',Inv X pins σ' H' s' /\ W n σ' H') ?_ m0 ⟨σ,H,I,w0⟩)
 rintro n s1 ⟨σ1,H1,I1,w1⟩
 refine wpAny_passesOwn hp (c5 (hc pins s1 σ1 H1 _ I1 (turn n σ1 H1 w1)) λb s2 ⟨H2,I2,q2⟩=>?_)
 cases b with
 | true =>
  obtain ⟨N,hN,q2⟩:=q2
  rw [if_pos rfl]
  refine wpAny_passesOwn hp (c5 (hb pins s2 σ1 H2 _ I2 q2) λf s3 q3=>?_)
  cases f with
  | next =>
   obtain ⟨σ3,H3,I3,n3⟩:=q3
   obtain ⟨m',hm,w3⟩:=hN σ3 H3 n3
   exact ⟨m',hm,σ3,H3,I3,w3⟩
  | cont =>
   obtain ⟨σ3,H3,I3,n3⟩:=q3
   obtain ⟨m',hm,w3⟩:=hN σ3 H3 n3
   exact ⟨m',hm,σ3,H3,I3,w3⟩
  | brk=>exact q3
  | ret v=>exact q3
 | false =>
  rw [if_neg a0k]
  exact wpAny_execs_nil ⟨σ1,H2,I2,q2⟩
end
structure It where
 go:Nat -> Hp -> Prop
 yld:Nat -> Hp -> V -> Hp -> Prop
 stop:Nat -> Hp -> Prop
def hV (X:Cx) (pins:List (Addr × Obj)) (H:Hp) (b:Addr):Prop :=
 H b = none /\ b ≠ X.env.locals /\ b ∉ X.fs /\ (b ∈ X.ex \/ X.s₀.heap.objs.size <= b) /\ (∀ x c,X.env.cells.lookup x = some c -> c ≠ b) /\ ∀ p ∈ X.pn ++ pins,p.1 ≠ b
theorem Inv.fpOk {X:Cx} {pins:List (Addr × Obj)} {σ:St} {H H':Hp} {s:Shared} {b:Addr} (I:Inv X pins σ H s) (hb:s.heap.objs.size <= b) (hn:H' b = none):hV X pins H' b:=by
 refine ⟨hn,Nat.ne_of_gt (Nat.lt_of_lt_of_le I.lt hb),I.nofs hb,.inr (Nat.le_trans I.sz hb),λx c e z=>?_,λp hp z=>?_⟩
 ·obtain ⟨v,q⟩:=I.cell x c e
  exact absurd (Nat.lt_of_lt_of_le q.lt (by rw [z];exact hb)) (Nat.lt_irrefl _)
 ·exact absurd (Nat.lt_of_lt_of_le (a0n (I.pin p hp).1) (by rw [z];exact hb)) (Nat.lt_irrefl _)
structure Turn (P:Program) (w:World) (K:PySem.W.Frag) (tg:Expr) (J:It) (fp:List Addr) (it:Addr) (tn:Nat -> Heap -> Prop):Prop where
 mem:it ∈ fp
 obj:∀ i h,tn i h -> ∀ b ∈ fp,∃ o,h.get? b = some o /\ ∀ v,o.data ≠ .cell v
 keep:∀ i h h',tn i h -> (∀ b ∈ fp,∀ o,h.get? b = some o -> h'.get? b = some o) -> tn i h'
 item:∀ (X:Cx),X.prog = P -> X.w = w -> X.K = K -> X.calm = true -> ∀ (i:Nat) (pins:List (Addr × Obj)) (s:Shared) (σ:St) (H:Hp) (E:Value -> Shared -> Prop),Inv X pins σ H s -> (∀ b ∈ fp,hV X pins H b) -> tn i s.heap -> J.go i H ->
  wpAny (model P w) X.A (pyNext (.ref it)) (λr s1=>∃ u,r = some u /\
   wpAny (model P w) X.A (letOwnedTupleGo tg (.ref it) u) (λ_ s2=>∃ x H',Inv X pins σ H' s2 /\ b7 x u /\ J.yld i H x H' /\ tn (i + 1) s2.heap /\ ∀ b ∈ fp,H' b = none) E s1) E s
 done:∀ (X:Cx),X.prog = P -> X.w = w -> X.K = K -> X.calm = true -> ∀ (i:Nat) (pins:List (Addr × Obj)) (s:Shared) (σ:St) (H:Hp) (E:Value -> Shared -> Prop),Inv X pins σ H s -> (∀ b ∈ fp,hV X pins H b) -> tn i s.heap -> J.stop i H ->
  wpAny (model P w) X.A (pyNext (.ref it)) (λr s1=>r = none /\ Inv X pins σ H s1) E s
 self:∀ (A:Around) (i:Nat) (s:Shared) (Q:Value -> Shared -> Prop) (E:Value -> Shared -> Prop),tn i s.heap -> Q (.ref it) s -> wpAny (model P w) A (pyIter (.ref it)) Q E s
abbrev TI:=St -> Hp -> (It -> Hp -> Prop) -> Prop
def a19 (X:Cx) (pins:List (Addr × Obj)) (σ:St) (tg:Expr) (R:It -> Hp -> Prop) (itv:Value) (s2:Shared):Prop :=
 ∃ (it:Addr) (fp:List Addr) (tn:Nat -> Heap -> Prop) (J:It) (H':Hp),itv = .ref it /\ Inv X pins σ H' s2 /\ Turn X.prog X.w X.K tg J fp it tn /\ tn 0 s2.heap /\ (∀ b ∈ fp,hV X pins H' b) /\ R J H'
def PI (X:Cx) (tg iter:Expr) (wi:TI):Prop :=
 ∀ (pins:List (Addr × Obj)) (s:Shared) (σ:St) (H:Hp) (R:It -> Hp -> Prop),Inv X pins σ H s -> wi σ H R ->
  wpAny (model X.prog X.w) X.A (eval iter X.env) (λv s1=>wpAny (model X.prog X.w) X.A (pyIter v) (a19 X pins σ tg R) X.xe s1) X.xe s
theorem J9 {M:Model} {A:Around} {E:Value -> Shared -> Prop} {s:Shared} {tg:Expr} {it:Addr} {u:Value} {o:Obj} {n:String} {vs:Array Value} {Q:Unit -> Shared -> Prop} (ho:s.heap.get? it = some o) (hc:o.cls = .type n) (hd:o.data = .fields vs)
    (hn:["enumerate", "zip", "dict_itemiterator", "dict_reverseitemiterator", "odict_iterator", "itertools.zip_longest", "itertools.pairwise"].contains n = false) (hQ:Q () s):wpAny M A (letOwnedTupleGo tg (.ref it) u) Q E s:=by
  unfold letOwnedTupleGo
  cases tg <;> first
    | exact a0d hQ
    | (cases u <;> first
        | exact a0d hQ
        | (refine a0a (wpAny_load ho ?_)
           rw [hc,hd]
           show wpAny M A (if (["enumerate", "zip", "dict_itemiterator", "dict_reverseitemiterator", "odict_iterator", "itertools.zip_longest", "itertools.pairwise"].contains n && vs[0]? == some (rawInt _)) = true then _ else _) Q E s
           rw [if_neg (by intro h;rw [hn,Bool.false_and] at h;cases h)]
           exact a0d hQ))
def ZZ (K:PySem.W.Frag) (a:Addr):It :=
 ⟨λi H=>∃ xs x,cT K H a xs /\ xs[i]? = some x,λi H x H'=>H' = H /\ ∀ xs,cT K H a xs -> xs[i]? = some x,λi H=>∃ xs,cT K H a xs /\ xs.length <= i⟩
def a00 (K:PySem.W.Frag) (a:Addr):It :=
 ⟨λi H=>∃ xs x,iM K H a xs /\ xs[i]? = some x,λi H x H'=>H' = H /\ ∀ xs,iM K H a xs -> xs[i]? = some x,λi H=>∃ xs,iM K H a xs /\ xs.length <= i⟩
def MG (lo:Int) (n:Nat):It:=⟨λi _=>i < n,λi H x H'=>H' = H /\ x = .int (lo + i),λi _=>n <= i⟩
theorem GJ {P:Program} {w:World} {K:PySem.W.Frag} {tg:Expr} (a it:Addr):Turn P w K tg (ZZ K a) [it] it (λi h=>h.IsListIter it a i) where
 mem:=by simp
 obj:=λi h st b hb=>by
  have e:b = it:=by simpa using hb
  subst e
  obtain ⟨o,e,c,d⟩:=st
  exact ⟨o,e,λv z=>by rw [d] at z;cases z⟩
 keep:=λi h h' st k=>st.at λo e=>k it (by simp) o e
 item:=by
  intro X hP hw hK hc i pins s σ H E I hf st hg
  subst hP hw hK
  obtain ⟨xs,x,hq,hx⟩:=hg
  obtain ⟨its,rv,p,hz⟩:=I.list hq
  obtain ⟨u,hu,ru⟩:=rv.get hx
  obtain ⟨f0,f1,f2,f3,f4,f5⟩:=hf it (by simp)
  refine wpAny_pyNext_list_item st p.isList (x:=u) (by simpa using hu) λh' st' sb=>?_
  have I1:Inv X pins σ H { s with heap:=h' }:=I.turned (t':=s.toks) (λb o hb e=>(sb.2 b hb).trans e) f0 f1 f3 f4 f5
  obtain ⟨o,e,c,d⟩:=id st'
  exact ⟨u,rfl,J9 (s:={ s with heap:=h' }) e c d (by decide) ⟨x,H,I1,ru,⟨rfl,λys hy=>by rw [I.list_inj hy hq];exact hx⟩,st',λb hb=>(hf b hb).1⟩⟩
 done:=by
  intro X hP hw hK hc i pins s σ H E I hf st hg
  subst hP hw hK
  obtain ⟨xs,hq,hx⟩:=hg
  obtain ⟨its,rv,p,hz⟩:=I.list hq
  obtain ⟨f0,f1,f2,f3,f4,f5⟩:=hf it (by simp)
  have hl:=rv.length
  exact wpAny_pyNext_list_end (I.ok.hd hc) st p.isList (by simp;omega) λh' eb=>⟨rfl,I.turned (t':=s.toks) (λb o hb e=>eb b o hb e) f0 f1 f3 f4 f5⟩
 self:=λ_ _ _ _ _ st h=>wpAny_pyIter_listiter st h
theorem CG {P:Program} {w:World} {K:PySem.W.Frag} {tg:Expr} (a it:Addr):Turn P w K tg (a00 K a) [it] it (λi h=>h.IsTupleIter it a i) where
 mem:=by simp
 obj:=λi h st b hb=>by
  have e:b = it:=by simpa using hb
  subst e
  obtain ⟨o,e,c,d⟩:=st
  exact ⟨o,e,λv z=>by rw [d] at z;cases z⟩
 keep:=λi h h' st k=>st.at λo e=>k it (by simp) o e
 item:=by
  intro X hP hw hK hc i pins s σ H E I hf st hg
  subst hP hw hK
  obtain ⟨xs,x,hq,hx⟩:=hg
  obtain ⟨its,rv,p,hz⟩:=I.tuple hq
  obtain ⟨u,hu,ru⟩:=rv.get hx
  obtain ⟨f0,f1,f2,f3,f4,f5⟩:=hf it (by simp)
  refine wpAny_pyNext_tuple_item st (show s.heap.IsTuple a its.toArray from p) (x:=u) (by simpa using hu) λh' st' sb=>?_
  have I1:Inv X pins σ H { s with heap:=h' }:=I.turned (t':=s.toks) (λb o hb e=>(sb.2 b hb).trans e) f0 f1 f3 f4 f5
  obtain ⟨o,e,c,d⟩:=id st'
  exact ⟨u,rfl,J9 (s:={ s with heap:=h' }) e c d (by decide) ⟨x,H,I1,ru,⟨rfl,λys hy=>by rw [I.tuple_inj hy hq];exact hx⟩,st',λb hb=>(hf b hb).1⟩⟩
 done:=by
  intro X hP hw hK hc i pins s σ H E I hf st hg
  subst hP hw hK
  obtain ⟨xs,hq,hx⟩:=hg
  obtain ⟨its,rv,p,hz⟩:=I.tuple hq
  obtain ⟨f0,f1,f2,f3,f4,f5⟩:=hf it (by simp)
  have hl:=rv.length
  exact wpAny_pyNext_tuple_end (I.ok.hd hc) st (show s.heap.IsTuple a its.toArray from p) (by simp;omega) λh' eb=>⟨rfl,I.turned (t':=s.toks) (λb o hb e=>eb b o hb e) f0 f1 f3 f4 f5⟩
 self:=λ_ _ _ _ _ st h=>wpAny_pyIter_tupleiter st h
theorem CF {P:Program} {w:World} {K:PySem.W.Frag} {tg:Expr} (it:Addr) (lo:Int) (n:Nat):Turn P w K tg (MG lo n) [it] it (λi h=>IsRangeIter h it (lo + (i:Nat) * 1) ((n:Int) - (i:Nat)) 1) where
 mem:=by simp
 obj:=λi h st b hb=>by
  have e:b = it:=by simpa using hb
  subst e
  exact ⟨_,st,λv z=>by
   have z':Data.fields _ = Data.cell v:=z
   cases z'⟩
 keep:=λi h h' st k=>k it (by simp) _ st
 item:=by
  intro X hP hw hK hc i pins s σ H E I hf st hg
  subst hP hw hK
  obtain ⟨f0,f1,f2,f3,f4,f5⟩:=hf it (by simp)
  have W:=Walks.range (prog:=X.prog) (w:=X.w) (I.ok.hd hc) it lo 1 n
  refine W.item i s _ _ hg st λv h' tk hv st' kk=>?_
  obtain ⟨t,rfl⟩:=hv
  have I1:Inv X pins σ H { s with heap:=h',toks:=tk }:=I.turned (λb o hb e=>kk b o (by simpa using hb) e) f0 f1 f3 f4 f5
  refine ⟨_,rfl,J9 (s:={ s with heap:=h',toks:=tk }) (n := "range_iterator") st' rfl rfl (by decide) ⟨.int (lo + i),H,I1,⟨t,?_⟩,⟨rfl,rfl⟩,st',λb hb=>(hf b hb).1⟩⟩
  rw [Int.mul_one]
 done:=by
  intro X hP hw hK hc i pins s σ H E I hf st hg
  subst hP hw hK
  obtain ⟨f0,f1,f2,f3,f4,f5⟩:=hf it (by simp)
  exact wpAny_pyNext_range_end (I.ok.hd hc) st (by have:n <= i:=hg;omega) λh' eb=>⟨rfl,I.turned (t':=s.toks) (λb o hb e=>eb b o hb e) f0 f1 f3 f4 f5⟩
 self:=λ_ _ _ _ _ st h=>wpAny_pyIter_rangeiter st h
section
variable {X:Cx} {tg:Expr}
def XY (K:PySem.W.Frag) (tl:TE):TI:=λσ H R=>tl σ H λx H1=>∃ a,x = .ref a /\ (∃ xs,cT K H1 a xs) /\ R (ZZ K a) H1
def a0F (K:PySem.W.Frag) (tl:TE):TI:=λσ H R=>tl σ H λx H1=>∃ a,x = .ref a /\ (∃ xs,iM K H1 a xs) /\ R (a00 K a) H1
theorem DS {l:Expr} {tl:TE} (hl:PE X l tl):PI X tg l (XY X.K tl):=by
 intro pins s σ H R I h
 refine c5 (hl pins s σ H _ I h) λv s1 ⟨x,H1,I1,r1,q1⟩=>?_
 obtain ⟨a,e,⟨xs,hq⟩,q⟩:=q1
 subst e
 cases r1
 obtain ⟨its,rv,p,hz⟩:=I1.list hq
 refine wpAny_pyIter_list p.isList ?_
 refine ⟨s1.heap.objs.size,[s1.heap.objs.size],_,_,H1,rfl,I1.kept (t':=s1.toks) λb o e=>a0e _ e,GJ a _,⟨_,Heap.get?_push_size _ rfl,rfl,rfl⟩,λb hb=>?_,q⟩
 have e:b = s1.heap.objs.size:=by simpa using hb
 subst e
 exact I1.fpOk (Nat.le_refl _) (I1.hok.fresh (Nat.le_refl _))
theorem V2 {l:Expr} {tl:TE} (hl:PE X l tl):PI X tg l (a0F X.K tl):=by
 intro pins s σ H R I h
 refine c5 (hl pins s σ H _ I h) λv s1 ⟨x,H1,I1,r1,q1⟩=>?_
 obtain ⟨a,e,⟨xs,hq⟩,q⟩:=q1
 subst e
 cases r1
 obtain ⟨its,rv,p,hz⟩:=I1.tuple hq
 refine wpAny_pyIter_tuple (show s1.heap.IsTuple a its.toArray from p) ?_
 refine ⟨s1.heap.objs.size,[s1.heap.objs.size],_,_,H1,rfl,I1.kept (t':=s1.toks) λb o e=>a0e _ e,CG a _,⟨_,Heap.get?_push_size _ rfl,rfl,rfl⟩,λb hb=>?_,q⟩
 have e:b = s1.heap.objs.size:=by simpa using hb
 subst e
 exact I1.fpOk (Nat.le_refl _) (I1.hok.fresh (Nat.le_refl _))
theorem L5 {pins:List (Addr × Obj)} {σ:St} {H:Hp} {s:Shared} {R:It -> Hp -> Prop} {E:Value -> Shared -> Prop} {lo hi:Int} {t u v:Tok} {tk:Nat} (I:Inv X pins σ H s) (h1:-(2 ^ 62) <= lo) (h2:lo < 2 ^ 62) (h3:-(2 ^ 62) <= hi) (h4:hi < 2 ^ 62)
  (q:R (MG lo (hi - lo).toNat) H):wpAny (model X.prog X.w) X.A (pyIter (.ref s.heap.objs.size)) (a19 X pins σ tg R) E { s with heap:=s.heap.push { cls:=.type "range",data:=.fields #[.int lo t,.int hi u,.int 1 v] },toks:=tk }:=by
 refine wpAny_pyIter_range (IsRange.new ..) (small_one h1 h2 h3 h4) ?_
 have I1:Inv X pins σ H { s with heap:=s.heap.push { cls:=.type "range",data:=.fields #[.int lo t,.int hi u,.int 1 v] },toks:=tk }:=I.kept λb o e=>a0e _ e
 refine ⟨(s.heap.push { cls:=.type "range",data:=.fields #[.int lo t,.int hi u,.int 1 v] }).objs.size,[(s.heap.push { cls:=.type "range",data:=.fields #[.int lo t,.int hi u,.int 1 v] }).objs.size],_,_,H,rfl,
  I1.kept (t':=tk) λb o e=>a0e _ e,CF _ lo (hi - lo).toNat,?_,λb hb=>?_,q⟩
 ·have e1:lo + ((0:Nat):Int) * 1 = lo:=by simp
  have e2:(((hi - lo).toNat:Nat):Int) - ((0:Nat):Int) = Builtin.Range.rangeSize lo hi 1:=by rw [rangeSize_one];split <;> omega
  show IsRangeIter _ _ (lo + ((0:Nat):Int) * 1) ((((hi - lo).toNat:Nat):Int) - ((0:Nat):Int)) 1
  rw [e1,e2]
  exact Heap.get?_push_size _ rfl
 ·have e:b = (s.heap.push { cls:=.type "range",data:=.fields #[.int lo t,.int hi u,.int 1 v] }).objs.size:=by simpa using hb
  subst e
  exact I1.fpOk (Nat.le_refl _) (I1.hok.fresh (Nat.le_refl _))
def DA (ta:TA):TI:=λσ H R=>ta σ H λvs H1=>∃ j:Int,vs = [.int j] /\ -(2 ^ 62) <= j /\ j < 2 ^ 62 /\ R (MG 0 j.toNat) H1
theorem uO {a:Expr} {ta:TA} {p pos:Pos} (hg:Gl X "range") (hm:X.mg "range" = none) (ha:PA X [a] ta) (hs:starEach [a] X.env = [(false,eval a X.env)]:=by rfl):PI X tg (.Call (.Name "range" p) [a] [] pos) (DA ta):=by
 intro pins s σ H R I h
 refine Call_ (o7 I hg hm boot_range (PyProof.Rows.callWith_type1 (c5 (ha pos pins s σ H _ I h) λus s1 ⟨vs,H1,I1,r1,q1⟩=>?_) hs rfl))
 obtain ⟨j,e,q1,q2,q⟩:=q1
 subst e
 cases r1 with
 | cons r rr =>
  cases rr
  obtain ⟨t,rfl⟩:=r
  exact call_range_1 (L5 I1 (by omega) (by omega) q1 q2 (by simpa using q))
def LN (wi:TI) (g:TG) (tb:TS):TS:=λD σ H=>wi σ H λJ H1=>∃ W:Nat -> Nat -> St -> Hp -> Prop,(∃ m,W 0 m σ H1) /\ ∀ i m σ H,W i m σ H ->
 (J.stop i H /\ D.nx σ H) \/ (J.go i H /\ ∃ N:St -> Hp -> Prop,(∀ σ' H',N σ' H' -> ∃ m',m' < m /\ W (i + 1) m' σ' H') /\ ∀ x H',J.yld i H x H' -> g x σ H' λσ2 H2=>tb { D with nx:=N,ct:=N,bk:=D.nx } σ2 H2)
def lU (fp:List Addr) (h:Heap):List (Addr × Obj):=fp.filterMap λb=>(h.get? b).map λo=>(b,o)
theorem dB {fp:List Addr} {h:Heap} {b:Addr} {o:Obj} (hb:b ∈ fp) (e:h.get? b = some o):(b,o) ∈ lU fp h:=List.mem_filterMap.mpr ⟨b,hb,by rw [e];rfl⟩
theorem G3 {fp:List Addr} {h:Heap} {p:Addr × Obj} (hp:p ∈ lU fp h):p.1 ∈ fp /\ h.get? p.1 = some p.2:=by
 obtain ⟨b,hb,e⟩:=List.mem_filterMap.mp hp
 cases q:h.get? b with
 | none=>rw [q] at e;cases e
 | some o =>
  rw [q] at e
  have e':(b,o) = p:=Option.some.inj e
  subst e'
  exact ⟨hb,q⟩
theorem Inv.pinned {pins:List (Addr × Obj)} {σ:St} {H:Hp} {s:Shared} {fp:List Addr} (I:Inv X pins σ H s) (hf:∀ b ∈ fp,hV X pins H b) (ho:∀ b ∈ fp,∃ o,s.heap.get? b = some o /\ ∀ v,o.data ≠ .cell v):Inv X (pins ++ lU fp s.heap) σ H s :=
 I.pins_of λp hp=>(List.mem_append.mp hp).elim (λz=>I.pin p (List.mem_append_right _ z)) λz=>by
  obtain ⟨hb,e⟩:=G3 z
  obtain ⟨f0,f1,f2,_⟩:=hf p.1 hb
  obtain ⟨o,e',d⟩:=ho p.1 hb
  rw [e] at e';cases e'
  exact ⟨e,f0,f1,f2,d⟩
theorem Inv.unpinned {pins pl:List (Addr × Obj)} {σ:St} {H:Hp} {s:Shared} (I:Inv X (pins ++ pl) σ H s):Inv X pins σ H s:=I.pins_of λp hp=>I.pin p (List.mem_append_right _ (List.mem_append_left _ hp))
theorem K8 {iter:Expr} {body:List Stmt} {wi:TI} {g:TG} {tb:TS} {pos:Pos} (hp:PassesOwn (model X.prog X.w) X.A X.env X.xe) (hc:X.calm = true) (hi:PI X tg iter wi) (hg:PG X tg g) (hb:tL X body tb)
  (hs:∀ x,foldedSetIterable iter X.env x = pure x:=by intro _;rfl):PS X (.For tg iter body [] pos) (LN wi g tb):=by
 intro pins s σ H D I h
 refine wpAny_For (c5 (hi pins s σ H _ I h) λv s1 h1=>c5 h1 λitv s2 h2=>?_) hs
 obtain ⟨it,fp,tn,J,H2,e,I2,T,st2,f2,W,⟨m0,w0⟩,turn⟩:=h2
 subst e
 have stat:∀ {H':Hp},(∀ b ∈ fp,H' b = none) -> ∀ b ∈ fp,hV X pins H' b:=λhn b hb=>⟨hn b hb,(f2 b hb).2⟩
 refine codeAny_forLoop_any (λn s'=>∃ i σ' H',Inv X pins σ' H' s' /\ tn i s'.heap /\ (∀ b ∈ fp,H' b = none) /\ W i n σ' H') ?_ m0 ⟨0,σ,H2,I2,st2,λb hb=>(f2 b hb).1,w0⟩
 rintro n s3 ⟨i,σ3,H3,I3,ME,fr3,w3⟩
 rcases turn i n σ3 H3 w3 with ⟨stop,qn⟩ | ⟨go,N,hN,step⟩
 ·refine wpAny_passesOwn hp (c5 (T.done X rfl rfl rfl hc i pins s3 σ3 H3 X.xe I3 (stat fr3) ME stop) λr s4 ⟨hr,I4⟩=>?_)
  subst hr
  exact wpAny_execs_nil ⟨σ3,H3,I4,qn⟩
 ·refine wpAny_passesOwn hp (c5 (T.item X rfl rfl rfl hc i pins s3 σ3 H3 X.xe I3 (stat fr3) ME go) λr s4 ⟨u,hr,h4⟩=>?_)
  subst hr
  refine wpAny_passesOwn hp (c5 h4 λ_ s5 ⟨x,H5,I5,r5,y5,st5,fr5⟩=>?_)
  have I5':=I5.pinned (stat fr5) (T.obj _ _ st5)
  refine wpAny_passesOwn hp (c5 (hg _ s5 σ3 H5 x u _ I5' r5 (step x H5 y5)) λ_ s6 ⟨σ6,H6,I6,q6⟩=>?_)
  refine wpAny_passesOwn hp (c5 (hb _ s6 σ6 H6 _ I6 q6) λf s7 q7=>?_)
  have again:∀ {σ7:St} {H7:Hp},Inv X (pins ++ lU fp s5.heap) σ7 H7 s7 -> N σ7 H7 -> ∃ m,m < n /\ ∃ i σ' H',Inv X pins σ' H' s7 /\ tn i s7.heap /\ (∀ b ∈ fp,H' b = none) /\ W i m σ' H':=fun {σ7 H7} I7 n7=>by
   obtain ⟨m',hm,w7⟩:=hN σ7 H7 n7
   refine ⟨m',hm,i + 1,σ7,H7,I7.unpinned,T.keep _ _ _ st5 λb hb o e=>(I7.pin (b,o) (List.mem_append_right _ (List.mem_append_right _ (dB hb e)))).1,λb hb=>?_,w7⟩
   obtain ⟨o,e,d⟩:=T.obj _ _ st5 b hb
   exact (I7.pin (b,o) (List.mem_append_right _ (List.mem_append_right _ (dB hb e)))).2.1
  cases f with
  | next=>obtain ⟨σ7,H7,I7,n7⟩:=q7;exact again I7 n7
  | cont=>obtain ⟨σ7,H7,I7,n7⟩:=q7;exact again I7 n7
  | brk=>obtain ⟨σ7,H7,I7,q7⟩:=q7;exact ⟨σ7,H7,I7.unpinned,q7⟩
  | ret v=>obtain ⟨x7,σ7,H7,I7,r7,q7⟩:=q7;exact ⟨x7,σ7,H7,I7.unpinned,r7,q7⟩
end
theorem FL {lo:Int} {n:Nat} {g:TG} {tb:TS} {D:Ends} {σ:St} {H:Hp} (Pv:Nat -> St -> Hp -> Prop) (h0:Pv 0 σ H)
  (hs:∀ i σ H,i < n -> Pv i σ H -> g (.int (lo + i)) σ H λσ2 H2=>tb { D with nx:=Pv (i + 1),ct:=Pv (i + 1),bk:=D.nx } σ2 H2) (hd:∀ σ H,Pv n σ H -> D.nx σ H) :
  ∃ W:Nat -> Nat -> St -> Hp -> Prop,(∃ m,W 0 m σ H) /\ ∀ i m σ H,W i m σ H ->
   ((MG lo n).stop i H /\ D.nx σ H) \/ ((MG lo n).go i H /\ ∃ N:St -> Hp -> Prop,(∀ σ' H',N σ' H' -> ∃ m',m' < m /\ W (i + 1) m' σ' H') /\ ∀ x H',(MG lo n).yld i H x H' -> g x σ H' λσ2 H2=>tb { D with nx:=N,ct:=N,bk:=D.nx } σ2 H2):=by
 refine ⟨λi m σ H=>m = n - i /\ i <= n /\ Pv i σ H,⟨n,by simp,Nat.zero_le _,h0⟩,?_⟩
 rintro i m σ H ⟨rfl,hi,p⟩
 by_cases hlt:i < n
 ·refine .inr ⟨hlt,Pv (i + 1),λσ' H' p'=>⟨n - (i + 1),by omega,rfl,hlt,p'⟩,λx H' y=>?_⟩
  obtain ⟨e,y⟩:=y
  subst e y
  exact hs i σ _ hlt p
 ·have e:i = n:=by omega
  subst e
  exact .inl ⟨Nat.le_refl _,hd σ H p⟩
abbrev R2:=V -> V -> Hp -> VK -> Prop
def mB (X:Cx) (f:Value -> Value -> Sem Value) (r:R2):Prop :=
 ∀ (pins:List (Addr × Obj)) (s:Shared) (σ:St) (H:Hp) (x y:V) (v u:Value) (Q:VK),Inv X pins σ H s -> b7 x v -> b7 y u -> r x y H Q ->
  wpAny (model X.prog X.w) X.A (f v u) (EP X pins σ Q) X.xe s
def ZR (X:Cx) (f:Value -> Sem Value) (r:V -> Hp -> VK -> Prop):Prop :=
 ∀ (pins:List (Addr × Obj)) (s:Shared) (σ:St) (H:Hp) (x:V) (v:Value) (Q:VK),Inv X pins σ H s -> b7 x v -> r x H Q ->
  wpAny (model X.prog X.w) X.A (f v) (EP X pins σ Q) X.xe s
def dD (X:Cx) (f:Value) (r:List V -> Hp -> VK -> Prop):Prop :=
 ∀ (pins:List (Addr × Obj)) (s:Shared) (σ:St) (H:Hp) (xs:List V) (us:List Value) (Q:VK),Inv X pins σ H s -> aU xs us -> r xs H Q ->
  wpAny (model X.prog X.w) X.A (call f us) (EP X pins σ Q) X.xe s
def a04 (X:Cx) (r:V -> Hp -> (Bool -> Hp -> Prop) -> Prop):Prop :=
 ∀ (pins:List (Addr × Obj)) (s:Shared) (σ:St) (H:Hp) (x:V) (v:Value) (Q:Bool -> Hp -> Prop),Inv X pins σ H s -> b7 x v -> r x H Q ->
  wpAny (model X.prog X.w) X.A (truthy v) (TP X pins σ Q) X.xe s
def LP (r:R2) (ta tb:TE):TE:=λσ H Q=>ta σ H λx H1=>tb σ H1 λy H2=>r x y H2 Q
def ZV (r:V -> Hp -> VK -> Prop) (ta:TE):TE:=λσ H Q=>ta σ H λx H1=>r x H1 Q
def rI (C:Int -> Int -> Prop) (g:Int -> Int -> V):R2:=λx y H Q=>∃ i j,x = .int i /\ y = .int j /\ C i j /\ Q (g i j) H
def tF (g:Int -> Int -> V):R2:=λx y H Q=>∃ i j,x = .int i /\ y = .int j /\ Q (g i j) H
def rU (g:Int -> V):V -> Hp -> VK -> Prop:=λx H Q=>∃ i,x = .int i /\ Q (g i) H
section
variable {X:Cx} {a b c:Expr} {ta tb tc:TE} {pos:Pos}
theorem RW (ha:PE X a ta) (hb:PE X b tb) {pins:List (Addr × Obj)} {s:Shared} {σ:St} {H:Hp} {R:V -> V -> Hp -> Prop} (I:Inv X pins σ H s)
  (h:ta σ H λx H1=>tb σ H1 λy H2=>R x y H2) {Q:Value -> Shared -> Prop} {f:Value -> Value -> Sem Value}
  (hf:∀ v u s2 x y H2,Inv X pins σ H2 s2 -> b7 x v -> b7 y u -> R x y H2 -> wpAny (model X.prog X.w) X.A (f v u) Q X.xe s2) :
  wpAny (model X.prog X.w) X.A (eval a X.env) (λv s₁=>wpAny (model X.prog X.w) X.A (eval b X.env) (λu s₂=>wpAny (model X.prog X.w) X.A (f v u) Q X.xe s₂) X.xe s₁) X.xe s:=by
 refine c5 (ha pins s σ H _ I h) λv s1 ⟨x,H1,I1,r1,q1⟩=>?_
 refine c5 (hb pins s1 σ H1 _ I1 q1) λu s2 ⟨y,H2,I2,r2,q2⟩=>?_
 exact hf v u s2 x y H2 I2 r1 r2 q2
theorem zG {op:Operator} {r:R2} (ho:mB X (binaryOp op) r) (ha:PE X a ta) (hb:PE X b tb):PE X (.BinOp a op b pos) (LP r ta tb):=by
 intro pins s σ H Q I h
 exact wpAny_BinOp (RW ha hb I h λv u s2 x y H2 I2 rx ry q=>ho pins s2 σ H2 x y v u Q I2 rx ry q)
theorem RG {op:UnaryOp} {r:V -> Hp -> VK -> Prop} (ho:ZR X (unaryOp op) r) (ha:PE X a ta):PE X (.UnaryOp op a pos) (ZV r ta):=by
 intro pins s σ H Q I h
 exact UnaryOp_ (c5 (ha pins s σ H _ I h) λv s1 ⟨x,H1,I1,r1,q1⟩=>ho pins s1 σ H1 x v Q I1 r1 q1)
theorem ZU {f:Value -> Value -> Sem Value} {C:Int -> Int -> Prop} {g:Int -> Int -> Int}
  (rule:∀ (i j:Int) (t u:Tok) (s:Shared) (Q:Value -> Shared -> Prop) (E:Value -> Shared -> Prop),C i j -> Q (.int (g i j) s.toks) { s with toks:=s.toks + 1 } -> wpAny (model X.prog X.w) X.A (f (.int i t) (.int j u)) Q E s) :
  mB X f (rI C λi j=>.int (g i j)):=by
 intro pins s σ H x y v u Q I rx ry h
 obtain ⟨i,j,rfl,rfl,hc,q⟩:=h
 obtain ⟨t,rfl⟩:=rx
 obtain ⟨t',rfl⟩:=ry
 exact rule i j t t' s _ _ hc ⟨.int (g i j),H,I.tok _,⟨_,rfl⟩,q⟩
theorem Y9 {f:Value -> Value -> Sem Value} {g:Int -> Int -> Int}
  (rule:∀ (i j:Int) (t u:Tok) (s:Shared) (Q:Value -> Shared -> Prop) (E:Value -> Shared -> Prop),Q (.int (g i j) s.toks) { s with toks:=s.toks + 1 } -> wpAny (model X.prog X.w) X.A (f (.int i t) (.int j u)) Q E s) :
  mB X f (tF λi j=>.int (g i j)):=by
 intro pins s σ H x y v u Q I rx ry h
 obtain ⟨i,j,rfl,rfl,q⟩:=h
 obtain ⟨t,rfl⟩:=rx
 obtain ⟨t',rfl⟩:=ry
 exact rule i j t t' s _ _ ⟨.int (g i j),H,I.tok _,⟨_,rfl⟩,q⟩
theorem UH {f:Value -> Value -> Sem Value} {g:Int -> Int -> Bool}
  (rule:∀ (i j:Int) (t u:Tok) (s:Shared) (Q:Value -> Shared -> Prop) (E:Value -> Shared -> Prop),Q (.bool (g i j)) s -> wpAny (model X.prog X.w) X.A (f (.int i t) (.int j u)) Q E s) :
  mB X f (tF λi j=>.bl (g i j)):=by
 intro pins s σ H x y v u Q I rx ry h
 obtain ⟨i,j,rfl,rfl,q⟩:=h
 obtain ⟨t,rfl⟩:=rx
 obtain ⟨t',rfl⟩:=ry
 exact rule i j t t' s _ _ ⟨.bl (g i j),H,I,rfl,q⟩
def sP (i j:Int):Prop:=0 <= j /\ j <= 1000000 /\ i.natAbs < 2 ^ 64
def sO (i j:Int):Prop:=(-(2 ^ 64) < i /\ i < 2 ^ 64) \/ (-(2 ^ 64) < j /\ j < 2 ^ 64)
theorem sO.ok {i j:Int} (h:sO i j):IntMulOk i j:=by
 rcases h with ⟨h1,h2⟩ | ⟨h1,h2⟩
 ·exact .of_left (intBits_le_64 h1 h2)
 ·exact .of_right (intBits_le_64 h1 h2)
theorem UI:mB X (binaryOp .Add) (tF λi j=>.int (i + j)):=Y9 λ_ _ _ _ _ _ _ q=>add_int q
theorem UQ:mB X (binaryOp .Sub) (tF λi j=>.int (i - j)):=Y9 λ_ _ _ _ _ _ _ q=>sub_int q
theorem UN:mB X (binaryOp .Mult) (rI sO λi j=>.int (i * j)):=ZU λ_ _ _ _ _ _ _ hc q=>mul_int q hc.ok
theorem UM:mB X (binaryOp .Mod) (rI (λ_ j=>0 < j) λi j=>.int (i % j)):=ZU λi j _ _ _ _ _ hc q=>by
 have h1:(0:Int) < j:=hc
 exact mod_int' (by omega) (by rw [Int.fmod_eq_emod_of_nonneg i (by omega)];exact q)
theorem UO:mB X (binaryOp .Pow) (rI sP λi j=>.int (i ^ j.toNat)):=ZU λ_ _ _ _ _ _ _ hc q=>pow_int_small hc.1 hc.2.1 hc.2.2 q
theorem a1X {f:Value -> Sem Value} {g:Int -> Int}
  (rule:∀ (i:Int) (t:Tok) (s:Shared) (Q:Value -> Shared -> Prop) (E:Value -> Shared -> Prop),Q (.int (g i) s.toks) { s with toks:=s.toks + 1 } -> wpAny (model X.prog X.w) X.A (f (.int i t)) Q E s) :
  ZR X f (rU λi=>.int (g i)):=by
 intro pins s σ H x v Q I rx h
 obtain ⟨i,rfl,q⟩:=h
 obtain ⟨t,rfl⟩:=rx
 exact rule i t s _ _ ⟨.int (g i),H,I.tok _,⟨_,rfl⟩,q⟩
theorem WL:ZR X (unaryOp .USub) (rU λi=>.int (-i)):=a1X λ_ _ _ _ _ q=>neg_int q
end
def Z6:V -> V -> Bool
 | .non,.non=>true | .non,.int _=>true | .int _,.non=>true | .non,.bl _=>true | .bl _,.non=>true | .non,.str _=>true | .str _,.non=>true
 | .int _,.int _=>true | .bl _,.bl _=>true | .str _,.str _=>true | .byt _,.byt _=>true
 | .int _,.str _=>true | .str _,.int _=>true | .bl _,.str _=>true | .str _,.bl _=>true
 | _,_=>false
def a0S:R2:=λx y H Q=>Z6 x y = true /\ Q (.bl (decide (x = y))) H
def a0U:R2:=λx y H Q=>Z6 x y = true /\ Q (.bl (!decide (x = y))) H
theorem D0 {i j:Int}:decide (V.int i = V.int j) = (i == j):=by
 rw [Bool.eq_iff_iff]
 simp
theorem IK {i j:Bool}:decide (V.bl i = V.bl j) = (i == j):=by
 rw [Bool.eq_iff_iff]
 simp
theorem D1 {i j:Str}:decide (V.str i = V.str j) = (i == j):=by
 rw [Bool.eq_iff_iff]
 simp
theorem CZ {i j:Array UInt8}:decide (V.byt i = V.byt j) = (i.toList == j.toList):=by
 rw [Bool.eq_iff_iff]
 cases i
 cases j
 simp
section
variable {X:Cx} {a b c:Expr} {ta tb tc:TE} {pos:Pos}
theorem b4 {pins:List (Addr × Obj)} {σ:St} {H:Hp} {s:Shared} {Q:VK} {k k':Bool} (I:Inv X pins σ H s) (q:Q (.bl k) H) (e:k = k'):EP X pins σ Q (.bool k') s:=by
 subst e
 exact ⟨.bl k,H,I,rfl,q⟩
theorem YA:mB X (compareOp .Eq) a0S:=by
 intro pins s σ H x y v u Q I rx ry h
 obtain ⟨hs,q⟩:=h
 cases x with
 | non =>
  cases rx
  cases y with
  | non=>cases ry;exact PySem.EqNone.eq_none_none (b4 I q (by simp))
  | bl j=>cases ry;exact PySem.EqNone.eq_none_bool (b4 I q (by simp))
  | int j=>obtain ⟨t',rfl⟩:=ry;exact PySem.EqNone.eq_none_int (b4 I q (by simp))
  | str j=>obtain ⟨t',rfl⟩:=ry;exact PySem.EqNone.eq_none_str (b4 I q (by simp))
  | _=>exact absurd (show false = true from hs) a0k
 | bl i =>
  cases rx
  cases y with
  | non=>cases ry;exact PySem.EqNone.eq_bool_none (b4 I q (by simp))
  | bl j=>cases ry;exact eq_bool (b4 I q IK)
  | str j=>obtain ⟨t',rfl⟩:=ry;exact PySem.EqMixed.eq_bool_str (b4 I q (by simp))
  | _=>exact absurd (show false = true from hs) a0k
 | int i =>
  obtain ⟨t,rfl⟩:=rx
  cases y with
  | non=>cases ry;exact PySem.EqNone.eq_int_none (b4 I q (by simp))
  | int j=>obtain ⟨t',rfl⟩:=ry;exact eq_int (b4 I q D0)
  | str j=>obtain ⟨t',rfl⟩:=ry;exact PySem.EqMixed.eq_int_str (b4 I q (by simp))
  | _=>exact absurd (show false = true from hs) a0k
 | str i =>
  obtain ⟨t,rfl⟩:=rx
  cases y with
  | non=>cases ry;exact PySem.EqNone.eq_str_none (b4 I q (by simp))
  | bl j=>cases ry;exact PySem.EqMixed.eq_str_bool (b4 I q (by simp))
  | int j=>obtain ⟨t',rfl⟩:=ry;exact PySem.EqMixed.eq_str_int (b4 I q (by simp))
  | str j=>obtain ⟨t',rfl⟩:=ry;exact eq_str (b4 I q D1)
  | _=>exact absurd (show false = true from hs) a0k
 | byt i =>
  obtain ⟨t,rfl⟩:=rx
  cases y with
  | byt j=>obtain ⟨t',rfl⟩:=ry;exact PySem.W.eq_bytes (b4 I q CZ)
  | _=>exact absurd (show false = true from hs) a0k
 | _=>cases y <;> exact absurd (show false = true from hs) a0k
theorem YE:mB X (compareOp .NotEq) a0U:=by
 intro pins s σ H x y v u Q I rx ry h
 obtain ⟨hs,q⟩:=h
 cases x with
 | non =>
  cases rx
  cases y with
  | non=>cases ry;exact PySem.EqNone.ne_none_none (b4 I q (by simp))
  | bl j=>cases ry;exact PySem.EqNone.ne_none_bool (b4 I q (by simp))
  | int j=>obtain ⟨t',rfl⟩:=ry;exact PySem.EqNone.ne_none_int (b4 I q (by simp))
  | str j=>obtain ⟨t',rfl⟩:=ry;exact PySem.EqNone.ne_none_str (b4 I q (by simp))
  | _=>exact absurd (show false = true from hs) a0k
 | bl i =>
  cases rx
  cases y with
  | non=>cases ry;exact PySem.EqNone.ne_bool_none (b4 I q (by simp))
  | bl j=>cases ry;exact ne_bool (b4 I q (congrArg not IK))
  | str j=>obtain ⟨t',rfl⟩:=ry;exact PySem.EqMixed.ne_bool_str (b4 I q (by simp))
  | _=>exact absurd (show false = true from hs) a0k
 | int i =>
  obtain ⟨t,rfl⟩:=rx
  cases y with
  | non=>cases ry;exact PySem.EqNone.ne_int_none (b4 I q (by simp))
  | int j=>obtain ⟨t',rfl⟩:=ry;exact ne_int (b4 I q (congrArg not D0))
  | str j=>obtain ⟨t',rfl⟩:=ry;exact PySem.EqMixed.ne_int_str (b4 I q (by simp))
  | _=>exact absurd (show false = true from hs) a0k
 | str i =>
  obtain ⟨t,rfl⟩:=rx
  cases y with
  | non=>cases ry;exact PySem.EqNone.ne_str_none (b4 I q (by simp))
  | bl j=>cases ry;exact PySem.EqMixed.ne_str_bool (b4 I q (by simp))
  | int j=>obtain ⟨t',rfl⟩:=ry;exact PySem.EqMixed.ne_str_int (b4 I q (by simp))
  | str j=>obtain ⟨t',rfl⟩:=ry;exact ne_str (b4 I q (congrArg not D1))
  | _=>exact absurd (show false = true from hs) a0k
 | byt i =>
  obtain ⟨t,rfl⟩:=rx
  cases y with
  | byt j=>obtain ⟨t',rfl⟩:=ry;exact PySem.W.ne_bytes (b4 I q (congrArg not CZ))
  | _=>exact absurd (show false = true from hs) a0k
 | _=>cases y <;> exact absurd (show false = true from hs) a0k
theorem YD:mB X (compareOp .Lt) (tF λi j=>.bl (decide (i < j))):=UH λ_ _ _ _ _ _ _ q=>lt_int q
theorem YC:mB X (compareOp .LtE) (tF λi j=>.bl (decide (i <= j))):=UH λ_ _ _ _ _ _ _ q=>le_int q
theorem YB:mB X (compareOp .Gt) (tF λi j=>.bl (decide (j < i))):=UH λ_ _ _ _ _ _ _ q=>gt_int q
theorem UL:mB X (compareOp .Is) (λx y H Q=>y = .non /\ Q (.bl (decide (x = .non))) H):=by
 intro pins s σ H x y v u Q I rx ry h
 obtain ⟨rfl,q⟩:=h
 cases ry
 refine is_none_gen (b4 I q ?_)
 cases x <;> first
  | (cases rx;rfl)
  | (obtain ⟨t,rfl⟩:=rx;rfl)
theorem OI:mB X (compareOp .IsNot) (λx y H Q=>y = .non /\ Q (.bl (!decide (x = .non))) H):=by
 intro pins s σ H x y v u Q I rx ry h
 obtain ⟨rfl,q⟩:=h
 cases ry
 refine isnot_none_gen (b4 I q ?_)
 cases x <;> first
  | (cases rx;rfl)
  | (obtain ⟨t,rfl⟩:=rx;rfl)
theorem bA (b:Expr) {op:CmpOp} (h:op ≠ .In:=by decide) (h2:op ≠ .NotIn:=by decide):behindInMarks op b = false:=by
 have e1:(op == CmpOp.In) = false:=by cases op <;> first | rfl | exact absurd rfl h
 have e2:(op == CmpOp.NotIn) = false:=by cases op <;> first | rfl | exact absurd rfl h2
 cases b <;> simp [behindInMarks,e1,e2]
theorem DQ {op:CmpOp} {r:R2} (ho:mB X (compareOp op) r) (ha:PE X a ta) (hb:PE X b tb) (hm:behindInMarks op b = false):PE X (.Compare a [op] [b] pos) (LP r ta tb):=by
 intro pins s σ H Q I h
 exact wpAny_Compare1 (RW ha hb I h λv u s2 x y H2 I2 rx ry q=>ho pins s2 σ H2 x y v u Q I2 rx ry q) hm
def EB (t:TE):TT:=λσ H Q=>t σ H λx H'=>∃ k,x = .bl k /\ Q k H'
theorem DW {op:CmpOp} {r:R2} (ho:mB X (compareOp op) r) (ha:PE X a ta) (hb:PE X b tb) (hm:behindInMarks op b = false):PT X (.Compare a [op] [b] pos) (EB (LP r ta tb)):=by
 intro pins s σ H Q I h
 refine wpAny_isTrue_Compare1 (c5 (ha pins s σ H _ I h) λv s1 ⟨x,H1,I1,r1,q1⟩=>c5 (hb pins s1 σ H1 _ I1 q1) λu s2 ⟨y,H2,I2,r2,q2⟩ =>
  c5 (ho pins s2 σ H2 x y v u _ I2 r1 r2 q2) λc s3 ⟨z,H3,I3,r3,k,e,q3⟩=>?_) hm
 subst e
 cases r3
 exact wpAny_truthy_bool ⟨H3,I3,q3⟩
def LL (r r':R2) (ta tb tc:TE):TE:=λσ H Q=>ta σ H λx H1=>tb σ H1 λy H2=>r x y H2 λz H3=>∃ k,z = .bl k /\
 (if k = true then tc σ H3 λw' H4=>r' y w' H4 Q else Q (.bl false) H3)
theorem K0 {op op':CmpOp} {r r':R2} (ho:mB X (compareOp op) r) (ho':mB X (compareOp op') r') (ha:PE X a ta) (hb:PE X b tb) (hc:PE X c tc)
  (hm:lastMarks [op,op'] [b,c] = false:=by with_unfolding_all rfl):PE X (.Compare a [op,op'] [b,c] pos) (LL r r' ta tb tc):=by
 intro pins s σ H Q I h
 refine Compare_chain (c5 (ha pins s σ H _ I h) λv s1 ⟨x,H1,I1,r1,q1⟩=>chain_link (c5 (hb pins s1 σ H1 _ I1 q1) λu s2 ⟨y,H2,I2,r2,q2⟩ =>
  c5 (ho pins s2 σ H2 x y v u _ I2 r1 r2 q2) λd s3 ⟨z,H3,I3,r3,k,e,q3⟩=>?_)) hm
 subst e
 cases r3
 refine wpAny_truthy_bool ?_
 cases k with
 | false=>exact ite_ff ⟨.bl false,H3,I3,rfl,q3⟩
 | true=>exact ite_tt (chain_last (c5 (hc pins s3 σ H3 _ I3 q3) λw' s4 ⟨z',H4,I4,r4,q4⟩=>ho' pins s4 σ H4 y z' u w' Q I4 r2 r4 q4))
def X6 (K:PySem.W.Frag) (x:V) (H:Hp) (k:Bool):Prop :=
 match x with
 | .non=>k = false
 | .bl b=>k = b
 | .int i=>k = (i != 0)
 | .str y=>y.length <= sizeLine /\ k = ((y.length:Int) != 0)
 | .byt y=>y.size <= sizeLine /\ k = ((y.size:Int) != 0)
 | .ref p=>(∃ xs,cT K H p xs /\ k = !xs.isEmpty) \/ (∃ xs,iM K H p xs /\ k = !xs.isEmpty) \/ ∃ kvs,H p = some (.dK kvs) /\ k = !kvs.isEmpty
 | _=>False
theorem BD {κ:Type} {kvs:List (κ × V)} {vs:List (κ × Value)} (r:KV kvs vs):(!vs.isEmpty) = !kvs.isEmpty:=by
 cases r <;> rfl
theorem qS {xs:List V} {its:List Value} (r:aU xs its):(!its.toArray.isEmpty) = !xs.isEmpty:=by
 cases r <;> simp
theorem lP:(sizeLine:Nat) < 2 ^ 63:=by rw [sizeLine_eq];decide
theorem WI:a04 X (λx H Q=>∃ k,X6 X.K x H k /\ Q k H):=by
 intro pins s σ H x v Q I rx h
 obtain ⟨k,e,q⟩:=h
 have hl:=lP
 have hs:sizeLine = 16777216:=sizeLine_eq
 cases x with
 | non =>
  cases rx
  have e':k = false:=e
  subst e'
  exact truthy_none ⟨H,I,q⟩
 | bl b =>
  cases rx
  have e':k = b:=e
  subst e'
  exact wpAny_truthy_bool ⟨H,I,q⟩
 | int i =>
  obtain ⟨t,rfl⟩:=rx
  have e':k = (i != 0):=e
  subst e'
  exact PySem.P.truthy_int ⟨H,I,q⟩
 | str y =>
  obtain ⟨t,rfl⟩:=rx
  obtain ⟨hy,e'⟩ : y.length <= sizeLine /\ k = ((y.length:Int) != 0):=e
  subst e'
  exact PySem.P.truthy_str (by omega) ⟨H,I.tok _,q⟩
 | byt y =>
  obtain ⟨t,rfl⟩:=rx
  obtain ⟨hy,e'⟩ : y.size <= sizeLine /\ k = ((y.size:Int) != 0):=e
  subst e'
  exact PySem.W.truthy_bytes (by omega) ⟨H,I.tok _,q⟩
 | ref p =>
  cases rx
  have e':(∃ xs,cT X.K H p xs /\ k = !xs.isEmpty) \/ (∃ xs,iM X.K H p xs /\ k = !xs.isEmpty) \/ ∃ kvs,H p = some (.dK kvs) /\ k = !kvs.isEmpty:=e
  rcases e' with ⟨xs,hx,e'⟩ | ⟨xs,hx,e'⟩ | ⟨kvs,hx,e'⟩
  ·subst e'
   obtain ⟨its,r,pl,hz⟩:=I.list hx
   have hlen:=r.length
   exact wpAny_truthy_list pl.isList (by simp only [List.size_toArray];omega) ⟨H,I.tok _,by rw [qS r];exact q⟩
  ·subst e'
   obtain ⟨its,r,pl,hz⟩:=I.tuple hx
   have hlen:=r.length
   exact truthy_tuple pl (by simp only [List.size_toArray];omega) ⟨H,I.tok _,by rw [qS r];exact q⟩
  ·subst e'
   obtain ⟨hz,hS,vs,r,m⟩ : kvs.length <= sizeLine /\ (p == sysModules) = false /\ ∃ vs,KV kvs vs /\ s.heap.DictOf (aV X.prog X.w) p vs:=I.hok p _ hx
   have hlen:kvs.length = vs.length:=Paired.length r
   exact wpAny_truthy_dict hS m (by omega) ⟨H,I.tok _,by rw [BD r];exact q⟩
 | _=>exact (show False from e).elim
theorem BZ:mB X (binaryOp .Add) (λx y H Q=>∃ i j,x = .str i /\ y = .str j /\ i.length + j.length <= sizeLine /\ Q (.str (i ++ j)) H):=by
 intro pins s σ H x y v u Q I rx ry h
 obtain ⟨i,j,rfl,rfl,hz,q⟩:=h
 obtain ⟨t,rfl⟩:=rx
 obtain ⟨t',rfl⟩:=ry
 exact add_str (λt' tk=>⟨.str (i ++ j),H,I.tok _,⟨_,rfl⟩,q⟩) hz
theorem gV {x:V} {us:List Value} (r:aU [x] us):∃ u,us = [u] /\ b7 x u:=by
 cases r with
 | cons r1 r2=>cases r2;exact ⟨_,rfl,r1⟩
theorem ED {x y:V} {us:List Value} (r:aU [x,y] us):∃ u w',us = [u,w'] /\ b7 x u /\ b7 y w':=by
 cases r with
 | cons r1 r2 =>
  cases r2 with
  | cons r3 r4=>cases r4;exact ⟨_,_,rfl,r1,r3⟩
theorem F4 (hc:X.calm = true):dD X (.builtin "max") (λxs H Q=>∃ i j,xs = [.int i,.int j] /\ Q (.int (if j > i then j else i)) H):=by
 intro pins s σ H xs us Q I r h
 obtain ⟨i,j,rfl,q⟩:=h
 obtain ⟨u,w',rfl,⟨t,rfl⟩,⟨t',rfl⟩⟩:=ED r
 refine max_two_ints (I.ok.hd hc) λh' tk k=>⟨_,H,I.kept k,?_,q⟩
 by_cases hj:j > i
 ·rw [if_pos hj,if_pos hj];exact ⟨_,rfl⟩
 ·rw [if_neg hj,if_neg hj];exact ⟨_,rfl⟩
theorem F5 (hc:X.calm = true):dD X (.builtin "min") (λxs H Q=>∃ i j,xs = [.int i,.int j] /\ Q (.int (if j < i then j else i)) H):=by
 intro pins s σ H xs us Q I r h
 obtain ⟨i,j,rfl,q⟩:=h
 obtain ⟨u,w',rfl,⟨t,rfl⟩,⟨t',rfl⟩⟩:=ED r
 refine min_two_ints (I.ok.hd hc) λh' tk k=>⟨_,H,I.kept k,?_,q⟩
 by_cases hj:j < i
 ·rw [if_pos hj,if_pos hj];exact ⟨_,rfl⟩
 ·rw [if_neg hj,if_neg hj];exact ⟨_,rfl⟩
theorem F3:dD X (.type "int") (λxs H Q=>(∃ i,xs = [.int i] /\ Q (.int i) H) \/ ∃ k,xs = [.bl k] /\ Q (.int (if k then 1 else 0)) H):=by
 intro pins s σ H xs us Q I r h
 rcases h with ⟨i,rfl,q⟩ | ⟨k,rfl,q⟩
 ·obtain ⟨u,rfl,t,rfl⟩:=gV r
  exact call_int_int ⟨.int i,H,I,⟨_,rfl⟩,q⟩
 ·obtain ⟨u,rfl,r1⟩:=gV r
  cases r1
  exact call_int_bool ⟨.int (if k then 1 else 0),H,I.tok _,⟨_,rfl⟩,q⟩
def X3 (K:PySem.W.Frag) (x:V) (H:Hp) (n:Nat):Prop :=
 match x with
 | .str y=>y.length <= sizeLine /\ n = y.length
 | .byt y=>y.size <= sizeLine /\ n = y.size
 | .ref p=>(∃ xs,cT K H p xs /\ n = xs.length) \/ ∃ xs,iM K H p xs /\ n = xs.length
 | _=>False
theorem ID:dD X (.builtin "len") (λxs H Q=>∃ x n,xs = [x] /\ X3 X.K x H n /\ Q (.int n) H):=by
 intro pins s σ H xs us Q I r h
 obtain ⟨x,n,rfl,e,q⟩:=h
 obtain ⟨u,rfl,rx⟩:=gV r
 have hl:=lP
 have hs:sizeLine = 16777216:=sizeLine_eq
 cases x with
 | str y =>
  obtain ⟨t,rfl⟩:=rx
  obtain ⟨hy,e'⟩ : y.length <= sizeLine /\ n = y.length:=e
  subst e'
  exact len_str (by omega) ⟨.int _,H,I.tok _,⟨_,rfl⟩,q⟩
 | byt y =>
  obtain ⟨t,rfl⟩:=rx
  obtain ⟨hy,e'⟩ : y.size <= sizeLine /\ n = y.size:=e
  subst e'
  exact PySem.W.len_bytes (by omega) ⟨.int _,H,I.tok _,⟨_,rfl⟩,q⟩
 | ref p =>
  cases rx
  have e':(∃ xs,cT X.K H p xs /\ n = xs.length) \/ ∃ xs,iM X.K H p xs /\ n = xs.length:=e
  rcases e' with ⟨xs,hx,e'⟩ | ⟨xs,hx,e'⟩
  ·subst e'
   obtain ⟨its,r',pl,hz⟩:=I.list hx
   have hlen:=r'.length
   exact Calls.call_len_list pl.isList (by simp only [List.size_toArray];omega) ⟨.int xs.length,H,I.tok _,⟨_,by simp only [List.size_toArray];rw [hlen]⟩,q⟩
  ·subst e'
   obtain ⟨its,r',pl,hz⟩:=I.tuple hx
   have hlen:=r'.length
   exact len_tuple pl (by simp only [List.size_toArray];omega) ⟨.int xs.length,H,I.tok _,⟨_,by simp only [List.size_toArray];rw [hlen]⟩,q⟩
 | _=>exact (show False from e).elim
end
theorem pG.some_of {v:V} {o:Option Value} (r:pG (some v) o):∃ u,o = some u /\ b7 v u:=by
 cases o with
 | none=>exact (show False from r).elim
 | some u=>exact ⟨u,rfl,r⟩
structure Room (k:Nat) (A:Around):Prop where
 hd:A.handled = none
 dp:A.depth + 3 * k + 5 < recursionLimit
 un:A.units + 16 * k + 200 < cLine
 gd:A.guards = some []:=by rfl
theorem Room.mono {j k:Nat} {A:Around} (r:Room k A) (h:j <= k):Room j A:=⟨r.hd,by have:=r.dp;omega,by have:=r.un;omega,r.gd⟩
theorem Room.deeper {k:Nat} {A:Around} (r:Room (k + 1) A) (env:Env):Room k (A.deeper env) :=
 ⟨r.hd,by have:=r.dp;show A.depth + 1 + 3 * k + 5 < _;omega,by have:=r.un;show A.units + 3 + 16 * k + 200 < _;omega,r.gd⟩
theorem Room.depth {k:Nat} {A:Around} (r:Room k A):A.depth < recursionLimit:=by have:=r.dp;omega
theorem Room.units {k:Nat} {A:Around} (r:Room k A):A.units + 64 < cLine:=by have:=r.un;omega
def LO:TA:=λ_ H Q=>Q [] H
def A4 (ta:TE) (tr:TA):TA:=λσ H Q=>ta σ H λx H1=>tr σ H1 λxs H2=>Q (x :: xs) H2
section
variable {X:Cx} {e:Expr} {es:List Expr} {te:TE} {t:TA} {pos:Pos}
theorem j8:PA X [] LO:=λ_ _ _ _ H Q I h=>Calls.spliced_nil ⟨[],H,I,.nil,h⟩
theorem eW (ha:PE X e te) (hr:PA X es t) (hs:starEach (e :: es) X.env = (false,eval e X.env) :: starEach es X.env:=by rfl):PA X (e :: es) (A4 te t):=by
 intro pos pins s σ H Q I h
 rw [hs]
 show wpAny _ _ (spliced ((false,eval e X.env) :: backTo pos (starEach es X.env))) _ _ s
 refine Calls.spliced_cons (c5 (ha pins s σ H _ I h) λu s1 ⟨x,H1,I1,r1,q1⟩=>?_)
 exact c5 (hr pos pins s1 σ H1 _ I1 q1) λus s2 ⟨xs,H2,I2,r2,q2⟩=>⟨x :: xs,H2,I2,.cons r1 r2,q2⟩
def a16 (t:TA):TE:=λσ H Q=>t σ H λxs H1=>xs.length <= sizeLine /\ ∀ p,H1 p = none -> Q (.ref p) (bD H1 p (.tup xs))
def Q0 (t:TA):TE:=λσ H Q=>t σ H λxs H1=>xs.length <= sizeLine /\ ∀ p,H1 p = none -> Q (.ref p) (bD H1 p (.lst xs))
theorem V0 {x1} (h:PA X es t):PE X (.Tuple es x1 pos) (a16 t):=by
 intro pins s σ H Q I hq
 refine wpAny_Tuple_spliced (c5 (h pos pins s σ H _ I hq) λus s1 ⟨xs,H1,I1,r,z,q⟩=>⟨by rw [<- r.length];exact z,?_⟩)
 have hf:H1 s1.heap.objs.size = none:=I1.hok.fresh (Nat.le_refl _)
 refine ⟨.ref s1.heap.objs.size,bD H1 s1.heap.objs.size (.tup xs),I1.laid (t':=s1.toks) (λb u e=>a0e _ e) (Nat.le_refl _) ?_,rfl,q _ hf⟩
 exact ⟨z,us,r,⟨_,Heap.get?_push_size _ rfl,rfl,_,rfl⟩⟩
theorem K2 (h:PA X es t):PE X (.List es pos) (Q0 t):=by
 intro pins s σ H Q I hq
 refine wpAny_List_spliced (c5 (h pos pins s σ H _ I hq) λus s1 ⟨xs,H1,I1,r,z,q⟩=>⟨by rw [<- r.length];exact z,?_⟩)
 have hf:H1 s1.heap.objs.size = none:=I1.hok.fresh (Nat.le_refl _)
 refine ⟨.ref s1.heap.objs.size,bD H1 s1.heap.objs.size (.lst xs),I1.laid (t':=s1.toks) (λb u e=>a0e _ e) (Nat.le_refl _) ?_,rfl,q _ hf⟩
 exact ⟨z,us,0,r,Heap.get?_push_size _ rfl⟩
end
abbrev Sp:=List V -> Hp -> VK -> XK -> Prop
abbrev HI:=List Env -> Hp -> Shared -> XK -> Value -> Shared -> Prop
structure Env0 (P:Program) (w:World) (K:PySem.W.Frag) (mg:Str -> Option Value) (base:Heap) (A:Around) (outer:List Env) (s:Shared) (H:Hp):Prop where
 frames:A.frames = some outer
 mod:Mod K mg base
 bs:∀ b o,base.get? b = some o -> s.heap.get? b = some o /\ H b = none
 bsz:base.objs.size <= s.heap.objs.size
 funs:s.heap.FunFrames base outer
 frf:∀ b ∈ J4 outer,H b = none
 hok:l7 P w H s.heap
 bare:AllBare s.gens
 tb:∀ b ∈ base.life.registered,H b = some .tbl
def CE (outer:List Env) (P:Program) (w:World) (H:Hp) (s:Shared) (Q:VK) (u:Value) (s':Shared):Prop :=
 ∃ v H',s'.os = s.os /\ (AllBare s'.gens /\ GX s.gens s'.gens) /\ Un (J4 outer) [] H H' s.heap s'.heap /\ l7 P w H' s'.heap /\ b7 v u /\ Q v H'
def CR (CX:HI) (outer:List Env) (P:Program) (w:World) (H:Hp) (s:Shared) (Q:VK) (E:XK) (r:Result) (s':Shared):Prop :=
 match r with
 | .ok (.ret u)=>CE outer P w H s Q u s'
 | .ok _=>False
 | .error e=>CX outer H s E e s'
structure FnOk (P:Program) (w:World) (K:PySem.W.Frag) (mg:Str -> Option Value) (base:Heap) (CX:HI) (k:Nat) (f:Addr) (fd:FuncData) (ps:List Str) (sp:Sp):Prop where
 len:∀ vs H Q E,sp vs H Q E -> vs.length = ps.length
 run:∀ (A:Around) (outer:List Env) (s:Shared) (H:Hp) (args:Args) (us:List Value) (vs:List V) (Q:VK) (E:XK),Room k A -> Env0 P w K mg base A outer s H -> BindsTo s fd args (ps.zip us) -> aU vs us -> sp vs H Q E ->
  codeAny (model P w) A (.call (.ref f) args) (CR CX outer P w H s Q E) s
theorem FnOk.imp {P:Program} {w:World} {K:PySem.W.Frag} {mg:Str -> Option Value} {base:Heap} {CX:HI} {k:Nat} {f:Addr} {fd:FuncData} {ps:List Str} {sp sp':Sp} (F:FnOk P w K mg base CX k f fd ps sp)
  (h:∀ vs H Q E,sp' vs H Q E -> sp vs H Q E):FnOk P w K mg base CX k f fd ps sp' :=
 ⟨λvs H Q E q=>F.len vs H Q E (h _ _ _ _ q),λA outer s H args us vs Q E hr he hb hv hs=>F.run A outer s H args us vs Q E hr he hb hv (h _ _ _ _ hs)⟩
section
variable {X:Cx} {pins:List (Addr × Obj)} {σ:St} {H:Hp} {s s':Shared}
theorem Inv.env0 (I:Inv X pins σ H s):Env0 X.prog X.w X.K X.mg X.base X.A X.stack s H :=
 ⟨I.ok.frames,I.ok.mod,I.bs,Nat.le_trans I.ok.bsz I.sz,I.stack,I.stkFree,I.hok,I.bare.1,I.tb⟩
theorem Inv.after {Q:VK} {u:Value} (I:Inv X pins σ H s) (h:CE X.stack X.prog X.w H s Q u s'):EP X pins σ Q u s':=by
 obtain ⟨v,H',os,bare,un,hok,r,q⟩:=h
 obtain ⟨hh,g,d,t,os'⟩:=s'
 obtain rfl:os' = s.os:=os
 exact ⟨v,H',I.call (h':=hh) (g':=g) (d':=d) (t':=t) (ch:=[]) un hok bare (λb z=>absurd z (by simp)),r,q⟩
end
def RP (sp:Sp) (dvs:List V) (E:XK) (t:TA):TE:=λσ H Q=>t σ H λvs H1=>sp (vs ++ dvs) H1 Q E
def tK (K:PySem.W.Frag) (fd:FuncData) (ps:List Str) (ds:List Value):Prop :=
 ∀ (s:Shared) (us:List Value),K.In s.heap -> (us ++ ds).length = ps.length -> BindsTo s fd ⟨us,[]⟩ (ps.zip (us ++ ds))
theorem tK.all {K:PySem.W.Frag} {fd:FuncData} {ps:List Str} (h:∀ us:List Value,us.length = ps.length -> bindArgs fd ⟨us,[]⟩ = pure (ps.zip us)):tK K fd ps []:=λs us _ hl=>by
 rw [List.append_nil] at hl ⊢
 exact .of_eq (h us hl)
def AR (CX:HI) (X:Cx) (E:XK):Prop:=∀ (pins:List (Addr × Obj)) (σ:St) (H:Hp) (s:Shared) (e:Value) (s':Shared),Inv X pins σ H s -> CX X.stack H s E e s' -> X.xe e s'
section
variable {X:Cx} {CX:HI} {k:Nat} {f C:Addr} {fd:FuncData} {ps:List Str} {sp:Sp} {dvs:List V} {ds:List Value} {E:XK} {x m:Str} {p pos apos:Pos} {e o:Expr} {es:List Expr} {ta:TE} {t:TA}
theorem VU {pins:List (Addr × Obj)} {σ:St} {H:Hp} {s:Shared} {Q:VK} {us:List Value} {vs:List V} (F:FnOk X.prog X.w X.K X.mg X.base CX k f fd ps sp) (hr:Room k X.A) (hb:tK X.K fd ps ds) (hd:aU dvs ds) (hx:AR CX X E)
  (I:Inv X pins σ H s) (r:aU vs us) (h:sp (vs ++ dvs) H Q E):wpAny (model X.prog X.w) X.A (call (.ref f) us) (EP X pins σ Q) X.xe s:=by
 have r2:aU (vs ++ dvs) (us ++ ds):=r.append hd
 have hl:(us ++ ds).length = ps.length:=by rw [<- r2.length];exact F.len _ _ _ _ h
 refine wpAny_call (codeAny_mono (F.run X.A X.stack s H ⟨us,[]⟩ (us ++ ds) (vs ++ dvs) Q E hr I.env0 (hb s us I.kIn hl) r2 h) λr s' hq=>?_)
 cases r with
 | error e=>exact hx pins σ H s e s' I hq
 | ok fl =>
  cases fl with
  | ret u=>exact I.after hq
  | next=>exact False.elim hq
  | brk=>exact False.elim hq
  | cont=>exact False.elim hq
theorem OM (F:FnOk X.prog X.w X.K X.mg X.base CX k f fd ps sp) (hr:Room k X.A) (hg:Gl X x) (hm:X.mg x = some (.ref f)) (hk:PySem.W.keepIn X.K (.ref f) = true) (hb:tK X.K fd ps ds) (hd:aU dvs ds) (hx:AR CX X E)
  (ha:PA X (e :: es) t) (hdb:(x == ("__debug__" : Str)) = false:=by decide) (he:starEach (e :: es) X.env = (false,eval e X.env) :: starEach es X.env:=by rfl) (hpl:(backTo pos (starEach es X.env)).any (·.1) = false:=by rfl) :
  PE X (.Call (.Name x p) (e :: es) [] pos) (RP sp dvs E t):=by
 intro pins s σ H Q I h
 refine wpAny_Call_Name_kw (O5 I hg hm ?_ hdb)
 refine PySem.W.callWith_K (h₀:=X.base) I.ok.mod.kin hk (c5 (ha pos pins s σ H _ I h) λus s1 ⟨vs,H1,I1,r,q⟩=>⟨I1.kIn,?_⟩) he hpl
 exact VU F hr hb hd hx I1 r q
end
structure FnScope (N P:List Str) (sc:Scope):Prop where
 kind:sc.kind = .function
 co:sc.isCoroutine = false
 gen:sc.isGenerator = false
 nd:N.Nodup
 pre:N.take P.length = P
 par:∀ x ∈ P,sc.names.lookup x = some .local \/ sc.names.lookup x = some .cell
 nofree:∀ y ∈ sc.names,y.2 ≠ .free
theorem tQ {kindOf:Str -> Option NameKind} {x:Str}:∀ {binds:List (Str × Value)} {m:Str -> Option Value},(∀ v,(x,v) ∉ binds) -> bindL kindOf binds m x = m x
 | [],_,_=>rfl
 | (n,v) :: r,m,h=>by
  unfold bindL
  rw [tQ λw hw=>h w (a0j _ hw)]
  split
  ·have:x ≠ n:=by rintro rfl;exact h v a0m
   simp [this]
  ·rfl
theorem tO {kindOf:Str -> Option NameKind} {x:Str}:∀ {binds:List (Str × Value)} {m:Str -> Option Value},(∀ v,(x,v) ∉ binds) -> bindC kindOf binds m x = m x
 | [],_,_=>rfl
 | (n,v) :: r,m,h=>by
  unfold bindC
  rw [tO λw hw=>h w (a0j _ hw)]
  split
  ·rfl
  ·have:x ≠ n:=by rintro rfl;exact h v a0m
   simp [this]
theorem tP {kindOf:Str -> Option NameKind} {x:Str} {v:Value}:∀ {P:List Str} {vs:List Value} {i:Nat} {m:Str -> Option Value},P.Nodup -> P[i]? = some x -> vs[i]? = some v -> kindOf x = some .local ->
  bindL kindOf (P.zip vs) m x = some v
 | [],_,_,_,_,h,_,_=>by simp at h
 | _ :: _,[],_,_,_,_,h,_=>by simp at h
 | p :: P,w :: vs,0,m,nd,h1,h2,hk=>by
  simp at h1 h2;subst h1;subst h2
  show bindL kindOf ((p,w) :: P.zip vs) m p = _
  unfold bindL
  rw [tQ λv hv=>(List.nodup_cons.mp nd).1 (List.of_mem_zip hv).1,if_pos hk]
  simp
 | p :: P,w :: vs,i + 1,m,nd,h1,h2,hk=>by
  show bindL kindOf ((p,w) :: P.zip vs) m x = _
  unfold bindL
  exact tP (i:=i) (List.nodup_cons.mp nd).2 (by simpa using h1) (by simpa using h2) hk
theorem tN {kindOf:Str -> Option NameKind} {x:Str} {v:Value}:∀ {P:List Str} {vs:List Value} {i:Nat} {m:Str -> Option Value},P.Nodup -> P[i]? = some x -> vs[i]? = some v -> kindOf x ≠ some .local ->
  bindC kindOf (P.zip vs) m x = some v
 | [],_,_,_,_,h,_,_=>by simp at h
 | _ :: _,[],_,_,_,_,h,_=>by simp at h
 | p :: P,w :: vs,0,m,nd,h1,h2,hk=>by
  simp at h1 h2;subst h1;subst h2
  show bindC kindOf ((p,w) :: P.zip vs) m p = _
  unfold bindC
  rw [tO λv hv=>(List.nodup_cons.mp nd).1 (List.of_mem_zip hv).1,if_neg hk]
  simp
 | p :: P,w :: vs,i + 1,m,nd,h1,h2,hk=>by
  show bindC kindOf ((p,w) :: P.zip vs) m x = _
  unfold bindC
  exact tN (i:=i) (List.nodup_cons.mp nd).2 (by simpa using h1) (by simpa using h2) hk
def start (N:List Str) (vs:List V):St:=vs.map some ++ List.replicate (N.length - vs.length) none
def cI (CX:HI) (P:Program) (w:World) (K:PySem.W.Frag) (mg:Str -> Option Value) (base:Heap) (N:List Str) (qual:Str) (scope:Scope) (f:Addr) (cd:Value) (A:Around) (outer:List Env) (s:Shared) (H:Hp) (E:XK):Cx where
 prog:=P
 w:=w
 K:=K
 mg:=mg
 base:=base
 A:=A.deeper (envOfC qual scope s.heap.objs.size f cd)
 N:=N
 s₀:=s
 H₀:=H
 env:=envOfC qual scope s.heap.objs.size f cd
 outer:=outer
 stack:=envOfC qual scope s.heap.objs.size f cd :: outer
 ex:=[]
 calm:=true
 fn:=λ_=>true
 pn:=[]
 xe:=λe s'=>wpAny (model P w) (A.deeper (envOfC qual scope s.heap.objs.size f cd)) (leaving (envOfC qual scope s.heap.objs.size f cd) e) (λ_ s''=>CX outer H s E e s'') (λe' s''=>CX outer H s E e' s'') s'
theorem xZ {sc:Scope} {n:Nat} {x:Str} (h:sc.names.lookup x = some .cell):∃ c,(cellsFrom n sc.names []).lookup x = some c:=by
 have q:=PySem.W.cellsFrom_some sc.names n [] (.inl h)
 exact Option.isSome_iff_exists.mp q
theorem FP {CX:HI} {P:Program} {w:World} {K:PySem.W.Frag} {mg:Str -> Option Value} {base:Heap} {N ps:List Str} {qual:Str} {scope:Scope} {f:Addr} {cd:Value} {A:Around} {outer:List Env} {s s1:Shared} {H:Hp} {E:XK} {us:List Value} {vs:List V}
  (S:FnScope N ps scope) (hd:A.handled = none) (e0:Env0 P w K mg base A outer s H) (hl:vs.length = ps.length) (r:aU vs us)
  (x:InCallC s s.heap.objs.size (bindL (envOfC qual scope s.heap.objs.size f cd).kindOf (ps.zip us) λ_=>none) (cellsFrom (s.heap.objs.size + 1) scope.names []) (bindC (envOfC qual scope s.heap.objs.size f cd).kindOf (ps.zip us) λ_=>none) s1) :
  Inv (cI CX P w K mg base N qual scope f cd A outer s H E) [] (start N vs) H s1:=by
 have hpl:ps.length <= N.length:=by have:=congrArg List.length S.pre;rw [List.length_take] at this;omega
 obtain ⟨h1,tk,rfl,hk⟩:=x.done
 have noA:∀ b:Addr,b ∉ (cI CX P w K mg base N qual scope f cd A outer s H E).ex:=λb z=>absurd (show b ∈ ([]:List Addr) from z) (by simp)
 refine ⟨⟨e0.mod,S.kind,rfl,rfl,Nat.le_refl _,λy z c h1 h2=>?_,λy hy=>?_,λy c _ h=>?_,λ_=>hd,Around.frames_deeper e0.frames,.inr ⟨rfl,rfl⟩,λb z=>absurd z (noA b),e0.bs,e0.bsz,λb _ _=>noA b,λb z=>absurd z (noA b),e0.funs,e0.frf,e0.tb⟩,
  rfl,⟨e0.bare,λ_ _ e=>e⟩,Un.kept hk,⟨_,x.toInCall.ns,λi y v h1 h2 h3=>?_⟩,λy c h=>⟨_,x.cell y c h⟩,e0.hok.fresh (Nat.le_refl _),λy c h=>?_,λp hp=>absurd (show p ∈ ([]:List (Addr × Obj)) from hp) (by simp),e0.hok.kept hk,?_⟩
 ·exact name_of_addr x.apart (PySem.mem_of_lookup h1) (PySem.mem_of_lookup h2)
 ·have hy:scope.names.lookup y = some .cell \/ scope.names.lookup y = some .free:=hy
  rcases hy with hy | hy
  ·exact xZ hy
  ·exact absurd rfl (S.nofree _ (PySem.mem_of_lookup hy))
 ·exact Nat.le_of_lt (x.above y c (PySem.mem_of_lookup h))
 ·have hi:i < vs.length:=by
   unfold start at h2
   by_cases hi:i < vs.length
   ·exact hi
   ·rw [List.getElem?_append_right (by simpa using hi)] at h2
    rw [List.getElem?_replicate] at h2
    split at h2 <;> cases h2
  have ha:vs[i]? = some v:=by
   unfold start at h2
   rw [List.getElem?_append_left (by simpa using hi),a0h] at h2
   cases e:vs[i]? with
   | none=>rw [e] at h2;cases h2
   | some a=>rw [e] at h2;cases h2;rfl
  obtain ⟨u,hu,rv⟩:=r.get ha
  have hp:ps[i]? = some y:=by
   rw [<- S.pre,List.getElem?_take_of_lt (by omega)];exact h1
  have ndP:ps.Nodup:=by rw [<- S.pre];exact S.nd.sublist (List.take_sublist _ _)
  refine ⟨u,rv,?_⟩
  rcases S.par y (List.mem_of_getElem? hp) with k | k
  ·exact .inl ⟨k,tP ndP hp hu k⟩
  ·obtain ⟨c,e⟩:=xZ (n:=s.heap.objs.size + 1) k
   refine .inr ⟨.inl k,c,e,?_⟩
   have q:=x.cell y c e
   rw [tN ndP hp hu (by show scope.names.lookup y ≠ _;rw [k];decide)] at q
   exact q
 ·exact e0.hok.fresh (Nat.le_of_lt (x.above y c (PySem.mem_of_lookup h)))
 ·unfold start
  show _ = N.length
  rw [List.length_append,a0c,List.length_replicate]
  omega
theorem XT {CX:HI} {P:Program} {w:World} {K:PySem.W.Frag} {mg:Str -> Option Value} {base:Heap} {k:Nat} {f:Addr} {name qual:Str} {params:Arguments} {body:List Stmt} {scope:Scope} {dV kV doc pm cdv ct oc:Value} {an od:Option Addr}
  {osl:Array (Option Value)} {N ps:List Str} {sp:Sp} (lk:K.lookup f = some ⟨oc,od,.func (PySem.W.fnOf name qual params body scope dV kV doc pm an cdv ct),osl⟩) (hcd:PySem.W.codeIn K cdv qual = true) (S:FnScope N ps scope)
  (len:∀ vs H Q E,sp vs H Q E -> vs.length = ps.length)
  (hbody:∀ (A:Around) (outer:List Env) (s:Shared) (H:Hp) (vs:List V) (Q:VK) (E:XK),Room k (A.deeper (envOfC qual scope s.heap.objs.size f cdv)) -> sp vs H Q E ->
   ∃ t,tL (cI CX P w K mg base N qual scope f cdv A outer s H E) body t /\ t { nx:=λ_ H'=>Q .non H',rt:=Q } (start N vs) H) :
  FnOk P w K mg base CX (k + 1) f (PySem.W.fnOf name qual params body scope dV kV doc pm an cdv ct) ps sp:=by
 refine ⟨len,λA outer s H args us vs Q E hr e0 hb r hsp=>?_⟩
 have hl:=len _ _ _ _ hsp
 have KX:K.In s.heap:=e0.mod.kin.keeps λb o e=>(e0.bs b o e).1
 have lim:s.heap.NoLimit:=e0.mod.nolimit.keeps λb o e=>(e0.bs b o e).1
 have hkind:∀ y ∈ ps.zip us,scope.names.lookup y.1 = some .local \/ (scope.names.lookup y.1 = some .cell /\ ((cellsFrom (s.heap.objs.size + 1) scope.names []).lookup y.1).isSome = true):=λ⟨n,v⟩ hy=>by
  rcases S.par n (List.of_mem_zip hy).1 with q | q
  ·exact .inl q
  ·exact .inr ⟨q,PySem.W.cellsFrom_some _ _ _ (.inl q)⟩
 refine codeAny_call_function hr.depth (KX _ _ lk) rfl S.co S.gen rfl (PySem.W.codeRec_of KX hcd) (hb _ _ _ _ ?_)
 refine wpAny_newFunctionEnv_cells S.kind hkind λenv he s1 x=>?_
 subst he
 refine ⟨lim.keeps x.toInCall.keep,codeAny_func ?_⟩
 obtain ⟨t,ht,hq⟩:=hbody A outer s H vs Q E (hr.deeper _) hsp
 have I:Inv (cI CX P w K mg base N qual scope f cdv A outer s H E) [] (start N vs) H s1:=FP S hr.hd e0 hl r x
 refine wpAny_mono (ht [] s1 (start N vs) H _ I hq) (λfl s' hs=>?_) λe s' hs=>hs
 have fin:∀ {σ':St} {H':Hp} {v:V} {u:Value},Inv (cI CX P w K mg base N qual scope f cdv A outer s H E) [] σ' H' s' -> b7 v u -> Q v H' -> CE outer P w H s Q u s' :=
  fun {σ' H' v u} J rv q=>⟨v,H',J.os,J.bare,J.base,J.hok,rv,q⟩
 cases fl with
 | ret u =>
  obtain ⟨v,σ',H',J,rv,q⟩:=hs
  exact fin J rv q
 | next =>
  obtain ⟨σ',H',J,q⟩:=hs
  exact fin (v:=V.non) (u:=Value.none) J rfl q
 | brk =>
  obtain ⟨_,_,_,q⟩:=hs
  exact False.elim q
 | cont =>
  obtain ⟨_,_,_,q⟩:=hs
  exact False.elim q
section
variable {X:Cx} {x:Str} {p pos:Pos} {e:Expr} {es:List Expr} {t:TA} {id T:String} {r:List V -> Hp -> VK -> Prop}
def RO (r:List V -> Hp -> VK -> Prop) (t:TA):TE:=λσ H Q=>t σ H λvs H1=>r vs H1 Q
theorem kD (hc:dD X (.builtin id) r) (hg:Gl X x) (hm:X.mg x = none) (hv:bootBuiltins x = some (.builtin id)) (ha:PA X (e :: es) t) (hn:x ≠ "__name__" := by decide) (hdb:(x == ("__debug__" : Str)) = false:=by decide)
  (he:starEach (e :: es) X.env = (false,eval e X.env) :: starEach es X.env:=by rfl) (hpl:(backTo pos (starEach es X.env)).any (·.1) = false:=by rfl):PE X (.Call (.Name x p) (e :: es) [] pos) (RO r t):=by
 intro pins s σ H Q I h
 refine wpAny_Call_Name_kw (o7 I hg hm hv ?_ hn hdb)
 exact PyProof.Rows.callWith_builtin1 (c5 (ha pos pins s σ H _ I h) λus s1 ⟨vs,H1,I1,r1,q1⟩=>hc pins s1 σ H1 vs us Q I1 r1 q1) he hpl
theorem fT (hc:dD X (.type T) r) (hg:Gl X x) (hm:X.mg x = none) (hv:bootBuiltins x = some (.type T)) (ha:PA X (e :: es) t) (hn:x ≠ "__name__" := by decide) (hdb:(x == ("__debug__" : Str)) = false:=by decide)
  (he:starEach (e :: es) X.env = (false,eval e X.env) :: starEach es X.env:=by rfl) (hpl:(backTo pos (starEach es X.env)).any (·.1) = false:=by rfl):PE X (.Call (.Name x p) (e :: es) [] pos) (RO r t):=by
 intro pins s σ H Q I h
 refine wpAny_Call_Name_kw (o7 I hg hm hv ?_ hn hdb)
 exact PyProof.Rows.callWith_type1 (c5 (ha pos pins s σ H _ I h) λus s1 ⟨vs,H1,I1,r1,q1⟩=>hc pins s1 σ H1 vs us Q I1 r1 q1) he hpl
end
end L2
namespace HT
open PySem PyProof.Rows
section
open PySem.SeqAt
open PySem.AutoSeq1 (wpAny_loadPart')
open PySem.MeetsSeq PySem.MeetsSeq2 PySem.MeetsSeq3
end
section
variable {prog:Program} {w:World} {A:Around} {E:Value -> Shared -> Prop} {s:Shared}
def sIx (n d:Nat):Option Int -> Nat
 | none=>d
 | some v=>if v < 0 then (v + (n:Int)).toNat else min v.toNat n
theorem sIx_none (n d:Nat):sIx n d none = d:=rfl
theorem sIx_nat (n d k:Nat):sIx n d (some (k:Int)) = min k n:=by
 show (if (k:Int) < 0 then ((k:Int) + (n:Int)).toNat else min (k:Int).toNat n) = min k n
 rw [if_neg (by omega),Int.toNat_natCast]
theorem sIx_le (n d:Nat) (hd:d <= n) (o:Option Int):sIx n d o <= n:=by
 cases o with
 | none=>exact hd
 | some v =>
  show (if v < 0 then (v + (n:Int)).toNat else min v.toNat n) <= n
  by_cases hv:v < 0
  ·rw [if_pos hv];omega
  ·rw [if_neg hv];exact Nat.min_le_right _ _
theorem clip_eq (v:Int) (n d:Nat):(if v < 0 then max (v + (n:Int)) 0 else min v (n:Int)) = ((sIx n d (some v):Nat):Int):=by
 show (if v < 0 then max (v + (n:Int)) 0 else min v (n:Int)) = (((if v < 0 then (v + (n:Int)).toNat else min v.toNat n):Nat):Int)
 by_cases hv:v < 0
 ·simp only [if_pos hv];omega
 ·simp only [if_neg hv];omega
theorem adjust_gen (lo hi:Option Int) (n:Nat):Builtin.Slice.sliceAdjust lo hi 1 (n:Int) = (((sIx n 0 lo:Nat):Int),((sIx n n hi:Nat):Int)):=by
 have h1:¬ ((1:Int) < 0):=by omega
 unfold Builtin.Slice.sliceAdjust
 simp only [h1,if_false]
 refine Prod.ext ?_ ?_
 ·cases lo with
  | none=>rfl
  | some v=>exact clip_eq v n 0
 ·cases hi with
  | none=>rfl
  | some v=>exact clip_eq v n n
theorem places_gen (i j:Nat):Builtin.Slice.slicePlaces (i:Int) (j:Int) 1 = j - i:=by
 unfold Builtin.Slice.slicePlaces
 have h1:(1:Int) > 0:=by omega
 simp only [h1,if_true,Int.ediv_one]
 split <;> omega
theorem slicePart_ {v:Value} {o:Option Int} {Q:Option Int -> Shared -> Prop} (p:IsPart v o) (h:Q o s):wpAny (model prog w) A (Builtin.Slice.slicePartIndex v) Q E s:=by
 cases p with
 | none=>exact slicePart_none h
 | int i t=>exact slicePart_int h
theorem sliceApplied_gen {sl:Addr} {vl vu:Value} {lo hi:Option Int} {n:Nat} {Q:Int × Int × Nat -> Shared -> Prop} (hs:s.heap.IsSliceOf sl vl vu .none) (pl:IsPart vl lo) (pu:IsPart vu hi)
  (h:Q (((sIx n 0 lo:Nat):Int),1,sIx n n hi - sIx n 0 lo) s):wpAny (model prog w) A (Builtin.Slice.sliceApplied (.ref sl) (pure (n:Int))) Q E s:=by
 obtain ⟨os,hos,hcs,hds⟩:=id hs
 unfold Builtin.Slice.sliceApplied Builtin.Slice.sliceFields
 refine a0a (a0a (wpAny_field hos hds (x:=vl) rfl (a0a (wpAny_field hos hds (x:=vu) rfl (a0a (wpAny_field hos hds (x:=.none) rfl (a0d ?_)))))))
 refine a0a (slicePart_none ?_)
 show wpAny _ _ (if ((1:Int) == 0) = true then _ else _) _ _ s
 rw [if_neg (by decide)]
 refine a0a (slicePart_ pl (a0a (slicePart_ pu (a0a (a0d ?_)))))
 show wpAny _ _ (match Builtin.Slice.sliceAdjust lo hi 1 (n:Int) with | (lo,hi)=>pure (lo,(1:Int),Builtin.Slice.slicePlaces lo hi 1)) _ _ s
 rw [adjust_gen lo hi n]
 show wpAny _ _ (pure (((sIx n 0 lo:Nat):Int),(1:Int),Builtin.Slice.slicePlaces ((sIx n 0 lo:Nat):Int) ((sIx n n hi:Nat):Int) 1)) _ _ s
 rw [places_gen]
 exact a0d h
theorem pick_gen (xs:Array Value) (i k:Nat):((List.range k).filterMap λ(m:Nat)=>xs[((i:Int) + (m:Int) * 1).toNat]?).toArray = ((xs.toList.drop i).take k).toArray:=by
 have e:(λ(m:Nat)=>xs[((i:Int) + (m:Int) * 1).toNat]?) = λm=>xs[i + m]?:=by
  funext m
  have:((i:Int) + (m:Int) * 1).toNat = i + m:=by omega
  rw [this]
 rw [e]
 have:=pick_run xs i k
 rw [List.filterMap_map] at this
 have e2:((λx=>xs[x]?) ∘ λx=>i + x) = λm=>xs[i + m]?:=rfl
 rw [e2] at this
 rw [this]
theorem getItem_tuple_cut {t sl:Addr} {items:Array Value} {vl vu:Value} {lo hi:Option Int} {Q:Value -> Shared -> Prop} (ht:IsTup s.heap t items) (hs:s.heap.IsSliceOf sl vl vu .none) (pl:IsPart vl lo) (pu:IsPart vu hi)
  (hw:¬ (sIx items.size 0 lo = 0 /\ sIx items.size items.size hi = items.size))
  (h:Q (.ref s.heap.objs.size) { s with heap:=s.heap.push { cls:=.type "tuple",data:=.seq ((items.toList.drop (sIx items.size 0 lo)).take (sIx items.size items.size hi - sIx items.size 0 lo)).toArray } })
  (hsz:items.size <= sizeLine):wpAny (model prog w) A (getItem (.ref t) (.ref sl)) Q E s:=by
 have htake:sizeOk (.seq ((items.toList.drop (sIx items.size 0 lo)).take (sIx items.size items.size hi - sIx items.size 0 lo)).toArray):=by
  show ((items.toList.drop (sIx items.size 0 lo)).take (sIx items.size items.size hi - sIx items.size 0 lo)).toArray.size <= sizeLine
  rw [List.size_toArray,List.length_take,List.length_drop,a0l]
  omega
 have hj:sIx items.size items.size hi <= items.size:=sIx_le _ _ (Nat.le_refl _) hi
 obtain ⟨os,hos,hcs,hds⟩:=id hs
 have hTs:s.TypeIs (.ref sl) "slice" := ⟨os,hos,hcs⟩
 unfold getItem
 try with_reducible refine wpAny_holding ?_
 first | refine a0a (a0d ?_) | skip
 refine a0a (wpAny_sequenceKey ht.typeIs (by decide) ?_)
 refine a0a (wpAny_callSpecial?_slot (name:=Str.ofString "__getitem__") ht.typeIs PyProof.Rows.slot_tuple_getitem
  (wpAny_call_entry PyProof.Rows.slot_tuple_getitem ht.typeIs entry_tuple_getitem ?_ (args_tuple_getitem _ _)))
 show wpAny _ _ (Builtin.Tuple.tupleItemsOf (.ref t) >>= _) _ _ s
 refine a0a (tupleItemsOf_ ht ?_)
 refine a0a (wpAny_typeOf hTs ?_)
 rw [if_pos (by decide)]
 refine a0a (sliceApplied_gen hs pl pu ?_)
 have hno:¬ ((((sIx items.size 0 lo:Nat):Int) == 0 && (1:Int) == 1 && (sIx items.size items.size hi - sIx items.size 0 lo) == items.size) = true):=by
  intro q
  rw [Bool.and_eq_true,Bool.and_eq_true] at q
  have q1:((sIx items.size 0 lo:Nat):Int) = 0:=eq_of_beq q.1.1
  have q2:sIx items.size items.size hi - sIx items.size 0 lo = items.size:=eq_of_beq q.2
  exact hw ⟨by omega,by omega⟩
 show wpAny _ _ (if (((sIx items.size 0 lo:Nat):Int) == 0 && (1:Int) == 1 && (sIx items.size items.size hi - sIx items.size 0 lo) == items.size) = true then _ else _) _ _ s
 rw [if_neg hno,pick_gen]
 first
  | exact a0a (m:=Builtin.Tuple.tupleExact _) (wpAny_newObj_type (a0d ⟨_,rfl,a0d h⟩) htake)
  | exact a0a (m:=Builtin.Tuple.tupleExact _) (wpAny_newObj_type (a0a (a0d (a0d ⟨_,rfl,a0d h⟩))) htake)
  | exact a0a (a0a (m:=Builtin.Tuple.tupleExact _) (wpAny_newObj_type (a0d (a0d ⟨_,rfl,a0d h⟩)) htake))
  | exact a0a (a0a (m:=Builtin.Tuple.tupleExact _) (wpAny_newObj_type (a0d ⟨_,rfl,a0d h⟩) htake))
end
end HT
namespace L2
open PySem PySem.Spec PyProof.Rows
abbrev TO:=St -> Hp -> (Option Int -> Hp -> Prop) -> Prop
def PO (X:Cx) (e:Option Expr) (t:TO):Prop :=
 ∀ (pins:List (Addr × Obj)) (s:Shared) (σ:St) (H:Hp) (Q:Option Int -> Hp -> Prop),Inv X pins σ H s -> t σ H Q ->
  wpAny (model X.prog X.w) X.A (evalPart e X.env) (λu s'=>∃ o H',Inv X pins σ H' s' /\ IsPart u o /\ Q o H') X.xe s
def Q3:TO:=λ_ H Q=>Q none H
def ZD (t:TE):TO:=λσ H Q=>t σ H λx H1=>∃ i,x = .int i /\ Q (some i) H1
theorem g9 {ns:List Int}:∀ {us:List Value},aU (ns.map V.int) us -> IntsAre us ns:=by
 induction ns with
 | nil=>intro us r;rw [List.map_nil] at r;cases r;exact .nil
 | cons n ns ih =>
  intro us r
  rw [a0f] at r
  cases r with
  | cons r1 r2 =>
   obtain ⟨t,e⟩:=r1
   subst e
   exact .cons n t (ih r2)
section
variable {X:Cx} {e:Expr} {te:TE} {lo hi:Option Expr} {tl th:TO} {pos p2:Pos}
theorem OP:PO X none Q3:=by
 intro pins s σ H Q I h
 rw [evalPart_none]
 exact a0d ⟨none,H,I,.none,h⟩
theorem OQ (h:PE X e te):PO X (some e) (ZD te):=by
 intro pins s σ H Q I hw
 rw [evalPart_some]
 refine c5 (h pins s σ H _ I hw) λu s1 ⟨x,H1,I1,r1,q1⟩=>?_
 obtain ⟨i,rfl,q⟩:=q1
 obtain ⟨t,rfl⟩:=r1
 exact ⟨some i,H1,I1,.int i t,q⟩
def ZQ (X:Cx) (r:V -> Option Int -> Option Int -> Hp -> VK -> Prop):Prop :=
 ∀ (pins:List (Addr × Obj)) (s:Shared) (σ:St) (H:Hp) (x:V) (v vl vu:Value) (lo hi:Option Int) (sl:Addr) (Q:VK),Inv X pins σ H s -> b7 x v -> s.heap.IsSliceOf sl vl vu .none -> IsPart vl lo -> IsPart vu hi -> r x lo hi H Q ->
  ∃ T id,typeLookup (.type T) "__getitem__" = pure (some (.builtin id)) /\ s.TypeIs v T /\ wpAny (model X.prog X.w) X.A (getItem v (.ref sl)) (EP X pins σ Q) X.xe s
def a1W (r:V -> Option Int -> Option Int -> Hp -> VK -> Prop) (te:TE) (tl th:TO):TE:=λσ H Q=>te σ H λx H1=>tl σ H1 λl H2=>th σ H2 λu H3=>r x l u H3 Q
theorem K3 {r:V -> Option Int -> Option Int -> Hp -> VK -> Prop} (hr:ZQ X r) (he:PE X e te) (hl:PO X lo tl) (hu:PO X hi th):PE X (.Subscript e (.Slice lo hi none p2) pos) (a1W r te tl th):=by
 intro pins s σ H Q I h
 refine Subscript_ (c5 (he pins s σ H _ I h) λv s1 ⟨x,H1,I1,r1,q1⟩=>?_)
 refine wpAny_Slice (c5 (hl pins s1 σ H1 _ I1 q1) λvl s2 ⟨l,H2,I2,pl,q2⟩=>c5 (hu pins s2 σ H2 _ I2 q2) λvu s3 ⟨u,H3,I3,pu,q3⟩=>?_)
 rw [evalPart_none]
 refine a0d ?_
 have I4:Inv X pins σ H3 { s3 with heap:=s3.heap.push { cls:=.type "slice",data:=.fields #[vl,vu,.none] } }:=I3.kept (t':=s3.toks) λb ob q=>a0e _ q
 obtain ⟨T,id,hT,ht,hg⟩:=hr pins { s3 with heap:=s3.heap.push { cls:=.type "slice",data:=.fields #[vl,vu,.none] } } σ H3 x v vl vu l u s3.heap.objs.size Q I4 r1 (Heap.IsSliceOf.new ..) pl pu q3
 show wpAny (model X.prog X.w) X.A (subscriptTail e (.Slice lo hi none p2) v (.ref s3.heap.objs.size)) (EP X pins σ Q) X.xe { s3 with heap:=s3.heap.push { cls:=.type "slice",data:=.fields #[vl,vu,.none] } }
 exact tail_any (ops:=[.ref s3.heap.objs.size,v]) ht hT hg (by with_unfolding_all rfl)
def y9 (xs:List V) (lo hi:Option Int):List V:=(xs.drop (HT.sIx xs.length 0 lo)).take (HT.sIx xs.length xs.length hi - HT.sIx xs.length 0 lo)
theorem oS (xs:List V) (lo hi:Option Int):(y9 xs lo hi).length <= xs.length:=by
 unfold y9
 rw [List.length_take,List.length_drop]
 omega
def Z0 (K:PySem.W.Frag):V -> Option Int -> Option Int -> Hp -> VK -> Prop:=λx lo hi H Q=>∃ a xs,x = .ref a /\ iM K H a xs /\
 ¬ (HT.sIx xs.length 0 lo = 0 /\ HT.sIx xs.length xs.length hi = xs.length) /\ ∀ p,H p = none -> Q (.ref p) (bD H p (.tup (y9 xs lo hi)))
theorem W9:ZQ X (Z0 X.K):=by
 intro pins s σ H x v vl vu lo hi sl Q I rx hs pl pu h
 obtain ⟨a,xs,rfl,hx,hw,q⟩:=h
 cases rx
 obtain ⟨its,r,ht,hz⟩:=I.tuple hx
 have hlen:its.toArray.size = xs.length:=by rw [List.size_toArray];exact r.length.symm
 refine ⟨"tuple",_,PyProof.Rows.slot_tuple_getitem.lookup,ht.typeIs,?_⟩
 refine HT.getItem_tuple_cut ht hs pl pu (by rw [hlen];exact hw) ?_ (by rw [hlen];exact hz)
 rw [hlen]
 refine ⟨.ref s.heap.objs.size,_,I.laid (t':=s.toks) (o:=.tup (y9 xs lo hi)) (λb ob q=>a0e _ q) (Nat.le_refl _) ?_,rfl,q _ (I.hok.fresh (Nat.le_refl _))⟩
 exact ⟨Nat.le_trans (oS xs lo hi) hz,_,(r.drop (HT.sIx xs.length 0 lo)).take (HT.sIx xs.length xs.length hi - HT.sIx xs.length 0 lo),IsTup.new _ _⟩
end
def sN (n:Nat) (i:Int):Option Nat:=if 0 <= i then (if i < n then some i.toNat else none) else if -(n:Int) <= i then some (i + n).toNat else none
def jF {α:Type} (xs:List α) (i:Int):Option α:=(sN xs.length i).bind λj=>xs[j]?
theorem DC {n:Nat} {i:Int} {j:Nat} (h:sN n i = some j):seqIndex? i n = some j /\ j < n /\ -(n:Int) <= i /\ i < n:=by
 unfold sN at h
 by_cases h0:0 <= i
 ·rw [if_pos h0] at h
  by_cases h1:i < n
  ·rw [if_pos h1] at h
   have e:i.toNat = j:=Option.some.inj h
   exact ⟨by rw [seqIndex_of h0 h1,e],by omega,by omega,h1⟩
  ·rw [if_neg h1] at h;cases h
 ·rw [if_neg h0] at h
  by_cases h1:-(n:Int) <= i
  ·rw [if_pos h1] at h
   have e:(i + n).toNat = j:=Option.some.inj h
   exact ⟨by rw [seqIndex_neg (by omega) h1,e],by omega,h1,by omega⟩
  ·rw [if_neg h1] at h;cases h
theorem vL {α:Type} {xs:List α} {i:Int} {v:α} (h:jF xs i = some v):∃ j,seqIndex? i xs.length = some j /\ xs[j]? = some v /\ j < xs.length /\ -(xs.length:Int) <= i /\ i < xs.length:=by
 unfold jF at h
 cases e:sN xs.length i with
 | none=>rw [e] at h;cases h
 | some j =>
  rw [e] at h
  obtain ⟨h1,h2,h3,h4⟩:=DC e
  exact ⟨j,h1,h,h2,h3,h4⟩
theorem MP {α:Type} {xs:List α} {j:Nat} {v:α} (h:xs[j]? = some v):jF xs (j:Int) = some v:=by
 have hj:j < xs.length:=(a0i.mp h).1
 have e:sN xs.length (j:Int) = some j:=by
  unfold sN
  rw [if_pos (by omega),if_pos (by omega)];simp
 unfold jF;rw [e];exact h
theorem HP {α:Type} (xs:List α) (v:α):jF (xs ++ [v]) (-1) = some v:=by
 have hl:(xs ++ [v]).length = xs.length + 1:=by simp
 have e:sN (xs ++ [v]).length (-1) = some xs.length:=by
  unfold sN
  rw [hl,if_neg (by decide),if_pos (by omega)]
  congr 1
  omega
 unfold jF
 rw [e]
 show (xs ++ [v])[xs.length]? = some v
 simp
def MJ (b:Expr):Prop:=∀ o i,subscripted b false o i = operate [o,i] (getItem o i)
def HK (X:Cx) (r:R2):Prop :=
 ∀ (value slice:Expr) (pins:List (Addr × Obj)) (s:Shared) (σ:St) (H:Hp) (x y:V) (v u:Value) (Q:VK),Inv X pins σ H s -> b7 x v -> b7 y u -> r x y H Q ->
  subscripted slice false v u = operate [v,u] (getItem v u) -> wpAny (model X.prog X.w) X.A (subscriptTail value slice v u) (EP X pins σ Q) X.xe s
def a18 (X:Cx) (id:String) (r:V -> List V -> Hp -> VK -> Prop):Prop :=
 ∀ (pins:List (Addr × Obj)) (s:Shared) (σ:St) (H:Hp) (x:V) (xs:List V) (v:Value) (us:List Value) (Q:VK),Inv X pins σ H s -> b7 x v -> aU xs us -> r x xs H Q ->
  wpAny (model X.prog X.w) X.A (call (.builtin id) (v :: us)) (EP X pins σ Q) X.xe s
section
variable {X:Cx} {a b:Expr} {ta tb:TE} {pos:Pos}
theorem HK.or {r r':R2} (h:HK X r) (h':HK X r'):HK X (λx y H Q=>r x y H Q \/ r' x y H Q):=by
 intro value slice pins s σ H x y v u Q I rx ry q hs
 rcases q with q | q
 ·exact h value slice pins s σ H x y v u Q I rx ry q hs
 ·exact h' value slice pins s σ H x y v u Q I rx ry q hs
theorem RF {r:R2} (hr:HK X r) (ha:PE X a ta) (hb:PE X b tb) (hs:MJ b):PE X (.Subscript a b pos) (LP r ta tb):=by
 intro pins s σ H Q I h
 exact Subscript_ (RW ha hb I h λv u s2 x y H2 I2 rx ry q=>hr a b pins s2 σ H2 x y v u Q I2 rx ry q (hs _ _))
def P8 (K:PySem.W.Frag):R2:=λx y H Q=>∃ p xs i v,x = .ref p /\ y = .int i /\ cT K H p xs /\ jF xs i = some v /\ Q v H
def YX (K:PySem.W.Frag):R2:=λx y H Q=>∃ p xs i v,x = .ref p /\ y = .int i /\ iM K H p xs /\ jF xs i = some v /\ Q v H
def YW:R2:=λx y H Q=>∃ z i c,x = .str z /\ y = .int i /\ z.length <= sizeLine /\ jF z.cps.toList i = some c /\ Q (.str ⟨#[c]⟩) H
theorem vZ:HK X (P8 X.K):=by
 intro value slice pins s σ H x y v u Q I rx ry h hs
 obtain ⟨p,xs,i,z,rfl,rfl,hq,he,q⟩:=h
 cases rx
 obtain ⟨t,rfl⟩:=ry
 obtain ⟨its,r,pl,hz⟩:=I.list hq
 obtain ⟨j,h1,h2,h3,h4,h5⟩:=vL he
 obtain ⟨w,ew,rw'⟩:=r.get h2
 have hl:=r.length
 have hn:=lP
 have fin:EP X pins σ Q w s:=⟨z,H,I,rw',q⟩
 by_cases h0:0 <= i
 ·have hj:i.toNat = j:=by
   rw [seqIndex_of h0 h5] at h1
   exact Option.some.inj h1
  exact item_listR pl.isList h0 (by omega) (by rw [hj];simpa using ew) fin hs
 ·have hj:(i + (its.toArray.size:Int)).toNat = j:=by
   rw [seqIndex_neg (by omega) h4] at h1
   rw [List.size_toArray,<- hl]
   exact Option.some.inj h1
  exact subscriptTail_builtinR (x:=w) pl.isList.typeIs slot_list_getitem.lookup
   (wpAny_getItem_list_neg (Q:=λr s'=>r = w /\ EP X pins σ Q r s') pl.isList (by omega) (by rw [List.size_toArray] <;> omega) (by omega) (by rw [hj];simpa using ew) ⟨rfl,fin⟩) hs
theorem TV:HK X (YX X.K):=by
 intro value slice pins s σ H x y v u Q I rx ry h hs
 obtain ⟨p,xs,i,z,rfl,rfl,hq,he,q⟩:=h
 cases rx
 obtain ⟨t,rfl⟩:=ry
 obtain ⟨its,r,pl,hz⟩:=I.tuple hq
 obtain ⟨j,h1,h2,h3,h4,h5⟩:=vL he
 obtain ⟨w,ew,rw'⟩:=r.get h2
 have hl:=r.length
 have hn:=lP
 have fin:EP X pins σ Q w s:=⟨z,H,I,rw',q⟩
 exact subscriptTail_builtinR (x:=w) pl.typeIs slot_tuple_getitem.lookup
  (getItem_tuple (j:=j) (Q:=λr s'=>r = w /\ EP X pins σ Q r s') pl (by omega) (by omega) (by rw [List.size_toArray,<- hl];exact h1) (by simpa using ew) ⟨rfl,fin⟩) hs
theorem TU:HK X YW:=by
 intro value slice pins s σ H x y v u Q I rx ry h hs
 obtain ⟨z,i,c,rfl,rfl,hz,he,q⟩:=h
 obtain ⟨t,rfl⟩:=rx
 obtain ⟨t',rfl⟩:=ry
 obtain ⟨j,h1,h2,h3,h4,h5⟩:=vL he
 have hl:z.cps.toList.length = z.length:=by simp [Str.length]
 rw [hl] at h1 h4 h5
 have hn:=lP
 exact tail_any (typeIs_str s z t) slot_str_getitem.lookup (getItem_str (c:=c) (by
  have e1:decide (i < -(2 ^ 63:Int)) = false:=decide_eq_false (by omega)
  have e2:decide (i ≥ 2 ^ 63) = false:=decide_eq_false (by omega)
  rw [e1,e2,Bool.or_false]) (by rw [h1];simpa using h2) ⟨.str ⟨#[c]⟩,H,I.tok _,⟨_,rfl⟩,q⟩) hs
def a1S (K:PySem.W.Frag):R2:=λx y H Q=>P8 K x y H Q \/ YX K x y H Q \/ YW x y H Q
theorem TR:HK X (a1S X.K):=vZ.or (TV.or TU)
theorem BI (its:List Value) (n j:Nat) (u:Value):Obj.mapSeq (·.setIfInBounds j u) { cls:=.type "list",data:=.seq its.toArray n } = { cls:=.type "list",data:=.seq (its.set j u).toArray n }:=by
 simp [Obj.mapSeq]
theorem Inv.lst {pins:List (Addr × Obj)} {σ:St} {H:Hp} {s:Shared} {p:Addr} {xs:List V} (I:Inv X pins σ H s) (h:H p = some (.lst xs)) :
  ∃ (its:List Value) (n:Nat),aU xs its /\ s.heap.get? p = some { cls:=.type "list",data:=.seq its.toArray n } /\ xs.length <= sizeLine:=by
 obtain ⟨z,its,n,r,e⟩:=I.hok p _ h
 exact ⟨its,n,r,e,z⟩
theorem Inv.lstUpd {pins:List (Addr × Obj)} {σ:St} {H:Hp} {s:Shared} {p:Addr} {xs ys:List V} {its its':List Value} {n n':Nat} {f:Obj -> Obj} (I:Inv X pins σ H s) (h:H p = some (.lst xs))
  (ho:s.heap.get? p = some { cls:=.type "list",data:=.seq its.toArray n }) (hf:f { cls:=.type "list",data:=.seq its.toArray n } = { cls:=.type "list",data:=.seq its'.toArray n' }) (r:aU ys its') (hz:ys.length <= sizeLine) (t:Nat) :
  Inv X pins σ (bD H p (.lst ys)) { s with heap:=s.heap.update p f,toks:=t }:=by
 have e:(s.heap.update p f).get? p = some { cls:=.type "list",data:=.seq its'.toArray n' }:=by
  rw [Heap.get?_update_self f ho (by rw [hf] <;> rfl),hf]
 refine I.write (x:=p) (e:=p) (by rw [h];trivial) (.inl rfl) (λb u hb q=>(Heap.get?_update_other _ _ (Ne.symm hb)).trans q) ⟨_,e⟩ ?_
 exact ⟨hz,its',n',r,e⟩
def v7:V -> V -> V -> Hp -> (Hp -> Prop) -> Prop:=λo i v H Q=>∃ p xs k j,o = .ref p /\ i = .int k /\ H p = some (.lst xs) /\ sN xs.length k = some j /\ Q (bD H p (.lst (xs.set j v)))
theorem nD:RT X v7:=by
 intro pins s σ H o i v ov iv u Q I ro ri rv h
 obtain ⟨p,xs,k,j,rfl,rfl,hp,hj,q⟩:=h
 cases ro
 obtain ⟨t,rfl⟩:=ri
 obtain ⟨its,n,r,ho,hz⟩:=I.lst hp
 obtain ⟨h1,h2,h3,h4⟩:=DC hj
 have hl:=r.length
 have hn:=lP
 have I':Inv X pins σ (bD H p (.lst (xs.set j v))) { s with heap:=s.heap.update p (Obj.mapSeq (·.setIfInBounds j u)) } :=
  I.lstUpd hp ho (BI its n j u) (r.set rv j) (by rw [List.length_set];exact hz) s.toks
 by_cases h0:0 <= k
 ·have hk:k.toNat = j:=by
   rw [seqIndex_of h0 h4] at h1
   exact Option.some.inj h1
  exact PySem.W.ki_setAt ho h0 (by omega) (by rw [List.size_toArray,<- hl];exact h4) (by rw [hk];exact ⟨_,I',q⟩)
 ·have hk:(k + (its.toArray.size:Int)).toNat = j:=by
   rw [seqIndex_neg (by omega) h3] at h1
   rw [List.size_toArray,<- hl]
   exact Option.some.inj h1
  exact PySem.W.ki_setBack ho (by omega) (by rw [List.size_toArray,<- hl];exact h3) (by omega) (by rw [hk];exact ⟨_,I',q⟩)
theorem wY (lo hi:Option Int) (n:Nat):(sliceBounds lo hi none n).1 = ((HT.sIx n 0 lo:Nat):Int) /\ (sliceBounds lo hi none n).2.1 = ((HT.sIx n n hi:Nat):Int) /\ (sliceBounds lo hi none n).2.2 = 1:=by
 refine ⟨?_,?_,rfl⟩
 ·cases lo with
  | none=>simp [sliceBounds,HT.sIx]
  | some i =>
   simp only [sliceBounds,HT.sIx,Option.getD_none,show (1:Int) > 0 by decide,if_true]
   by_cases h:i < 0
   ·simp only [h,if_true] <;> omega
   ·simp only [h,if_false] <;> omega
 ·cases hi with
  | none=>simp [sliceBounds,HT.sIx]
  | some i =>
   simp only [sliceBounds,HT.sIx,Option.getD_none,show (1:Int) > 0 by decide,if_true]
   by_cases h:i < 0
   ·simp only [h,if_true] <;> omega
   ·simp only [h,if_false] <;> omega
theorem tI (its:List Value) (lo hi:Option Int):slicePick its.toArray lo hi none = ((its.drop (HT.sIx its.length 0 lo)).take (HT.sIx its.length its.length hi - HT.sIx its.length 0 lo)).toArray:=by
 obtain ⟨h1,h2,h3⟩:=wY lo hi its.toArray.size
 unfold slicePick
 rw [h1,h2,h3]
 simp only [sliceRange_one,pick_run,List.size_toArray] <;> rfl
def YZ (K:PySem.W.Frag):V -> Option Int -> Option Int -> Hp -> VK -> Prop:=λx lo hi H Q=>∃ a xs,x = .ref a /\ cT K H a xs /\ ∀ p,H p = none -> Q (.ref p) (bD H p (.lst (y9 xs lo hi)))
theorem PM:ZQ X (YZ X.K):=by
 intro pins s σ H x v vl vu lo hi sl Q I rx hs pl pu h
 obtain ⟨a,xs,rfl,hx,q⟩:=h
 cases rx
 obtain ⟨its,r,ht,hz⟩:=I.list hx
 have hlen:=r.length
 refine ⟨"list",_,slot_list_getitem.lookup,ht.isList.typeIs,?_⟩
 refine wpAny_getItem_list_slice ht.isList hs pl pu .none (by simp) ?_ (by rw [List.size_toArray] <;> omega)
 rw [tI,<- hlen]
 refine ⟨.ref s.heap.objs.size,_,I.laid (t':=s.toks) (o:=.lst (y9 xs lo hi)) (λb ob q=>a0e _ q) (Nat.le_refl _) ?_,rfl,q _ (I.hok.fresh (Nat.le_refl _))⟩
 exact ⟨Nat.le_trans (oS xs lo hi) hz,_,0,(r.drop (HT.sIx xs.length 0 lo)).take (HT.sIx xs.length xs.length hi - HT.sIx xs.length 0 lo),Heap.get?_push_size _ rfl⟩
theorem vS:dD X (.builtin "len") (λxs H Q=>∃ p ys,xs = [.ref p] /\ (cT X.K H p ys \/ iM X.K H p ys) /\ Q (.int ys.length) H):=by
 intro pins s σ H xs us Q I r h
 obtain ⟨p,ys,rfl,hq,q⟩:=h
 obtain ⟨u,rfl,rx⟩:=gV r
 cases rx
 have hn:=lP
 rcases hq with hq | hq
 ·obtain ⟨its,r',pl,hz⟩:=I.list hq
  have hlen:=r'.length
  exact Calls.call_len_list pl.isList (by simp only [List.size_toArray] <;> omega) ⟨.int ys.length,H,I.tok _,⟨s.toks + 1,by rw [List.size_toArray,hlen]⟩,q⟩
 ·obtain ⟨its,r',pl,hz⟩:=I.tuple hq
  have hlen:=r'.length
  exact len_tuple pl (by simp only [List.size_toArray] <;> omega) ⟨.int ys.length,H,I.tok _,⟨s.toks + 1,by rw [List.size_toArray,hlen]⟩,q⟩
def ZX (K:PySem.W.Frag) (T:String) (x:V) (H:Hp):Prop:=match x with
 | .str _=>T = "str"
 | .int _=>T = "int"
 | .ref p=>(T = "list" /\ ∃ xs,cT K H p xs) \/ (T = "tuple" /\ ∃ o,K.lookup p = some o /\ o.cls = .type "tuple" /\ o.dict = none) \/
   (T = "dict" /\ ((∃ kvs,H p = some (.dK kvs)) \/ ∃ kvs,H p = some (.dT kvs))) \/ (T = "set" /\ ∃ S n,H p = some (.set S n))
 | _=>False
theorem WK {pins:List (Addr × Obj)} {σ:St} {H:Hp} {s:Shared} {T:String} {x:V} {v:Value} (I:Inv X pins σ H s) (r:b7 x v) (ty:ZX X.K T x H) :
  s.TypeIs v T /\ ∀ a,v = .ref a -> ∃ ob,s.heap.get? a = some ob /\ ob.dict = none:=by
 cases x with
 | str z =>
  obtain ⟨t,rfl⟩:=r
  cases (show T = "str" from ty)
  exact ⟨typeIs_str s z t,λ_ e=>nomatch e⟩
 | int i =>
  obtain ⟨t,rfl⟩:=r
  cases (show T = "int" from ty)
  exact ⟨typeIs_int s i t,λ_ e=>nomatch e⟩
 | ref p =>
  cases r
  rcases ty with ⟨rfl,xs,hq⟩ | ⟨rfl,o,hk,hc,hd⟩ | ⟨rfl,hk⟩ | ⟨rfl,S,n,hk⟩
  ·obtain ⟨its,_,pl,_⟩:=I.list hq
   refine ⟨pl.isList.typeIs,λa e=>?_⟩
   cases e
   obtain ⟨o,n,e,c,hd,_⟩:=pl
   exact ⟨o,e,hd⟩
  ·refine ⟨⟨o,I.kIn p o hk,hc⟩,λa e=>?_⟩
   cases e
   exact ⟨o,I.kIn _ o hk,hd⟩
  ·have z:∃ o,s.heap.get? p = some o /\ o.ExactDict:=by
    rcases hk with ⟨kvs,hk⟩ | ⟨kvs,hk⟩
    ·obtain ⟨_,_,_,_,o,_,_,e,ex,_⟩:=I.hok p _ hk
     exact ⟨o,e,ex⟩
    ·obtain ⟨_,_,_,_,o,_,_,e,ex,_⟩:=I.hok p _ hk
     exact ⟨o,e,ex⟩
   obtain ⟨o,e,ex⟩:=z
   refine ⟨⟨o,e,ex.1⟩,λa e2=>?_⟩
   cases e2
   exact ⟨o,e,ex.2.1⟩
  ·obtain ⟨o,_,_,_,e,ex,_⟩:=I.hok p _ hk
   refine ⟨⟨o,e,ex.1⟩,λa e2=>?_⟩
   cases e2
   exact ⟨o,e,ex.2.1⟩
 | _=>exact False.elim ty
def a1T (K:PySem.W.Frag) (T:String) (r:V -> List V -> Hp -> VK -> Prop) (to:TE) (t:TA):TE:=λσ H Q=>to σ H λx H1=>ZX K T x H1 /\ t σ H1 λxs H2=>r x xs H2 Q
variable {o e:Expr} {es:List Expr} {to:TE} {t:TA} {name:Str} {apos cpos:Pos} {T id:String} {r:V -> List V -> Hp -> VK -> Prop}
theorem RE (pa:PlainAttrs T) (slot:Slot T name id) (hty:typeOf (.builtin id) = pure (.type "method_descriptor")) (hm:a18 X id r) (ho:PE X o to) (ha:PA X (e :: es) t)
  (hbase:attributeBase o name X.env (eval o X.env) = eval o X.env:=by rfl)
  (hfew:((backTo cpos (starEach (e :: es) X.env)).all (λx=>!x.1) && (backToKw cpos (keywordEach [] X.env)).all (λx=>x.1.isSome)
   && decide ((e :: es).length + ([]:List Keyword).length + (if ([]:List Keyword).isEmpty then 0 else 1) < 30)) = true:=by rfl)
  (hline:(apos.endLine == cpos.line) = true:=by rfl) (hs:starEach (e :: es) X.env = (false,eval e X.env) :: starEach es X.env:=by rfl) (hplain:(backTo cpos (starEach es X.env)).any (·.1) = false:=by rfl) :
  PE X (.Call (.Attribute o name apos) (e :: es) [] cpos) (a1T X.K T r to t):=by
 intro pins s σ H Q I h
 refine wpAny_Call_method_late hbase hfew hline rfl (c5 (ho pins s σ H _ I h) λv s1 ⟨x,H1,I1,r1,ty,q1⟩=>?_)
 obtain ⟨h1,h2⟩:=WK I1 r1 ty
 refine ⟨T,id,pa,slot,hty,h1,h2,?_⟩
 have hA:=ha cpos pins s1 σ H1 _ I1 q1
 rw [hs] at hA ⊢
 refine Calls.callWith_builtin (by show (false || (backTo cpos (starEach es X.env)).any (·.1)) = false;rw [hplain] <;> rfl) (Calls.evalArgs_plain ?_)
 exact c5 hA λus s2 ⟨vs,H2,I2,r2,q2⟩=>hm pins s2 σ H2 x vs v us Q I2 r1 r2 q2
end
def a1M (X:Cx) (id:String) (r:V -> List V -> Hp -> VK -> Prop):Prop :=
 ∀ (pins:List (Addr × Obj)) (s:Shared) (σ:St) (H:Hp) (x:V) (xs:List V) (v:Value) (us:List Value) (Q:VK),Inv X pins σ H s -> b7 x v -> aU xs us -> r x xs H Q ->
  wpAny (model X.prog X.w) X.A (call (.builtin id) (v :: us)) (EP X pins σ Q) X.xe s
theorem aU.one:∀ {x:V} {us:List Value},aU [x] us -> ∃ u,us = [u] /\ b7 x u
 | _,_,.cons r .nil=>⟨_,rfl,r⟩
theorem aU.rep {xs:List V} {us:List Value} (h:aU xs us):∀ k:Nat,aU (List.replicate k xs).flatten (List.replicate k us).flatten
 | 0=>.nil
 | k + 1=>by
  rw [List.replicate_succ,List.replicate_succ,List.flatten_cons,List.flatten_cons]
  exact aU.append h (aU.rep h k)
theorem tZ (its:List Value):∀ (k:Nat) (acc:List Value),
  List.foldl (λx1 x2=>x1 ++ x2) acc.toArray (List.replicate k its.toArray) = (acc ++ (List.replicate k its).flatten).toArray
 | 0,acc=>by simp
 | k + 1,acc=>by
  have e:acc.toArray ++ its.toArray = (acc ++ its).toArray:=by simp
  have e2:(acc ++ its) ++ (List.replicate k its).flatten = acc ++ (List.replicate (k + 1) its).flatten:=by
   rw [List.replicate_succ,List.flatten_cons,List.append_assoc]
  rw [<- e2,<- tZ its k (acc ++ its),<- e,List.replicate_succ,List.foldl_cons]
section
variable {X:Cx} {pins:List (Addr × Obj)} {σ:St} {H:Hp} {s:Shared} {l b:Addr} {xs ys zs:List V}
theorem Inv.lset {its its':List Value} {n:Nat} {f:Array Value -> Array Value} {t':Nat} (I:Inv X pins σ H s) (hH:H l = some (.lst xs))
  (e:s.heap.get? l = some { cls:=.type "list",data:=.seq its.toArray n }) (hf:f its.toArray = its'.toArray) (hv:aU ys its') (hz:ys.length <= sizeLine) :
  Inv X pins σ (bD H l (.lst ys)) { s with heap:=s.heap.update l (Obj.mapSeq f),toks:=t' }:=by
 have q:=PySem.IsL.update e f
 rw [hf] at q
 refine I.write (x:=l) (e:=l) (by rw [hH];exact trivial) (.inl rfl) (λb' u hb hu=>(Heap.get?_update_other s.heap (Obj.mapSeq f) (Ne.symm hb)).trans hu) ⟨_,q⟩ ?_
 exact ⟨hz,its',_,hv,q⟩
theorem Inv.lnew {its:List Value} {t':Nat} (I:Inv X pins σ H s) (hv:aU ys its) (hz:ys.length <= sizeLine) :
  Inv X pins σ (bD H s.heap.objs.size (.lst ys)) { s with heap:=s.heap.push { cls:=.type "list",data:=.seq its.toArray },toks:=t' } :=
 I.laid (λ_ _ q=>a0e _ q) (Nat.le_refl _) ⟨hz,its,0,hv,Heap.get?_push_size _ rfl⟩
theorem Inv.fresh (I:Inv X pins σ H s):H s.heap.objs.size = none:=I.hok.fresh (Nat.le_refl _)
theorem Inv.lstM (I:Inv X pins σ H s) (hH:H l = some (.lst xs)):xs.length <= sizeLine /\ ∃ (its:List Value) (n:Nat),aU xs its /\ xs.length = its.length /\ s.heap.get? l = some { cls:=.type "list",data:=.seq its.toArray n }:=by
 obtain ⟨z,its,n,r,e⟩:=I.hok l _ hH
 exact ⟨z,its,n,r,r.length,e⟩
theorem JS {n:Nat} (h:n <= sizeLine):Builtin.List.listTooLong n = false:=by
 unfold Builtin.List.listTooLong
 exact decide_eq_false (by omega)
end
section
variable {X:Cx}
def wR:V -> List V -> Hp -> VK -> Prop:=λx vs H Q=>∃ l xs y,x = .ref l /\ vs = [y] /\ H l = some (.lst xs) /\ xs.length < sizeLine /\ Q .non (bD H l (.lst (xs ++ [y])))
theorem o8:a1M X "list.append" wR:=by
 intro pins s σ H x vs v us Q I rx rv h
 obtain ⟨l,xs,y,rfl,rfl,hH,hz,q⟩:=h
 cases rx
 obtain ⟨u,rfl,ru⟩:=rv.one
 obtain ⟨z,its,n,r,hl,e⟩:=I.lstM hH
 refine call_meets F.slot_list_append ⟨_,e,rfl⟩ F.entry_list_append (F.args_list_append_2 _ _) (PySem.list_append l its.toArray n u (by rw [List.size_toArray];omega)) ⟨e,?_⟩
 refine ⟨.non,_,I.lset (its':=its ++ [u]) hH e (by simp) (r.append (.cons ru .nil)) ?_,rfl,q⟩
 rw [List.length_append,List.length_singleton]
 omega
def a0R:R2:=λx y H Q=>∃ l b xs zs,x = .ref l /\ y = .ref b /\ H l = some (.lst xs) /\ H b = some (.lst zs) /\ xs.length + zs.length <= sizeLine /\ ∀ p,H p = none -> Q (.ref p) (bD H p (.lst (xs ++ zs)))
theorem UJ:mB X (binaryOp .Add) a0R:=by
 intro pins s σ H x y v u Q I rx ry h
 obtain ⟨l,b,xs,zs,rfl,rfl,hH,hB,hz,q⟩:=h
 cases rx
 cases ry
 obtain ⟨z,its,n,r,hl,e⟩:=I.lstM hH
 obtain ⟨z2,its2,n2,r2,hl2,e2⟩:=I.lstM hB
 refine PySem.P.add_list e e2 ?_ (by rw [List.size_toArray,List.size_toArray];omega)
 have ea:its.toArray ++ its2.toArray = (its ++ its2).toArray:=by simp
 rw [ea]
 exact ⟨.ref _,_,I.lnew (t':=s.toks) (r.append r2) (by rw [List.length_append];omega),rfl,q _ I.fresh⟩
def a0V:R2:=λx y H Q=>∃ l k xs,x = .ref l /\ y = .int k /\ H l = some (.lst xs) /\ -(2 ^ 63) <= k /\ k < 2 ^ 63 /\ xs.length * k.toNat <= sizeLine /\
 ∀ p,H p = none -> Q (.ref p) (bD H p (.lst (List.replicate k.toNat xs).flatten))
theorem O9 {α:Type} (xs:List α) (k:Nat):(List.replicate k xs).flatten.length = k * xs.length:=by
 induction k with
 | zero=>simp
 | succ k ih=>rw [List.replicate_succ,List.flatten_cons,List.length_append,ih,Nat.succ_mul,Nat.add_comm]
theorem UP:mB X (binaryOp .Mult) a0V:=by
 intro pins s σ H x y v u Q I rx ry h
 obtain ⟨l,k,xs,rfl,rfl,hH,h1,h2,hz,q⟩:=h
 cases rx
 obtain ⟨t,rfl⟩:=ry
 obtain ⟨z,its,n,r,hl,e⟩:=I.lstM hH
 have hlen:its.toArray.size * k.toNat <= sizeLine:=by rw [List.size_toArray,<- hl];exact hz
 have hcap:¬ its.toArray.size * k.toNat > (2 ^ 63 - 1) / 8:=by
  have:(sizeLine:Nat) <= (2 ^ 63 - 1) / 8:=by decide
  omega
 have hfit:¬ (!Builtin.List.listFitsIndex k) = true:=by
  rw [fitsIndex_both h1 h2]
  exact a0k
 have hlong:¬ Builtin.List.listTooLong (its.toArray.size * k.toNat) = true:=by
  rw [JS hlen]
  exact a0k
 have hnew:List.foldl (λx1 x2=>x1 ++ x2) #[] (List.replicate (if its.toArray.isEmpty = true then 0 else k.toNat) its.toArray) = (List.replicate k.toNat its).flatten.toArray:=by
  have f0:∀ m:Nat,List.foldl (λx1 x2=>x1 ++ x2) #[] (List.replicate m its.toArray) = (List.replicate m its).flatten.toArray:=λm=>by
   have:=tZ its m []
   rw [List.nil_append] at this
   exact this
  rw [f0]
  cases its with
  | nil=>simp
  | cons a r'=>rw [if_neg (by simp)]
 refine wpAny_binaryOp_repeat_ref (T := "list") (U := "int") (by decide) ⟨_,e,rfl⟩ (λs'=>typeIs_int s' k t) noFill_list_mul F.fills_int_mul F.slot_int_rmul repeat_list F.slot_int_index.lookup
  (call_meets F.slot_int_rmul (typeIs_int s k t) F.entry_int_rmul (F.args_int_rmul_2 _ _) (int___rmul___int_list k t l its.toArray n)
   ⟨e,rfl,⟨_,e,rfl⟩,call_meets F.slot_list_mul ⟨_,e,rfl⟩ F.entry_list_mul (F.args_list_mul_2 _ _) (AutoListH.list___mul___list_int_3 l its.toArray n k t hfit hcap hlong) ⟨e,?_⟩⟩)
 rw [hnew]
 exact ⟨.ref _,_,I.lnew (t':=s.toks) (r.rep k.toNat) (by rw [O9,Nat.mul_comm];exact hz),rfl,q _ I.fresh⟩
end
end L2
namespace Att
open PySem PySem.W PySem.Calls PyProof.Rows
theorem ints_of_wellAll {P:Params} {h:Heap}:∀ (ns:List Int) (vs:List Value),WellAll P h vs (ns.map WData.int) -> IntsAre vs ns:=by
 intro ns
 induction ns with
 | nil =>
  intro vs w
  rw [List.map_nil] at w
  cases w
  exact .nil
 | cons n ns ih =>
  intro vs w
  rw [a0f] at w
  cases w with
  | cons a b =>
   cases a
   exact .cons _ _ (ih _ b)
theorem script_of {l:OpenLaw} {n:Nat} (hn:l.most = some n) {P:Params} {h:Heap} {args:List WData} {vals:List Value}
  (hpre:l.row.toRowW.claim.pre args = true) (hwl:WellAll P h vals args) :
  ∃ a vs ns,vals = [Value.ref a] /\ args = [WData.list (ns.map WData.int)] /\ h.get? a = some { cls:=.type "list",data:=.seq vs.toArray } /\ IntsAre vs ns /\ ns.length <= n:=by
 have hsh:WShape.hasAll [] args [.list .int] = true:=(pre_splitW hpre).1
 have hc:l.pre.holds [] { args:=args } = true:=(pre_splitW hpre).2
 obtain ⟨d,r,rfl,h1,h2⟩:=hasAllW_cons hsh
 obtain rfl:=hasAllW_nil h2
 obtain ⟨xs,rfl,h3⟩:=hasW_list h1
 obtain ⟨ns,rfl⟩:=items_int h3
 have hlen:ns.length <= n:=by
  unfold OpenLaw.pre at hc
  have h4:(WTm.not (.lt (.lit (.int (n:Int))) (.len (.arg 0)))).holds [] { args:=[.list (ns.map .int)] } = true:=by
   have h4:=(holds_andW hc).1
   rw [hn] at h4
   exact h4
  have h5:=condW_of h4 (w_not (w_lt w_lit (w_len_list (w_arg rfl))))
  rw [a0c] at h5
  refine Nat.le_of_not_lt λq=>?_
  have q':(n:Int) < ((ns.length:Nat):Int):=by omega
  first
   | (rw [decide_eq_true q'] at h5;exact absurd h5 (by decide))
   | (simp at h5;omega)
 cases hwl with
 | cons w1 w2 =>
  cases w2
  cases w1 with
  | list ho hall=>exact ⟨_,_,ns,rfl,rfl,ho,ints_of_wellAll ns _ hall,hlen⟩
theorem post_true (l:OpenLaw) (args:List WData):l.row.toRowW.claim.post args (.bool true) args = true :=
 postW_of (r:=l.row.toRowW) (X:=(true == true))
  (show WShape.has [] (.bool true) .bool = true by first | rfl | decide | simp [WShape.has,WShape.arms,WShape.armsAll])
  (show (WTm.eq .res (.lit (.bool true))).value [] { args:=args,res:=some (.bool true),after:=args } = some (.bool (true == true)) from w_eq_bool (w_res rfl) w_lit) rfl
theorem attach_call {l:OpenLaw} {n:Nat} {q:Program} {loose:List Str} {XP:(Str -> Option Value) -> Heap -> Prop} {YP:World -> Heap -> Prop} {d:DefRec}
  (hn:l.most = some n) (hdf:d.params.defaults = [])
  (call:∀ (w:World) (s₀ s₁:Shared) (mg mb:Str -> Option Value) (fa:Addr) (o:Obj) (pm cd doc:Value) (a:Addr) (vs:List Value) (ns:List Int),
   Ground q loose [] XP w s₀ mg mb s₁.heap -> YP w s₁.heap ->
   s₁.heap.get? fa = some o -> o.data = .func (docDef d.name d.params d.body d.scope pm cd doc) -> s₁.heap.CodeRec cd d.name -> mg d.name = some (.ref fa) ->
   s₁.heap.get? a = some { cls:=.type "list",data:=.seq vs.toArray } -> IntsAre vs ns -> ns.length <= n -> s₁.gens = #[] ->
   codeAny (model l.prog w) callerA (.call (.ref fa) ⟨[.ref a],[]⟩) (λr s'=>r = .ok (.ret (.bool true)) /\ OldK s₁.heap s'.heap /\ s'.os = s₁.os /\ AllBare s'.gens) s₁) :
  WalkO q loose XP YP l.row.toRowW d [] (λf vs=>PySem.call f vs):=by
 intro w s₀ s₁ mg mb G Y fa o pm cd doc dV kV ho hd hcd hD hmg hg args vals as hpre hlay hrd hwl hlo
 obtain rfl:dV = .none:=Dflts.none hD hdf
 obtain rfl:kV = .none:=Dflts.noKw hD
 obtain ⟨a,vs,ns,rfl,rfl,hobj,hints,hlen⟩:=script_of hn hpre hwl
 refine enter_call (codeAny_mono (call w s₀ s₁ mg mb fa o pm cd doc a vs ns G Y ho (fd_plain hd) hcd hmg hobj hints hlen hg) λr s' hq=>?_)
 obtain ⟨rfl,h2,h3,h4⟩:=hq
 exact ⟨.inl ⟨.bool true,.bool true,[],rfl,λ_=>rfl,.bool true,post_true l _,λ_=>⟨List.Pairwise.nil,λ_ hm=>(nomatch hm)⟩⟩,h2,h3,h4⟩
end Att
namespace L2
open PySem PySem.Spec PyProof.Rows
theorem l4:∀ {vs:List Value} {ns:List Int},IntsAre vs ns -> aU (ns.map V.int) vs
 | _,_,.nil=>.nil
 | _,_,.cons n t h=>.cons ⟨t,rfl⟩ (l4 h)
def MI (H:Hp):Prop:=∀ b,H b = none \/ (∃ o xs,H b = some (.frz o (.lst xs))) \/ H b = some .tbl
theorem JD {P:Program} {w:World} {K:PySem.W.Frag} {mg mb:Str -> Option Value} {CX:HI} {k:Nat} {fa a:Addr} {fd:FuncData} {x:Str} {sp:Sp} {s₁:Shared} {vs:List Value} {ns:List Int}
  (KX:K.In s₁.heap) (hns:s₁.heap.Ns mainGlobals mg) (hb:s₁.heap.Ns builtinsNs mb) (hbb:∀ x:Str,x ≠ "__name__" -> mb x = bootBuiltins x) (hlim:s₁.heap.NoLimit) (hmods:∃ mm,s₁.heap.Ns sysModules mm) (hbm:∃ bm ob,BMod s₁.heap mainGlobals mg bm ob) (T:List (Addr × Addr)) (hT:PySem.W.TabsAt T s₁.heap) (hTK:PySem.W.noTabs K = true \/ T = []) (hg:s₁.gens = #[])
  (ha:s₁.heap.get? a = some { cls:=.type "list",data:=.seq vs.toArray }) (hi:IntsAre vs ns) (hl:ns.length <= sizeLine) (hr:Room k callerA)
  (F:∀ base:Heap,K.In base -> base.Ns mainGlobals mg -> (∀ q ∈ T,PySem.W.CodeHd base q.1 q.2 /\ q.2 ∈ base.life.registered) -> FnOk P w K mg base CX k fa fd [x] sp) (hbind:∀ (s:Shared) (u:Value),BindsTo s fd ⟨[u],[]⟩ [(x,u)])
  (hsp:∀ H:Hp,MI H -> cT K H a (ns.map V.int) -> sp [.ref a] H (λv _=>v = .bl true) λ_ _ _=>False)
  (hCX:∀ H e s',CX [] H s₁ (λ_ _ _=>False) e s' -> False) :
  codeAny (model P w) callerA (.call (.ref fa) ⟨[.ref a],[]⟩) (λr s'=>r = .ok (.ret (.bool true)) /\ OldK s₁.heap s'.heap /\ s'.os = s₁.os /\ AllBare s'.gens) s₁:=by
 have rv:=l4 hi
 have lenV:=hi.length
 have tabAt:∀ b ∈ T.map (·.2),s₁.heap.get? b = some (PySem.W.tabObj #[]) /\ isCodeTable s₁.heap b:=λb hb=>by
  obtain ⟨q,hq,rfl⟩:=List.mem_map.mp hb
  exact ⟨(hT q hq).2,((hT q hq).1.tab (hT q hq).2).isCodeTable⟩
 have aT:a ∉ T.map (·.2):=λhb=>by
  have:=(tabAt a hb).1
  rw [ha] at this;cases this
 have core:∀ HS:Hp,(∀ b,HS b = none \/ ∃ o xs,HS b = some (.frz o (.lst xs))) -> cT K HS a (ns.map V.int) -> l7 P w HS s₁.heap -> (∀ b,HS b ≠ none -> b = a) -> (HS a ≠ none -> K.lookup a = none) ->
   codeAny (model P w) callerA (.call (.ref fa) ⟨[.ref a],[]⟩) (λr s'=>r = .ok (.ret (.bool true)) /\ OldK s₁.heap s'.heap /\ s'.os = s₁.os /\ AllBare s'.gens) s₁:=by
  intro HS hO hS hok0 hA hK
  obtain ⟨H,hH⟩ : ∃ H:Hp,H = λb=>if b ∈ T.map (·.2) then some .tbl else HS b:=⟨_,rfl⟩
  have H1:∀ b,b ∈ T.map (·.2) -> H b = some .tbl:=λb hb=>by rw [hH];exact if_pos hb
  have H2:∀ b,b ∉ T.map (·.2) -> H b = HS b:=λb hb=>by rw [hH];exact if_neg hb
  have hS':cT K H a (ns.map V.int):=by
   unfold cT Rd at hS ⊢
   rw [H2 a aT];exact hS
  have hO':MI H:=λb=>by
   by_cases hb:b ∈ T.map (·.2)
   ·exact .inr (.inr (H1 b hb))
   ·rw [H2 b hb]
    rcases hO b with z | z
    ·exact .inl z
    ·exact .inr (.inl z)
  have hok:l7 P w H s₁.heap:=λb u e=>by
   by_cases hb:b ∈ T.map (·.2)
   ·rw [H1 b hb] at e;cases e
    exact ⟨#[],(tabAt b hb).1,trivial⟩
   ·rw [H2 b hb] at e
    refine (hok0 b u e).stay (λ_ _ _ q=>q) (λc q=>?_) λc xs q=>?_
    ·rcases hO c with z | ⟨_,_,z⟩ <;> (rw [q] at z;cases z)
    ·rcases hO c with z | ⟨_,_,z⟩ <;> (rw [q] at z;cases z)
  have hid:∀ {b:Addr} {o:Obj},s₁.heap.get? b = some o -> o.cls ≠ .none -> o.cls ≠ .type "list" -> H b = none:=fun {b o} e c1 c2=>by
   by_cases hb:b ∈ T.map (·.2)
   ·have:=(tabAt b hb).1
    rw [e] at this;cases this
    exact absurd rfl c1
   ·rw [H2 b hb]
    cases q:HS b with
    | none=>rfl
    | some u =>
     have e':b = a:=hA b (by rw [q];simp)
     subst e'
     rw [ha] at e;cases e
     exact absurd rfl c2
  have noA:∀ {b:Addr} {o:Obj} {es:Array DictEntry} {ep:Nat},s₁.heap.get? b = some o -> o.data = .dict es ep -> H b = none:=fun {b o es ep} e d=>by
   by_cases hb:b ∈ T.map (·.2)
   ·have:=(tabAt b hb).1
    rw [e] at this;cases this
    cases d
   ·rw [H2 b hb]
    cases q:HS b with
    | none=>rfl
    | some u =>
     have e':b = a:=hA b (by rw [q];simp)
     subst e'
     rw [ha] at e;cases e
     have d':Data.seq vs.toArray _ = Data.dict es ep:=d
     cases d'
  obtain ⟨base,hbs⟩ : ∃ base:Heap,base = { FM s₁.heap H with life:={ registered:=T.map (·.2) } }:=⟨_,rfl⟩
  have gets:∀ b,base.get? b = (FM s₁.heap H).get? b:=λb=>by rw [hbs];rfl
  have base_of:∀ {b:Addr} {o:Obj},s₁.heap.get? b = some o -> H b = none -> base.get? b = some o:=fun {b o} e n=>by rw [gets];exact JA e n
  have nsK:∀ {b:Addr} {m:Str -> Option Value},s₁.heap.Ns b m -> base.Ns b m:=fun {b m} ⟨o,es,ep,e,d,r⟩=>⟨o,es,ep,base_of e (noA e d),d,r⟩
  have hKb:K.In base:=λb o e=>base_of (KX b o e) (by
   by_cases hb:b ∈ T.map (·.2)
   ·rcases hTK with z | z
    ·have h2:=List.all_eq_true.mp z (b,o) (PySem.W.mem_of_lookupK e)
     have h3:=(tabAt b hb).1
     rw [KX b o e] at h3;cases h3
     exact absurd (show false = true from h2) a0k
    ·rw [z] at hb;cases hb
   ·rw [H2 b hb]
    cases q:HS b with
    | none=>rfl
    | some u =>
     have e':b = a:=hA b (by rw [q];simp)
     subst e'
     rw [hK (by rw [q];simp)] at e;cases e)
  have hBM:∃ bm ob,BMod base mainGlobals mg bm ob:=by
   obtain ⟨bm,ob,x⟩:=hbm
   exact ⟨bm,ob,nsK x.ns,x.name,x.ne,base_of x.obj (hid x.obj (by rw [x.cls];intro z;cases z) (by rw [x.cls];intro z;injection z with z;exact absurd z (by decide))),x.cls,x.dict,x.data⟩
  have hM:Mod K mg base:=⟨hKb,nsK hns,⟨mb,nsK hb,hbb⟩,let ⟨mc,h1,h2⟩:=hlim;⟨mc,nsK h1,h2⟩,let ⟨_,h1⟩:=hmods;let ⟨o,_,_,e,_⟩:=nsK h1;⟨o,e⟩,hBM⟩
  have hTB:∀ q ∈ T,PySem.W.CodeHd base q.1 q.2 /\ q.2 ∈ base.life.registered:=λq hq=>by
   refine ⟨?_,by rw [hbs];exact List.mem_map_of_mem hq⟩
   obtain ⟨o,vs',file,tf,flags,tg,inF,text,tt,e,r⟩:=(hT q hq).1
   exact ⟨o,vs',file,tf,flags,tg,inF,text,tt,base_of e (hid e (by rw [r.1];intro z;cases z) (by rw [r.1];intro z;injection z with z;exact absurd z (by decide))),r⟩
  have e0:Env0 P w K mg base callerA [] s₁ H:=⟨rfl,hM,λb o e=>OH (by rw [<- gets];exact e),by rw [hbs];exact Nat.le_of_eq (FN _ _),trivial,λb hb=>absurd (show b ∈ ([]:List Addr) from hb) (by simp),hok,.of_eq hg,λb hb=>H1 b (by rw [hbs] at hb;exact hb)⟩
  refine codeAny_mono ((F _ hKb (nsK hns) hTB).run callerA [] s₁ H ⟨[.ref a],[]⟩ [.ref a] [.ref a] _ _ hr e0 (hbind s₁ (.ref a)) (.cons rfl .nil) (hsp H hO' hS')) λr s' h=>?_
  cases r with
  | error e=>exact (hCX H e s' h).elim
  | ok fl =>
   cases fl with
   | next=>exact False.elim h
   | brk=>exact False.elim h
   | cont=>exact False.elim h
   | ret u =>
    obtain ⟨v,H',os,bare,un,hok',r',q⟩:=h
    have q':v = .bl true:=q
    subst q'
    obtain rfl:u = Value.bool true:=r'
    have key:∀ b o,s₁.heap.get? b = some o -> s'.heap.get? b = some o \/ (isCodeTable s₁.heap b /\ o = PySem.W.tabObj #[] /\ ∃ ps,s'.heap.get? b = some (PySem.W.tabObj ps)):=λb o e=>by
     by_cases hb:b ∈ T.map (·.2)
     ·obtain ⟨ps,hP,_⟩:=hok' b _ (un.tbls b (H1 b hb))
      have e2:=(tabAt b hb).1
      rw [e] at e2
      exact .inr ⟨(tabAt b hb).2,Option.some.inj e2,ps,hP⟩
     ·refine .inl ?_
      cases q:H b with
      | none=>exact un.keep b o e q (by intro z;exact absurd (show b ∈ ([]:List Addr) from z) (by simp)) (by simp)
      | some u =>
       rcases hO b with z | ⟨ob,xs,z⟩
       ·rw [H2 b hb,z] at q;cases q
       ·have z':H b = some (.frz ob (.lst xs)):=(H2 b hb).trans z
        have z2:=un.frzs b ob _ z'
        obtain ⟨e1,_⟩:=hok b _ z'
        obtain ⟨e2,_⟩:=hok' b _ z2
        rw [e] at e1;cases e1
        exact e2
    refine ⟨rfl,⟨λb o e=>?_,λb o e=>?_⟩,os,bare.1⟩
    ·rcases key b o e with z | ⟨z1,rfl,ps,z2⟩
     ·exact .inl z
     ·exact .inr (.inl ⟨z1,rfl,#[],ps,rfl,by rw [Array.empty_append];exact z2⟩)
    ·rcases key b o e with z | ⟨_,_,ps,z2⟩
     ·exact ⟨o,z⟩
     ·exact ⟨_,z2⟩
 cases hk:K.lookup a with
 | some o =>
  have e:=KX a o hk
  rw [ha] at e
  cases e
  refine core (λ_=>none) (λ_=>.inl rfl) (.inr ⟨_,vs.toArray,_,hk,rfl,rfl,rfl,by rw [List.size_toArray,lenV];exact hl,by simpa using rv⟩) (λb u z=>by have z':(none:Option HO) = some u:=z;cases z') (λb z=>absurd rfl z) λz=>absurd rfl z
 | none =>
  refine core (λb=>if b = a then some (.frz { cls:=.type "list",data:=.seq vs.toArray } (.lst (ns.map V.int))) else none) (λb=>?_) (.inl (.inr ⟨{ cls:=.type "list",data:=.seq vs.toArray },if_pos rfl⟩)) (λb u z=>?_) (λb z=>?_) λ_=>hk
  ·by_cases hb:b = a
   ·exact .inr ⟨_,_,if_pos hb⟩
   ·exact .inl (if_neg hb)
  ·by_cases hb:b = a
   ·have z':=(if_pos hb).symm.trans z
    cases z'
    subst hb
    exact ⟨ha,by rw [a0c];exact hl,vs,_,rv,ha⟩
   ·have z':=(if_neg hb).symm.trans z
    cases z'
  ·by_cases hb:b = a
   ·exact hb
   ·exact absurd (if_neg hb) z
theorem MR {q:Program} {loose:List Str} {mean:ExcName -> Option Value} {mg mb:Str -> Option Value} {h:Heap} (T:Top q loose mean mg mb h):∃ bm ob,BMod h mainGlobals mg bm ob :=
 let ⟨bm,ob,a1,a2,a3,a4,a5,a6⟩:=T.bmain;⟨bm,ob,T.g,a1,a2,a3,a4,a5,a6⟩
theorem QN {l:PySem.W.OpenLaw} {n k:Nat} {q:Program} {loose:List Str} {XP:(Str -> Option Value) -> Heap -> Prop} {YP:World -> Heap -> Prop} {d:DefRec} {K:Params -> PySem.W.Frag} {CX:World -> HI} {sp:World -> Sp} {x:Str}
  (hn:l.most = some n) (hn2:n <= sizeLine) (hdf:d.params.defaults = []) (himp:importsNone q = true) (hr:Room k callerA)
  (hY:∀ (w:World) (h:Heap),YP w h -> (K w.params).In h)
  (F:∀ (w:World) (mg:Str -> Option Value) (fa:Addr) (h:Heap),(K w.params).In h -> h.Ns mainGlobals mg -> mg d.name = some (.ref fa) ->
   ∃ fd:FuncData,(∀ (s:Shared) (u:Value),BindsTo s fd ⟨[u],[]⟩ [(x,u)]) /\
    ∀ base:Heap,(K w.params).In base -> base.Ns mainGlobals mg -> FnOk l.prog w (K w.params) mg base (CX w) k fa fd [x] (sp w))
  (hsp:∀ (w:World) (H:Hp) (a:Addr) (ns:List Int),ns.length <= n -> MI H -> cT (K w.params) H a (ns.map V.int) -> sp w [.ref a] H (λv _=>v = .bl true) λ_ _ _=>False)
  (hCX:∀ (w:World) (H:Hp) (s:Shared) (e:Value) (s':Shared),CX w [] H s (λ_ _ _=>False) e s' -> False) :
  PySem.W.WalkO q loose XP YP l.row.toRowW d [] (λf vs=>PySem.call f vs):=by
 refine Att.attach_call hn hdf λw s₀ s₁ mg mb fa o pm cd doc a vs ns G Y ho hd hcd hmg hobj hints hlen hg=>?_
 have KX:=hY w _ Y
 obtain ⟨fd,hb,hF⟩:=F w mg fa _ KX G.T.g hmg
 exact JD KX G.T.g G.T.b G.T.builtins G.T.nolimit (let ⟨mm,h1,_⟩:=(G.T.seer himp).mods;⟨mm,h1⟩) (MR G.T) [] (λ_ z=>nomatch z) (.inr rfl) hg hobj hints (Nat.le_trans hlen hn2) hr (λbase kb nb _=>hF base kb nb) hb (λH hO hS=>hsp w H a ns hlen hO hS) λH e s'=>hCX w H s₁ e s'
def cK (s:Stmt):Arguments:=match s with
 | .FunctionDef _ a _ _ _ _ _ _ _ _=>a
 | _=>{ posonlyargs:=[],args:=[],vararg:=none,kwonlyargs:=[],kw_defaults:=[],kwarg:=none,defaults:=[] }
def bI (s:Stmt):List Stmt:=match s with
 | .FunctionDef _ _ b _ _ _ _ _ _ _=>b
 | _=>[]
def aA (s:Stmt):Scope:=match s with
 | .FunctionDef _ _ _ _ _ _ sc _ _ _=>sc
 | _=>{ kind:=.function,names:=[],isGenerator:=false,isCoroutine:=false }
abbrev iU:HI:=λ_ _ _ _ _ _=>False
abbrev E0:XK:=λ_ _ _=>False
theorem YF {X:Cx}:AR iU X E0:=λ_ _ _ _ _ _ _ h=>h.elim
structure Fun (K:PySem.W.Frag) (x qual:Str) (st:Stmt) (f:Addr) (fd:FuncData):Prop where
 ex:∃ (oc:Value) (od:Option Addr) (kV doc pm:Value) (an:Option Addr) (cdv ct:Value) (osl:Array (Option Value)),
  fd = PySem.W.fnOf x qual (cK st) (bI st) (aA st) .none kV doc pm an cdv ct /\ K.lookup f = some ⟨oc,od,.func fd,osl⟩ /\ PySem.W.codeIn K cdv qual = true
 kp:PySem.W.keepIn K (.ref f) = true
section
variable {P:Program} {w:World} {K:PySem.W.Frag} {mg:Str -> Option Value} {base:Heap}
theorem Fun.ok {x qual:Str} {st:Stmt} {f:Addr} {fd:FuncData} {N ps:List Str} {k:Nat} {sp:Sp} (F:Fun K x qual st f fd) (S:FnScope N ps (aA st)) (len:∀ vs H Q E,sp vs H Q E -> vs.length = ps.length)
  (hbody:∀ (cdv:Value) (A:Around) (outer:List Env) (s:Shared) (H:Hp) (vs:List V) (Q:VK) (E:XK),Room k (A.deeper (envOfC qual (aA st) s.heap.objs.size f cdv)) -> sp vs H Q E ->
   ∃ t,tL (cI iU P w K mg base N qual (aA st) f cdv A outer s H E).nox (bI st) t /\ t { nx:=λ_ H'=>Q .non H',rt:=Q } (start N vs) H):FnOk P w K mg base iU (k + 1) f fd ps sp:=by
 obtain ⟨oc,od,kV,doc,pm,an,cdv,ct,osl,rfl,lk,hcd⟩:=F.ex
 refine XT lk hcd S len λA outer s H vs Q E hr hsp=>?_
 obtain ⟨t,h,q⟩:=hbody cdv A outer s H vs Q E hr hsp
 exact ⟨t,h.nox,q⟩
theorem Fun.binds {x qual:Str} {st:Stmt} {f:Addr} {fd:FuncData} {ps:List Str} (F:Fun K x qual st f fd)
  (h:∀ (kV doc pm:Value) (an:Option Addr) (cdv ct:Value) (us:List Value),us.length = ps.length -> bindArgs (PySem.W.fnOf x qual (cK st) (bI st) (aA st) .none kV doc pm an cdv ct) ⟨us,[]⟩ = pure (ps.zip us)):tK K fd ps []:=by
 obtain ⟨oc,od,kV,doc,pm,an,cdv,ct,osl,rfl,lk,hcd⟩:=F.ex
 exact .all (h kV doc pm an cdv ct)
theorem TJ {x qual:Str} {st:Stmt} {f:Addr} {oc:Value} {od an:Option Addr} {osl:Array (Option Value)} {kV doc pm cdv ct:Value} (l:K.lookup f = some ⟨oc,od,.func (PySem.W.fnOf x qual (cK st) (bI st) (aA st) .none kV doc pm an cdv ct),osl⟩)
  (c:PySem.W.codeIn K cdv qual = true) (k:PySem.W.keepIn K (.ref f) = true):Fun K x qual st f (PySem.W.fnOf x qual (cK st) (bI st) (aA st) .none kV doc pm an cdv ct):=⟨⟨oc,od,kV,doc,pm,an,cdv,ct,osl,rfl,l,c⟩,k⟩
end
theorem NW {c A B:Prop} [Decidable c] (h1:c -> A) (h2:¬ c -> B):if c then A else B:=by
 by_cases h:c
 ·rw [if_pos h]
  exact h1 h
 ·rw [if_neg h]
  exact h2 h
section
variable {X:Cx}
def HG (i j:Int):Prop:=0 < j /\ j < 2 ^ 256
theorem JU:mB X (binaryOp .FloorDiv) (rI HG λi j=>.int (i / j)):=ZU λi j _ _ _ _ _ hc q=>by
 have h1:(0:Int) < j:=hc.1
 have h2:j < 2 ^ 256:=hc.2
 have h3:j.natAbs.log2 < 9000:=by
  have h4:j.natAbs ≠ 0:=by omega
  have h5:j.natAbs < 2 ^ 256:=by omega
  exact Nat.lt_trans ((Nat.log2_lt h4).mpr h5) (by decide)
 exact floordiv_int (by omega) (by rw [Int.fdiv_eq_ediv_of_nonneg i (by omega)];exact q) (.inl (PyProof.noPylong_of_log2 h3))
end
structure Df (K:PySem.W.Frag) (mg:Str -> Option Value) (x:Str) (st:Stmt):Prop where
 ex:∃ f fd,Fun K x x st f fd /\ mg x = some (.ref f)
theorem XD {K:PySem.W.Frag} {h:Heap} {mg:Str -> Option Value} {x:Str} {st:Stmt} {f:Addr} {oc:Value} {od an:Option Addr} {osl:Array (Option Value)} {kV doc pm cdv ct:Value} (X:K.In h) (G:h.Ns mainGlobals mg)
  (a:PySem.W.nsIn K mainGlobals x = some (some (.ref f)))
  (l:K.lookup f = some ⟨oc,od,.func (PySem.W.fnOf x x (cK st) (bI st) (aA st) .none kV doc pm an cdv ct),osl⟩)
  (c:PySem.W.codeIn K cdv x = true) (k:PySem.W.keepIn K (.ref f) = true):Df K mg x st:=⟨⟨f,_,TJ l c k,PySem.W.mg_of X G a⟩⟩
structure Cal (P:Program) (w:World) (K:PySem.W.Frag) (mg:Str -> Option Value) (base:Heap) (k:Nat) (x:Str) (ps:List Str) (sp:Sp):Prop where
 ex:∃ f fd,mg x = some (.ref f) /\ PySem.W.keepIn K (.ref f) = true /\ tK K fd ps [] /\ (∃ oc od sl,K.lookup f = some ⟨oc,od,.func fd,sl⟩) /\ FnOk P w K mg base iU k f fd ps sp
theorem Df.ok {P:Program} {w:World} {K:PySem.W.Frag} {mg:Str -> Option Value} {base:Heap} {x:Str} {st:Stmt} {N ps:List Str} {k:Nat} {sp:Sp} (D:Df K mg x st) (S:FnScope N ps (aA st))
  (hb:∀ (kV doc pm:Value) (an:Option Addr) (cdv ct:Value) (us:List Value),us.length = ps.length -> bindArgs (PySem.W.fnOf x x (cK st) (bI st) (aA st) .none kV doc pm an cdv ct) ⟨us,[]⟩ = pure (ps.zip us))
  (len:∀ vs H Q E,sp vs H Q E -> vs.length = ps.length)
  (hbody:∀ (f:Addr) (cdv:Value) (A:Around) (outer:List Env) (s:Shared) (H:Hp) (vs:List V) (Q:VK) (E:XK),Room k (A.deeper (envOfC x (aA st) s.heap.objs.size f cdv)) -> sp vs H Q E ->
   ∃ t,tL (cI iU P w K mg base N x (aA st) f cdv A outer s H E).nox (bI st) t /\ t { nx:=λ_ H'=>Q .non H',rt:=Q } (start N vs) H):Cal P w K mg base (k + 1) x ps sp:=by
 obtain ⟨f,fd,F,m⟩:=D.ex
 exact ⟨f,fd,m,F.kp,F.binds hb,(by obtain ⟨oc,od,kV,doc,pm,an,cdv,ct,osl,rfl,lk,hcd⟩:=F.ex;exact ⟨oc,od,osl,lk⟩),F.ok S len λcdv A outer s H vs Q E hr h=>hbody f cdv A outer s H vs Q E hr h⟩
section
variable {X:Cx} {k:Nat} {ps:List Str} {sp:Sp} {x:Str} {p pos:Pos} {e:Expr} {es:List Expr} {t:TA}
theorem UT (C:Cal X.prog X.w X.K X.mg X.base k x ps sp) (hr:Room k X.A) (ha:PA X (e :: es) t) (hg:Gl X x:=by rfl)
  (hdb:(x == ("__debug__" : Str)) = false:=by decide) (he:starEach (e :: es) X.env = (false,eval e X.env) :: starEach es X.env:=by rfl) (hpl:(backTo pos (starEach es X.env)).any (·.1) = false:=by rfl) :
  PE X (.Call (.Name x p) (e :: es) [] pos) (RP sp [] E0 t):=by
 obtain ⟨f,fd,a,b,c,l,d⟩:=C.ex
 exact OM d hr hg a b c .nil YF ha hdb he hpl
end
theorem fY:bootBuiltins "len" = some (.builtin "len"):=by decide +kernel
theorem nZ:bootBuiltins "max" = some (.builtin "max"):=by decide +kernel
theorem AW:bootBuiltins "min" = some (.builtin "min"):=by decide +kernel
theorem vO:bootBuiltins "sum" = some (.builtin "sum"):=by decide +kernel
theorem HZ:bootBuiltins "int" = some (.type "int"):=by decide +kernel
theorem MU:bootBuiltins "list" = some (.type "list"):=by decide +kernel
theorem I0:bootBuiltins "range" = some (.type "range"):=by decide +kernel
theorem MT:bootBuiltins "dict" = some (.type "dict"):=by decide +kernel
theorem i9:bootBuiltins "sorted" = some (.builtin "sorted"):=by decide +kernel
structure StOk (a b c:Int):Prop where
 a0:0 <= a
 b0:0 <= b
 b1:b < 2147483647
abbrev ME (a b c:Int):HO:=.lst [.int a,.int b,.int c]
def a03 (H:Hp) (p:Addr):Prop:=∃ a b c,H p = some (ME a b c) /\ StOk a b c
def LG:Sp:=λvs H Q _=>∃ (p:Addr) (m a b c:Int),vs = [.ref p,.int m] /\ H p = some (ME a b c) /\ StOk a b c /\ 0 < m /\ m < 2 ^ 250 /\
 ∀ r a' b' c':Int,0 <= r -> r < m -> StOk a' b' c' -> Q (.int r) (bD H p (ME a' b' c'))
theorem c6 {α:Type} {xs:List α} {i:Int} {v:α} (h0:0 <= i) (h:xs[i.toNat]? = some v):jF xs i = some v:=by
 have e:i = (i.toNat:Int):=by omega
 rw [e];exact MP h
def mD (J:It) (g:TG) (tb:TS):TS:=λD σ H=>∃ W:Nat -> Nat -> St -> Hp -> Prop,(∃ m,W 0 m σ H) /\ ∀ i m σ H,W i m σ H ->
 (J.stop i H /\ D.nx σ H) \/ (J.go i H /\ ∃ N:St -> Hp -> Prop,(∀ σ' H',N σ' H' -> ∃ m',m' < m /\ W (i + 1) m' σ' H') /\ ∀ x H',J.yld i H x H' -> g x σ H' λσ2 H2=>tb { D with nx:=N,ct:=N,bk:=D.nx } σ2 H2)
section
variable {X:Cx}
def KW:R2:=λx y H Q=>∃ p xs i v,x = .ref p /\ y = .int i /\ H p = some (.lst xs) /\ jF xs i = some v /\ Q v H
theorem TQ:HK X KW:=by
 intro value slice pins s σ H x y v u Q I rx ry h hs
 obtain ⟨p,xs,i,w,e1,e2,e3,e4,q⟩:=h
 exact vZ value slice pins s σ H x y v u Q I rx ry ⟨p,xs,i,w,e1,e2,cT.of e3,e4,q⟩ hs
end
theorem nT {α:Type} {a:α} {l:List α}:jF (a :: l) 0 = some a:=c6 (by decide) rfl
theorem nU {α:Type} {a b:α} {l:List α}:jF (a :: b :: l) 1 = some b:=c6 (by decide) rfl
theorem qD {α:Type} {a b c:α} {l:List α}:jF (a :: b :: c :: l) 2 = some c:=c6 (by decide) rfl
theorem vK {α:Type} {a b c d:α} {l:List α}:jF (a :: b :: c :: d :: l) 3 = some d:=c6 (by decide) rfl
theorem XC {i j:Int} (h0:0 <= j) (h1:j <= 1000000) (h2:i.natAbs < 2 ^ 64):sP i j:=⟨h0,h1,h2⟩
theorem LS {H:Hp} {p:Addr} {o:HO} (h:H p = some o):bD H p o = H:=by
 funext b;unfold bD;split
 ·rename_i e;rw [e,h]
 ·rfl
def E4 (K:PySem.W.Frag):Sp:=λvs H Q _=>∃ (p:Addr) (k:Int) (ns:List Int),vs = [.ref p,.int k] /\ cT K H p (ns.map V.int) /\ 0 <= k /\ k < 1000000 /\
 ∀ (q:Addr) (a b c:Int),H q = none -> StOk a b c -> Q (.ref q) (bD H q (ME a b c))
structure NmOk (nm:Str) (k:Nat):Prop where
 ex:∃ pre:List Nat,nm.cps.toList = pre ++ [97 + k] /\ pre.length <= 7 /\ ∀ c ∈ pre,97 <= c /\ c <= 122
def ZS:Str:=Str.ofString "abcdefghijklmnopqrstuvwxyz"
theorem MM:ZS.cps.toList = (List.range 26).map (97 + ·):=by decide +kernel
theorem CV:ZS.length = 26:=by decide +kernel
theorem CW {r:Int} (h0:0 <= r) (h1:r < 26):jF ZS.cps.toList r = some (97 + r.toNat):=by
 refine c6 h0 ?_
 have h:r.toNat < 26:=by omega
 rw [MM,a0h,List.getElem?_range h];rfl
structure Sr where
 nm:Str
 b:Int
 e:Int
 w:Int
structure SrOk (s:Sr) (k:Nat):Prop where
 nm:NmOk s.nm k
 lt:s.b < s.e
 b0:-1000000000000 <= s.b
 e1:s.e <= 1000000000000
 w0:0 <= s.w
 w1:s.w <= 1000000000000
theorem S3 {P:Program} {w:World} {K:PySem.W.Frag} {mg:Str -> Option Value} {base:Heap} {k:Nat} {x:Str} {ps:List Str} {sp:Sp} (C:Cal P w K mg base k x ps sp) {f:Addr} (hf:mg x = some (.ref f))
  {oc:Value} {od:Option Addr} {fd:FuncData} {sl:Array (Option Value)} (l:K.lookup f = some ⟨oc,od,.func fd,sl⟩):FnOk P w K mg base iU k f fd ps sp:=by
 obtain ⟨g,fd',a,_,_,⟨oc',od',sl',l'⟩,d⟩:=C.ex
 rw [hf] at a;cases a
 rw [l] at l';cases l'
 exact d
def zO:List V -> Hp -> VK -> Prop:=λxs H Q=>∃ i j,xs = [.int i,.int j] /\ Q (.int (if j > i then j else i)) H
def L0:List V -> Hp -> VK -> Prop:=λxs H Q=>∃ i j,xs = [.int i,.int j] /\ Q (.int (if j < i then j else i)) H
def zN:List V -> Hp -> VK -> Prop:=λxs H Q=>(∃ i,xs = [.int i] /\ Q (.int i) H) \/ ∃ k,xs = [.bl k] /\ Q (.int (if k then 1 else 0)) H
def KY (K:PySem.W.Frag):List V -> Hp -> VK -> Prop:=λxs H Q=>∃ p ys,xs = [.ref p] /\ (cT K H p ys \/ iM K H p ys) /\ Q (.int ys.length) H
def VN:R2:=λx y H Q=>y = .non /\ Q (.bl (decide (x = .non))) H
def L3:R2:=λx y H Q=>y = .non /\ Q (.bl (!decide (x = .non))) H
def KQ:R2:=λx y H Q=>∃ i j,x = .str i /\ y = .str j /\ i.length + j.length <= sizeLine /\ Q (.str (i ++ j)) H
section
variable {X:Cx}
theorem X8 (hc:X.calm = true):dD X (.builtin "max") zO:=F4 hc
theorem X9 (hc:X.calm = true):dD X (.builtin "min") L0:=F5 hc
theorem X7:dD X (.type "int") zN:=F3
theorem RY:dD X (.builtin "len") (KY X.K):=vS
theorem Y7:mB X (compareOp .Is) VN:=UL
theorem UF:mB X (compareOp .IsNot) L3:=OI
theorem UE:mB X (binaryOp .Add) KQ:=BZ
end
section
variable {σ:St} {H:Hp} {Q:VK} {D:Ends} {K:PySem.W.Frag}
theorem WG {t u:TS} (h:t { D with nx:=u D } σ H):Q5 t u D σ H:=h
theorem Q2 (h:D.nx σ H):EA D σ H:=h
theorem WD {c:TT} {t u:TS} (h:c σ H λb H1=>if b = true then t D σ H1 else u D σ H1):PZ c t u D σ H:=h
theorem WF {te:TE} (h:te σ H D.rt):Q4 te D σ H:=h
theorem WB {te:TE} {g:TG} (h:te σ H λx H1=>g x σ H1 D.nx):A3 te g D σ H:=h
theorem TK {to ti:TE} {t:AS} {v:V} {R:St -> Hp -> Prop} (h:to σ H λo H1=>ti σ H1 λi H2=>t o i v H2 λH3=>R σ H3):J6 to ti t v σ H R:=h
theorem a0Z {v:V} (h:Q v H):tC v σ H Q:=h
theorem ZC {r:R2} {ta tb:TE} (h:ta σ H λx H1=>tb σ H1 λy H2=>r x y H2 Q):LP r ta tb σ H Q:=h
theorem ZF {r:V -> Hp -> VK -> Prop} {ta:TE} (h:ta σ H λx H1=>r x H1 Q):ZV r ta σ H Q:=h
theorem YV {g:Int -> Int -> V} {i j:Int} (h:Q (g i j) H):tF g (.int i) (.int j) H Q:=⟨i,j,rfl,rfl,h⟩
theorem a0T {C:Int -> Int -> Prop} {g:Int -> Int -> V} {i j:Int} (hc:C i j) (h:Q (g i j) H):rI C g (.int i) (.int j) H Q:=⟨i,j,rfl,rfl,hc,h⟩
theorem a0X {g:Int -> V} {i:Int} (h:Q (g i) H):rU g (.int i) H Q:=⟨i,rfl,h⟩
theorem Q6 {t:TE} {R:Bool -> Hp -> Prop} (h:t σ H λx H'=>∃ k,x = .bl k /\ R k H'):EB t σ H R:=h
theorem T7 {b:Bool} {R:Bool -> Prop} (h:R b):∃ k,V.bl b = .bl k /\ R k:=⟨b,rfl,h⟩
theorem PY {ta:TE} {tr:TA} {R:List V -> Hp -> Prop} (h:ta σ H λx H1=>tr σ H1 λxs H2=>R (x :: xs) H2):A4 ta tr σ H R:=h
theorem WE {R:List V -> Hp -> Prop} (h:R [] H):LO σ H R:=h
theorem Q1 {t:TA} (h:t σ H λxs H1=>xs.length <= sizeLine /\ ∀ p,H1 p = none -> Q (.ref p) (bD H1 p (.lst xs))):Q0 t σ H Q:=h
theorem Z8 {r:List V -> Hp -> VK -> Prop} {t:TA} (h:t σ H λvs H1=>r vs H1 Q):RO r t σ H Q:=h
theorem P9 {p:Addr} {xs:List V} {i:Int} {v:V} (e:H p = some (.lst xs)) (a:jF xs i = some v) (h:Q v H):KW (.ref p) (.int i) H Q:=⟨p,xs,i,v,rfl,rfl,e,a,h⟩
theorem VP {p:Addr} {xs:List V} {i:Int} {v:V} (e:cT K H p xs) (a:jF xs i = some v) (h:Q v H):P8 K (.ref p) (.int i) H Q:=⟨p,xs,i,v,rfl,rfl,e,a,h⟩
theorem VY {p:Addr} {a b c:V} {v:V} {R:Hp -> Prop} (e:H p = some (.lst [a,b,c])) (h:R (bD H p (.lst [v,b,c]))):v7 (.ref p) (.int 0) v H R:=⟨p,_,0,0,rfl,rfl,e,rfl,h⟩
theorem VZ {p:Addr} {a b c:V} {v:V} {R:Hp -> Prop} (e:H p = some (.lst [a,b,c])) (h:R (bD H p (.lst [a,v,c]))):v7 (.ref p) (.int 1) v H R:=⟨p,_,1,1,rfl,rfl,e,rfl,h⟩
theorem W7 {p:Addr} {a b c:V} {v:V} {R:Hp -> Prop} (e:H p = some (.lst [a,b,c])) (h:R (bD H p (.lst [a,b,v]))):v7 (.ref p) (.int 2) v H R:=⟨p,_,2,2,rfl,rfl,e,rfl,h⟩
theorem PD {i j:Int} (h:Q (.int (if j > i then j else i)) H):zO [.int i,.int j] H Q:=⟨i,j,rfl,h⟩
theorem KU {k:Bool} (h:Q (.int (if k then 1 else 0)) H):zN [.bl k] H Q:=.inr ⟨k,rfl,h⟩
theorem E2 {p:Addr} {ys:List V} (e:cT K H p ys) (h:Q (.int ys.length) H):KY K [.ref p] H Q:=⟨p,ys,rfl,.inl e,h⟩
theorem a0Q {ta:TA} {g:TG} {tb:TS} (h:ta σ H λvs H1=>∃ j:Int,vs = [.int j] /\ -(2 ^ 62) <= j /\ j < 2 ^ 62 /\ mD (MG 0 j.toNat) g tb D σ H1):LN (DA ta) g tb D σ H:=h
theorem T8 {n:Int} {R:Int -> Prop} (h:-(2 ^ 62) <= n /\ n < 2 ^ 62 /\ R n):∃ j:Int,[V.int n] = [.int j] /\ -(2 ^ 62) <= j /\ j < 2 ^ 62 /\ R j:=⟨n,rfl,h⟩
theorem v0 {v:V} {r:St} (h:Q v H):dU 0 (some v :: r) H Q:=⟨v,rfl,h⟩
theorem v1 {x0:Option V} {v:V} {r:St} (h:Q v H):dU 1 (x0 :: some v :: r) H Q:=⟨v,rfl,h⟩
theorem v2 {x0 x1:Option V} {v:V} {r:St} (h:Q v H):dU 2 (x0 :: x1 :: some v :: r) H Q:=⟨v,rfl,h⟩
theorem v3 {x0 x1 x2:Option V} {v:V} {r:St} (h:Q v H):dU 3 (x0 :: x1 :: x2 :: some v :: r) H Q:=⟨v,rfl,h⟩
theorem v4 {x0 x1 x2 x3:Option V} {v:V} {r:St} (h:Q v H):dU 4 (x0 :: x1 :: x2 :: x3 :: some v :: r) H Q:=⟨v,rfl,h⟩
theorem g2 {v:V} {x0 x1 x2:Option V} {r:St} {R:St -> Hp -> Prop} (h:R (x0 :: x1 :: some v :: r) H):jI 2 v (x0 :: x1 :: x2 :: r) H R:=h
theorem g3 {v:V} {x0 x1 x2 x3:Option V} {r:St} {R:St -> Hp -> Prop} (h:R (x0 :: x1 :: x2 :: some v :: r) H):jI 3 v (x0 :: x1 :: x2 :: x3 :: r) H R:=h
theorem g4 {v:V} {x0 x1 x2 x3 x4:Option V} {r:St} {R:St -> Hp -> Prop} (h:R (x0 :: x1 :: x2 :: x3 :: some v :: r) H):jI 4 v (x0 :: x1 :: x2 :: x3 :: x4 :: r) H R:=h
end
theorem S4 {i j:Int} (h0:-(2 ^ 64) < i) (h1:i < 2 ^ 64):sO i j:=.inl ⟨h0,h1⟩
theorem S5 {i j:Int} (h0:-(2 ^ 64) < j) (h1:j < 2 ^ 64):sO i j:=.inr ⟨h0,h1⟩
theorem E5 {N:List Str} {vs:List V} {t:TS} {D:Ends} {H:Hp} {σ:St} (e:start N vs = σ) (h:t D σ H):t D (start N vs) H:=e ▸ h
theorem Y1 {xs:List V} {R:Prop} (h0:xs.length <= 1000) (h:R):xs.length <= sizeLine /\ R:=⟨Nat.le_trans h0 (by decide),h⟩
section
variable {H:Hp} {Q:VK}
theorem a0P (h:Q (.int 1000000) H):rI sP (λi j=>V.int (i ^ j.toNat)) (.int 10) (.int 6) H Q:=⟨10,6,rfl,rfl,XC (by decide) (by decide) (by decide),h⟩
theorem YM (h:Q (.int 1000000000000000000) H):rI sP (λi j=>V.int (i ^ j.toNat)) (.int 10) (.int 18) H Q:=⟨10,18,rfl,rfl,XC (by decide) (by decide) (by decide),h⟩
end
theorem MZ {i j:Int} (h0:0 < j) (h1:j < 2 ^ 250):HG i j:=⟨h0,Int.lt_trans h1 (by decide)⟩
theorem Y5 {j:Int} (h:j <= 1000000000000000000000000000000000000000000000000000000000000):j < 2 ^ 250:=Int.lt_of_le_of_lt h (by decide)
theorem hZ:("len" : Str) ≠ "__name__" := by decide +kernel
theorem hW:(("len" : Str) == ("__debug__" : Str)) = false:=by decide +kernel
theorem nX:("max" : Str) ≠ "__name__" := by decide +kernel
theorem nV:(("max" : Str) == ("__debug__" : Str)) = false:=by decide +kernel
theorem AV:("min" : Str) ≠ "__name__" := by decide +kernel
theorem AU:(("min" : Str) == ("__debug__" : Str)) = false:=by decide +kernel
theorem vN:("sum" : Str) ≠ "__name__" := by decide +kernel
theorem vM:(("sum" : Str) == ("__debug__" : Str)) = false:=by decide +kernel
theorem HW:("int" : Str) ≠ "__name__" := by decide +kernel
theorem HR:(("int" : Str) == ("__debug__" : Str)) = false:=by decide +kernel
theorem MS:("dict" : Str) ≠ "__name__" := by decide +kernel
theorem MQ:(("dict" : Str) == ("__debug__" : Str)) = false:=by decide +kernel
theorem nY:("sorted" : Str) ≠ "__name__" := by decide +kernel
theorem nW:(("sorted" : Str) == ("__debug__" : Str)) = false:=by decide +kernel
class Step (P:Prop) (P':outParam Prop):Prop where
 go:P' -> P
theorem step {P P':Prop} [s:Step P P'] (h:P'):P:=s.go h
section
variable {σ:St} {H:Hp} {Q:VK} {D:Ends} {K:PySem.W.Frag}
instance i_tSeq_s {t u:TS}:Step (Q5 t u D σ H) (t { D with nx:=u D } σ H):=⟨λh=>WG h⟩
instance i_tNext_s  : Step (EA D σ H) (D.nx σ H):=⟨λh=>Q2 h⟩
instance i_tIfS_s {c:TT} {t u:TS}:Step (PZ c t u D σ H) (c σ H λb H1=>if b = true then t D σ H1 else u D σ H1):=⟨λh=>WD h⟩
instance i_tRet_s {te:TE}:Step (Q4 te D σ H) (te σ H D.rt):=⟨λh=>WF h⟩
instance i_tAsg_s {te:TE} {g:TG}:Step (A3 te g D σ H) (te σ H λx H1=>g x σ H1 D.nx):=⟨λh=>WB h⟩
instance i_gSub_s {to ti:TE} {t:AS} {v:V} {R:St -> Hp -> Prop}:Step (J6 to ti t v σ H R) (to σ H λo H1=>ti σ H1 λi H2=>t o i v H2 λH3=>R σ H3):=⟨λh=>TK h⟩
instance i_tC_s {v:V}:Step (tC v σ H Q) (Q v H):=⟨λh=>a0Z h⟩
instance i_tOp_s {r:R2} {ta tb:TE}:Step (LP r ta tb σ H Q) (ta σ H λx H1=>tb σ H1 λy H2=>r x y H2 Q):=⟨λh=>ZC h⟩
instance i_tUn_s {r:V -> Hp -> VK -> Prop} {ta:TE}:Step (ZV r ta σ H Q) (ta σ H λx H1=>r x H1 Q):=⟨λh=>ZF h⟩
instance i_rI0_s {g:Int -> Int -> V} {i j:Int}:Step (tF g (.int i) (.int j) H Q) (Q (g i j) H):=⟨λh=>YV h⟩
instance i_rU_s {g:Int -> V} {i:Int}:Step (rU g (.int i) H Q) (Q (g i) H):=⟨λh=>a0X h⟩
instance i_tTest_s {t:TE} {R:Bool -> Hp -> Prop}:Step (EB t σ H R) (t σ H λx H'=>∃ k,x = .bl k /\ R k H'):=⟨λh=>Q6 h⟩
instance i_exbl_s {b:Bool} {R:Bool -> Prop}:Step (∃ k,V.bl b = .bl k /\ R k) (R b):=⟨λh=>T7 h⟩
instance i_tCons_s {ta:TE} {tr:TA} {R:List V -> Hp -> Prop}:Step (A4 ta tr σ H R) (ta σ H λx H1=>tr σ H1 λxs H2=>R (x :: xs) H2):=⟨λh=>PY h⟩
instance i_tNil_s {R:List V -> Hp -> Prop}:Step (LO σ H R) (R [] H):=⟨λh=>WE h⟩
instance i_tLstR_s {t:TA}:Step (Q0 t σ H Q) (t σ H λxs H1=>xs.length <= sizeLine /\ ∀ p,H1 p = none -> Q (.ref p) (bD H1 p (.lst xs))):=⟨λh=>Q1 h⟩
instance i_tCB_s {r:List V -> Hp -> VK -> Prop} {t:TA}:Step (RO r t σ H Q) (t σ H λvs H1=>r vs H1 Q):=⟨λh=>Z8 h⟩
instance i_rMax2_s {i j:Int}:Step (zO [.int i,.int j] H Q) (Q (.int (if j > i then j else i)) H):=⟨λh=>PD h⟩
instance i_rInt1B_s {k:Bool}:Step (zN [.bl k] H Q) (Q (.int (if k then 1 else 0)) H):=⟨λh=>KU h⟩
instance i_r1_s {ta:TA} {g:TG} {tb:TS}:Step (LN (DA ta) g tb D σ H) (ta σ H λvs H1=>∃ j:Int,vs = [.int j] /\ -(2 ^ 62) <= j /\ j < 2 ^ 62 /\ mD (MG 0 j.toNat) g tb D σ H1):=⟨λh=>a0Q h⟩
instance i_exr1_s {n:Int} {R:Int -> Prop}:Step (∃ j:Int,[V.int n] = [.int j] /\ -(2 ^ 62) <= j /\ j < 2 ^ 62 /\ R j) (-(2 ^ 62) <= n /\ n < 2 ^ 62 /\ R n):=⟨λh=>T8 h⟩
instance i_v0 {v:V} {r:St}:Step (dU 0 (some v :: r) H Q) (Q v H):=⟨λh=>v0 h⟩
instance i_v1 {x0:Option V} {v:V} {r:St}:Step (dU 1 (x0 :: some v :: r) H Q) (Q v H):=⟨λh=>v1 h⟩
instance i_v2 {x0 x1:Option V} {v:V} {r:St}:Step (dU 2 (x0 :: x1 :: some v :: r) H Q) (Q v H):=⟨λh=>v2 h⟩
instance i_v3 {x0 x1 x2:Option V} {v:V} {r:St}:Step (dU 3 (x0 :: x1 :: x2 :: some v :: r) H Q) (Q v H):=⟨λh=>v3 h⟩
instance i_v4 {x0 x1 x2 x3:Option V} {v:V} {r:St}:Step (dU 4 (x0 :: x1 :: x2 :: x3 :: some v :: r) H Q) (Q v H):=⟨λh=>v4 h⟩
instance i_g2 {v:V} {x0 x1 x2:Option V} {r:St} {R:St -> Hp -> Prop}:Step (jI 2 v (x0 :: x1 :: x2 :: r) H R) (R (x0 :: x1 :: some v :: r) H):=⟨λh=>g2 h⟩
instance i_g3 {v:V} {x0 x1 x2 x3:Option V} {r:St} {R:St -> Hp -> Prop}:Step (jI 3 v (x0 :: x1 :: x2 :: x3 :: r) H R) (R (x0 :: x1 :: x2 :: some v :: r) H):=⟨λh=>g3 h⟩
instance i_g4 {v:V} {x0 x1 x2 x3 x4:Option V} {r:St} {R:St -> Hp -> Prop}:Step (jI 4 v (x0 :: x1 :: x2 :: x3 :: x4 :: r) H R) (R (x0 :: x1 :: x2 :: x3 :: some v :: r) H):=⟨λh=>g4 h⟩
instance i_pow6  : Step (rI sP (λi j=>V.int (i ^ j.toNat)) (.int 10) (.int 6) H Q) (Q (.int 1000000) H):=⟨λh=>a0P h⟩
instance i_pow18  : Step (rI sP (λi j=>V.int (i ^ j.toNat)) (.int 10) (.int 18) H Q) (Q (.int 1000000000000000000) H):=⟨λh=>YM h⟩
end
structure QE (X:Cx) (e:Expr) (t:TE):Prop where
 h:PE X e t
structure QT (X:Cx) (e:Expr) (t:TT):Prop where
 h:PT X e t
structure QA (X:Cx) (es:List Expr) (t:TA):Prop where
 h:PA X es t
structure QS (X:Cx) (st:Stmt) (t:TS):Prop where
 h:PS X st t
structure QSs (X:Cx) (st:List Stmt) (t:TS):Prop where
 h:tL X st t
structure QG (X:Cx) (e:Expr) (t:TG):Prop where
 h:PG X e t
structure QI (X:Cx) (tg iter:Expr) (wi:TI):Prop where
 h:PI X tg iter wi
structure QOp (X:Cx) (f:Value -> Value -> Sem Value) (r:R2):Prop where
 h:mB X f r
structure QUn (X:Cx) (f:Value -> Sem Value) (r:V -> Hp -> VK -> Prop):Prop where
 h:ZR X f r
structure QC (X:Cx) (f:Value) (r:List V -> Hp -> VK -> Prop):Prop where
 h:dD X f r
structure QX (X:Cx) (r:R2):Prop where
 h:HK X r
structure QM (X:Cx) (id:String) (r:V -> List V -> Hp -> VK -> Prop):Prop where
 h:a18 X id r
structure QL (X:Cx) (r:V -> Option Int -> Option Int -> Hp -> VK -> Prop):Prop where
 h:ZQ X r
structure QSet (X:Cx) (t:AS):Prop where
 h:RT X t
section
variable {X:Cx} {a b c e:Expr} {es:List Expr} {ta tb tc te:TE} {t:TA} {pos p:Pos} {tA tB':TT}
theorem aN:QOp X (binaryOp .Add) (tF λi j=>.int (i + j)):=⟨UI⟩
theorem cM:QOp X (binaryOp .Sub) (tF λi j=>.int (i - j)):=⟨UQ⟩
theorem eY:QOp X (binaryOp .Mult) (rI sO λi j=>.int (i * j)):=⟨UN⟩
theorem n4:QOp X (binaryOp .Mod) (rI (λ_ j=>0 < j) λi j=>.int (i % j)):=⟨UM⟩
theorem v6:QOp X (binaryOp .FloorDiv) (rI HG λi j=>.int (i / j)):=⟨JU⟩
theorem cX:QOp X (binaryOp .Pow) (rI sP λi j=>.int (i ^ j.toNat)):=⟨UO⟩
theorem zM:QOp X (binaryOp .Add) KQ:=⟨UE⟩
theorem C5:QOp X (compareOp .Eq) a0S:=⟨YA⟩
theorem rY:QOp X (compareOp .NotEq) a0U:=⟨YE⟩
theorem wN:QOp X (compareOp .Lt) (tF λi j=>.bl (decide (i < j))):=⟨YD⟩
theorem KO:QOp X (compareOp .LtE) (tF λi j=>.bl (decide (i <= j))):=⟨YC⟩
theorem eR:QOp X (compareOp .Gt) (tF λi j=>.bl (decide (j < i))):=⟨YB⟩
theorem P5:QOp X (compareOp .Is) VN:=⟨Y7⟩
theorem rZ:QOp X (compareOp .IsNot) L3:=⟨UF⟩
theorem E1:QUn X (unaryOp .USub) (rU λi=>.int (-i)):=⟨WL⟩
theorem C3 (hc:X.calm = true):QC X (.builtin "max") zO:=⟨X8 hc⟩
theorem KL (hc:X.calm = true):QC X (.builtin "min") L0:=⟨X9 hc⟩
theorem KJ:QC X (.type "int") zN:=⟨X7⟩
theorem OY:QC X (.builtin "len") (KY X.K):=⟨RY⟩
theorem P7:QX X (P8 X.K):=⟨vZ⟩
theorem kG:QX X KW:=⟨TQ⟩
theorem VJ:QL X (Z0 X.K):=⟨W9⟩
theorem P3:QL X (YZ X.K):=⟨PM⟩
theorem fU:QM X "list.append" wR:=⟨o8⟩
theorem oD:QSet X v7:=⟨nD⟩
theorem aY {i j pos}:QE X (.Constant (.int i) j pos) (tC (.int i)):=⟨UU⟩
theorem YT {b j pos}:QE X (.Constant (.bool b) j pos) (tC (.bl b)):=⟨YH⟩
theorem VF {j pos}:QE X (.Constant .none j pos) (tC .non):=⟨UV⟩
theorem VH {x j pos}:QE X (.Constant (.str x) j pos) (tC (.str x)):=⟨UZ⟩
theorem cZ {op:Operator} {r:R2} (ho:QOp X (binaryOp op) r) (ha:QE X a ta) (hb:QE X b tb):QE X (.BinOp a op b pos) (LP r ta tb):=⟨zG ho.h ha.h hb.h⟩
theorem YU {op:UnaryOp} {r:V -> Hp -> VK -> Prop} (ho:QUn X (unaryOp op) r) (ha:QE X a ta):QE X (.UnaryOp op a pos) (ZV r ta):=⟨RG ho.h ha.h⟩
theorem P1 {op:CmpOp} {r:R2} (ho:QOp X (compareOp op) r) (ha:QE X a ta) (hb:QE X b tb) (hm:behindInMarks op b = false):QE X (.Compare a [op] [b] pos) (LP r ta tb):=⟨DQ ho.h ha.h hb.h hm⟩
theorem wQ {op:CmpOp} {r:R2} (ho:QOp X (compareOp op) r) (ha:QE X a ta) (hb:QE X b tb) (hm:behindInMarks op b = false):QT X (.Compare a [op] [b] pos) (EB (LP r ta tb)):=⟨DW ho.h ha.h hb.h hm⟩
theorem VD (h:QA X es t):QE X (.List es pos) (Q0 t):=⟨K2 h.h⟩
theorem n0 {r:R2} (hr:QX X r) (ha:QE X a ta) (hb:QE X b tb) (hs:∀ o i,subscripted b false o i = operate [o,i] (getItem o i)):QE X (.Subscript a b pos) (LP r ta tb):=⟨RF hr.h ha.h hb.h hs⟩
theorem rX:QA X [] LO:=⟨j8⟩
theorem gT (ha:QE X e te) (hr:QA X es t) (hs:starEach (e :: es) X.env = (false,eval e X.env) :: starEach es X.env:=by rfl):QA X (e :: es) (A4 te t):=⟨eW ha.h hr.h hs⟩
theorem zK {id:String} {x:Str} {r:List V -> Hp -> VK -> Prop} (hc:QC X (.builtin id) r) (hg:X.env.scope.names.lookup x = some .globalImplicit) (hm:X.mg x = none) (hv:bootBuiltins x = some (.builtin id)) (ha:QA X (e :: es) t) (hn:x ≠ "__name__") (hdb:(x == ("__debug__" : Str)) = false)
  (he:starEach (e :: es) X.env = (false,eval e X.env) :: starEach es X.env:=by rfl) (hpl:(backTo pos (starEach es X.env)).any (·.1) = false:=by rfl):QE X (.Call (.Name x p) (e :: es) [] pos) (RO r t):=⟨kD hc.h hg hm hv ha.h hn hdb he hpl⟩
theorem G7 {T:String} {x:Str} {r:List V -> Hp -> VK -> Prop} (hc:QC X (.type T) r) (hg:X.env.scope.names.lookup x = some .globalImplicit) (hm:X.mg x = none) (hv:bootBuiltins x = some (.type T)) (ha:QA X (e :: es) t) (hn:x ≠ "__name__") (hdb:(x == ("__debug__" : Str)) = false)
  (he:starEach (e :: es) X.env = (false,eval e X.env) :: starEach es X.env:=by rfl) (hpl:(backTo pos (starEach es X.env)).any (·.1) = false:=by rfl):QE X (.Call (.Name x p) (e :: es) [] pos) (RO r t):=⟨fT hc.h hg hm hv ha.h hn hdb he hpl⟩
theorem DZ {i:Nat} {x:Str} (hN:X.N.Nodup) (hi:X.N[i]? = some x) (hx:EJ X.env.scope x) (hf:X.fn x = true \/ X.env.scope.names.lookup x = some .local):QG X (.Name x pos) (jI i):=⟨pW hN hi hx hf⟩
theorem C4 {o i:Expr} {to ti:TE} {ts:AS} (ho:QE X o to) (hi:QE X i ti) (hs:QSet X ts)
  (ha:∀ v,assign (.Subscript o i pos) X.env v = (do
   let ov <- holding [v] (eval o X.env)
   let iv <- holding [v,ov] (eval i X.env)
   standAt pos
   holding [v,ov,iv] (setItem ov iv v)
   release [v,ov,iv] []):=by intro _;rfl):QG X (.Subscript o i pos) (J6 to ti ts):=⟨wI ho.h hi.h hs.h ha⟩
theorem G8 {tg:Expr} (hg:X.env.scope.names.lookup (Str.ofString "range") = some NameKind.globalImplicit) (hm:X.mg "range" = none) (ha:QA X [a] t) (hs:starEach [a] X.env = [(false,eval a X.env)]:=by rfl):QI X tg (.Call (.Name "range" p) [a] [] pos) (DA t):=⟨uO hg hm ha.h hs⟩
theorem wO:QSs X [] EA:=⟨DU⟩
theorem cG {st:Stmt} {rest:List Stmt} {ts u:TS} (h1:QS X st ts) (h2:QSs X rest u):QSs X (st :: rest) (Q5 ts u):=⟨zH h1.h h2.h⟩
theorem kY {st:Stmt} {ts:TS} (h1:QS X st ts):QSs X [st] ts:=⟨DV h1.h⟩
theorem kF {i:Nat} {x:Str} {pos':Pos} (hN:X.N.Nodup) (hi:X.N[i]? = some x) (hx:EJ X.env.scope x) (he:QE X e te) (hs:swapsWith e (some (.Name x pos')) pos.line X.env = pure false) (hf:X.fn x = true \/ X.env.scope.names.lookup x = some .local) :
  QS X (.Assign [.Name x pos'] e pos) (A3 te (jI i)):=⟨K9 hN hi hx he.h hs hf⟩
theorem C6 {tg:Expr} {g:TG} (he:QE X e te) (hg:QG X tg g) (hs:swapsWithSole [tg] e pos.line X.env = pure false:=by rfl) (hw:swappedStores [tg] e X.env = pure none:=by rfl)
  (h1:(assignEach [tg] X.env).map (·.2) = [assign tg X.env]:=by rfl):QS X (.Assign [tg] e pos) (A3 te g):=⟨wK he.h hg.h hs hw h1⟩
theorem KP {th el:List Stmt} {ts u:TS} (hc:QT X c tA) (ha:QSs X th ts) (hb:QSs X el u):QS X (.If c th el pos) (PZ tA ts u):=⟨RH hc.h ha.h hb.h⟩
theorem C7 (he:QE X e te):QS X (.Return (some e) pos) (Q4 te):=⟨C2 he.h⟩
theorem VL {tg iter:Expr} {body:List Stmt} {wi:TI} {g:TG} {ts:TS} (hp:PassesOwn (model X.prog X.w) X.A X.env X.xe) (hc:X.calm = true) (hi:QI X tg iter wi) (hg:QG X tg g) (hb:QSs X body ts)
  (hs:∀ x,foldedSetIterable iter X.env x = pure x:=by intro _;rfl):QS X (.For tg iter body [] pos) (LN wi g ts):=⟨K8 hp hc hi.h hg.h hb.h hs⟩
theorem KG {i:Nat} {x:Str} (hN:X.N[i]? = some x) (hv:a05 X.env.scope x) (hd:(x == ("__debug__" : Str)) = false) (hcd:(x == ("__classdict__" : Str)) = false):QE X (.Name x pos) (dU i):=⟨V1 hN hv hd hcd⟩
end
theorem KF {X:Cx} {b:List Stmt} {t:TS} {D:Ends} {σ:St} {H:Hp} (h:QSs X b t) (q:t D σ H):∃ t,tL X b t /\ t D σ H:=⟨t,h.h,q⟩
structure LcOk (N:List Str) (osc scope:Scope) (N':List Str) (n:Nat) (cap:List Nat):Prop where
 kind:scope.kind = .function
 nocell:∀ y ∈ scope.names,y.2 ≠ .cell
 names:∀ y ∈ scope.names,y.2 = .local -> scope.names.lookup y.1 = some .local
 frees:∀ y ∈ scope.names,y.2 = .free -> osc.names.lookup y.1 = some .cell
 caps:N'.drop n = cap.map λi=>N.getD i Str.empty
 capl:∀ i ∈ cap,i < N.length
 capf:∀ x ∈ N'.drop n,scope.names.lookup x = some NameKind.free
 len:N'.length = n + cap.length
def F6 (scope:Scope) (env:Env):List (Str × Addr):=(scope.names.filter λy=>y.2 == .free).reverse.map λy=>(y.1,(env.cells.lookup y.1).getD 0)
theorem mG {env:Env}:∀ (ys:List (Str × NameKind)) (acc:List (Str × Addr)),(∀ y ∈ ys,y.2 = .free -> ∃ c,env.cells.lookup y.1 = some c) ->
  (forIn ys acc λ(y:Str × NameKind) (r:List (Str × Addr))=>(if (y.2 == NameKind.free) = true then do let a <- cellOf env y.1;pure (ForInStep.yield ((y.1,a) :: r)) else pure (ForInStep.yield r):Sem (ForInStep (List (Str × Addr))))) =
   (pure ((ys.filter λy=>y.2 == .free).reverse.map (λy=>(y.1,(env.cells.lookup y.1).getD 0)) ++ acc):Sem (List (Str × Addr)))
 | [],acc,_=>by simp
 | y :: r,acc,h=>by
  have ih:=λa=>mG r a λz hz=>h z (a0j _ hz)
  rw [List.forIn_cons]
  by_cases e:y.2 = .free
  ·obtain ⟨c,hc⟩:=h y a0m e
   have e':(y.2 == NameKind.free) = true:=by simpa using e
   rw [if_pos e']
   have h1:cellOf env y.1 = (pure c:Sem Addr):=by unfold cellOf;rw [hc]
   rw [h1]
   simp only [pure_bind]
   rw [ih,List.filter_cons,if_pos e']
   simp [hc]
  ·have e':¬ (y.2 == NameKind.free) = true:=by simpa using e
   rw [if_neg e']
   simp only [pure_bind]
   rw [ih,List.filter_cons,if_neg e']
theorem iW {scope:Scope} {env:Env} (h:∀ y ∈ scope.names,y.2 = .free -> ∃ c,env.cells.lookup y.1 = some c):closureFor scope env = pure (F6 scope env):=by
 have e:=mG (env:=env) scope.names [] h
 rw [List.append_nil] at e
 unfold closureFor
 refine Eq.trans (congrArg (λm=>m >>= λr=>(pure r:Sem (List (Str × Addr)))) ?_) (pure_bind (F6 scope env) _)
 exact e
theorem gE {α:Type}:∀ {l:List (Str × α)} {x:Str} {c:α},l.lookup x = some c -> (x,c) ∈ l
 | (a,b) :: r,x,c,h=>by
  rw [List.lookup_cons] at h
  by_cases e:x = a
  ·subst e
   simp at h
   subst h
   exact a0m
  ·have e':(x == a) = false:=by simpa using e
   rw [e'] at h
   exact a0j _ (gE h)
theorem lE {α:Type}:∀ {l:List (Str × α)} {x:Str} {c:α},(x,c) ∈ l -> ∃ d,l.lookup x = some d
 | (a,b) :: r,x,c,h=>by
  rw [List.lookup_cons]
  by_cases e:x = a
  ·exact ⟨b,by simp [e]⟩
  ·have e':(x == a) = false:=by simpa using e
   rw [e']
   rcases List.mem_cons.mp h with z | z
   ·cases z;exact absurd rfl e
   ·exact lE z
theorem k6 {scope:Scope} {env:Env} (h:∀ y ∈ scope.names,y.2 = .free -> ∃ c,env.cells.lookup y.1 = some c) {x:Str} {c:Addr} (e:(F6 scope env).lookup x = some c):env.cells.lookup x = some c:=by
 obtain ⟨y,hy,hz⟩:=List.mem_map.mp (gE e)
 have hy':=List.mem_filter.mp (List.mem_reverse.mp hy)
 obtain ⟨d,hd⟩:=h y hy'.1 (by simpa using hy'.2)
 rw [hd] at hz
 cases hz
 exact hd
theorem y0 {scope:Scope} {env:Env} {x:Str} (h:(x,NameKind.free) ∈ scope.names):∃ c,(F6 scope env).lookup x = some c :=
 lE (List.mem_map.mpr ⟨(x,.free),List.mem_reverse.mpr (List.mem_filter.mpr ⟨h,by rfl⟩),rfl⟩)
def aM (X:Cx) (N':List Str) (scope:Scope) (C:Addr) (s:Shared) (H:Hp) (fp:List Addr):Cx where
 prog:=X.prog
 w:=X.w
 K:=X.K
 mg:=X.mg
 base:=X.base
 A:=X.A
 N:=N'
 s₀:=s
 H₀:=H
 env:=compEnvC scope (F6 scope X.env) C X.env
 outer:=X.stack
 stack:=X.stack
 ex:=fp
 fn:=λ_=>false
 calm:=X.calm
 pn:=[]
 xe:=λ_ _=>False
def BG (n:Nat) (cap:List Nat) (σ:St):St:=List.replicate n none ++ cap.map λi=>σ.getD i none
def a11 (tt:TT) (te:TE) (acc:Addr):TS:=λD σ H=>tt σ H λb H1=>if b = true then te σ H1 λv H2=>∃ ys,H2 acc = some (.lst ys) /\ ys.length < sizeLine /\ D.nx σ (bD H2 acc (.lst (ys ++ [v]))) else D.nx σ H1
def a10 (wi:TI) (g:TG) (tt:TT) (te:TE) (n:Nat) (cap:List Nat):TE:=λσ H Q=>wi σ H λJ H1=>∀ acc,H1 acc = none ->
 mD J g (a11 tt te acc) { nx:=λ_ H'=>Q (.ref acc) H',rt:=λ_ _=>False } (BG n cap σ) (bD H1 acc (.lst []))
def HA (X:Cx) (ifs:List Expr) (t:TT):Prop :=
 ∀ (pins:List (Addr × Obj)) (s:Shared) (σ:St) (H:Hp) (Q:Bool -> Hp -> Prop),Inv X pins σ H s -> t σ H Q ->
  wpAny (model X.prog X.w) X.A (forIn ifs true λc r=>if r = true then do let ok <- isTrue c X.env (eval c X.env);pure (ForInStep.yield ok) else pure (ForInStep.yield r)) (TP X pins σ Q) X.xe s
def ZE:TT:=λ_ H Q=>Q true H
theorem OV {X:Cx}:HA X [] ZE:=λ_ _ _ H _ I h=>wpAny_tests_nil ⟨H,I,h⟩
theorem OW {X:Cx} {c:Expr} {t:TT} (h:PT X c t):HA X [c] t:=λpins s σ H Q I q=>wpAny_tests_one (h pins s σ H Q I q)
theorem pS {P:Program} {w:World} {H:Hp} {h h':Heap} {C:Addr} (ok:l7 P w H h) (hC:H C = none) (hs:Heap.SameBut C h h'):l7 P w H h':=λb ob e=>by
 refine (ok b ob e).stay (λc u hc q=>(hs.2 c ?_).trans q) (λ_ q=>q) λ_ _ q=>q
 rintro rfl
 rcases hc with rfl | hc
 ·rw [hC] at e;cases e
 ·rw [hC] at hc;cases hc
section
variable {X:Cx} {elt target iter:Expr} {ifs:List Expr} {scope:Scope} {pos:Pos} {N':List Str} {n:Nat} {cap:List Nat} {wi:TI} {g:TG} {tt:TT} {te:TE}
theorem mN {pins:List (Addr × Obj)} {σ:St} {H:Hp} {s:Shared} {h1:Heap} {m0:Str -> Option Value} {fp:List Addr} {tk:Nat} (S:LcOk X.N X.env.scope scope N' n cap) (I:Inv X pins σ H s) (hf:∀ b ∈ fp,hV X pins H b) (hfs:∀ b ∈ fp,b < s.heap.objs.size)
  (ns:h1.Ns s.heap.objs.size m0) (k:∀ b o,s.heap.get? b = some o -> h1.get? b = some o) :
  Inv (aM X N' scope s.heap.objs.size s H fp) [] (BG n cap σ) H { s with heap:=h1,toks:=tk }:=by
 have hfree:∀ y ∈ scope.names,y.2 = .free -> ∃ c,X.env.cells.lookup y.1 = some c:=λy hy e=>I.ok.has y.1 (.inl (S.frees y hy e))
 have sub:∀ {x:Str} {c:Addr},(F6 scope X.env).lookup x = some c -> X.env.cells.lookup x = some c:=λe=>k6 hfree e
 have okY:(aM X N' scope s.heap.objs.size s H fp).Ok:=by
  refine ⟨I.ok.mod,S.kind,I.ok.glob,I.ok.blt,Nat.le_refl _,λx y c a b=>I.ok.inj x y c (sub a) (sub b),λx hx=>?_,λx c z=>absurd z a0k,I.ok.hd,I.ok.frames,.inl rfl,λb hb=>⟨?_,λx c e=>(hf b hb).2.2.2.2.1 x c (sub e)⟩,
   I.bs,Nat.le_trans I.ok.bsz I.sz,λb o e hb=>?_,λb hb hs=>?_,I.stack,I.stkFree,I.tb⟩
  ·have mem:(x,NameKind.free) ∈ scope.names:=by
    have hx':(relabel scope X.env).names.lookup x = some .cell \/ (relabel scope X.env).names.lookup x = some .free:=hx
    have go:∀ k,(relabel scope X.env).names.lookup x = some k -> (k = .cell \/ k = .free) -> (x,NameKind.free) ∈ scope.names:=λk e hk=>by
     obtain ⟨y,hy,hz⟩:=List.mem_map.mp (gE e)
     obtain ⟨yn,yk⟩:=y
     dsimp only at hz
     split at hz
     ·rename_i hc
      cases hz
      have:yk = .free:=by simp at hc;exact hc.1.1
      rw [<- this];exact hy
     ·cases hz
      rcases hk with rfl | rfl
      ·exact absurd rfl (S.nocell _ hy)
      ·exact hy
    rcases hx' with e | e
    ·exact go _ e (.inl rfl)
    ·exact go _ e (.inr rfl)
   exact y0 mem
  ·exact Nat.ne_of_lt (hfs b hb)
  ·rcases (hf b hb).2.2.2.1 with z | z
   ·exact I.ok.noex b o e z
   ·exact absurd (Nat.lt_of_lt_of_le (a0n e) I.ok.bsz) (Nat.not_lt.mpr z)
  ·rcases List.mem_cons.mp (I.stkSub b hs) with z | z
   ·exact (hf b hb).2.1 z
   ·exact (hf b hb).2.2.1 z
 refine ⟨okY,rfl,⟨I.bare.1,λ_ _ e=>e⟩,Un.kept k,⟨m0,ns,λi x v e1 e2 e3=>?_⟩,λx c e=>?_,I.fresh,λx c e=>I.freeC x c (sub e),λp hp=>absurd hp (by simp [aM]),I.hok.kept k,?_⟩
 ·have e2':(List.replicate n none ++ cap.map λi=>σ.getD i none)[i]? = some (some v):=e2
  by_cases hi:i < n
  ·rw [List.getElem?_append_left (by simpa using hi),List.getElem?_replicate] at e2'
   split at e2' <;> cases e2'
  ·rw [List.getElem?_append_right (by simpa using Nat.le_of_not_lt hi),List.length_replicate,a0h] at e2'
   cases hc:cap[i - n]? with
   | none=>rw [hc] at e2';cases e2'
   | some j =>
    rw [hc] at e2'
    have ev:σ.getD j none = some v:=Option.some.inj e2'
    have ex':(N'.drop n)[i - n]? = some x:=by rw [List.getElem?_drop,show n + (i - n) = i by omega];exact e1
    have exN:X.N[j]? = some x:=by
     rw [S.caps,a0h,hc] at ex'
     have hj:=S.capl j (List.mem_of_getElem? hc)
     have z:X.N.getD j Str.empty = x:=Option.some.inj ex'
     rw [a0g,a0b hj] at z
     rw [a0b hj]
     exact congrArg some z
    have eσ:σ[j]? = some (some v):=by
     rw [a0g] at ev
     cases q:σ[j]? with
     | none=>rw [q] at ev;cases ev
     | some o=>rw [q] at ev;exact congrArg some ev
    have lf:=S.capf x (List.mem_of_getElem? ex')
    have mem:=gE lf
    have kx:X.env.kindOf x = some .cell:=S.frees _ mem rfl
    obtain ⟨m,_,hl⟩:=I.loc
    obtain ⟨u,ru,lu⟩:=hl j x v exN eσ (.inr (.inl kx))
    refine ⟨u,ru,.inr ⟨?_,?_⟩⟩
    ·rcases e3 with z | z | z
     ·
      exfalso
      obtain ⟨y,hy,hz⟩:=List.mem_map.mp (gE (show (relabel scope X.env).names.lookup x = some .local from z))
      obtain ⟨yn,yk⟩:=y
      dsimp only at hz
      split at hz
      ·cases hz
      ·cases hz
       have l1:=S.names _ hy rfl
       rw [lf] at l1
       cases l1
     ·exact .inl z
     ·exact .inr z
    ·rcases lu with ⟨kl,_⟩ | ⟨_,c,hc',hcell⟩
     ·rw [kx] at kl;cases kl
     ·obtain ⟨d,hd⟩:=y0 (env:=X.env) mem
      have:=sub hd
      rw [hc'] at this
      cases this
      obtain ⟨oc,h1',h2'⟩:=hcell
      exact ⟨c,hd,oc,k c oc h1',h2'⟩
 ·obtain ⟨v,oc,h1',h2'⟩:=I.cell x c (sub e)
  exact ⟨v,oc,k c oc h1',h2'⟩
 ·show (List.replicate n none ++ cap.map λi=>σ.getD i none).length = N'.length
  rw [S.len];simp
theorem DH {prog:Program} {w:World} {A:Around} {R:Result -> Shared -> Prop} {s:Shared} {it acc:Value} {env:Env} (I:Nat -> Shared -> Prop)
  (turn:∀ n s,I n s -> wpAny (model prog w) A (pyNext it) (λr s1=>match r with
   | none=>R (.ok .next) s1
   | some v=>wpAny (model prog w) A (letOwnedTupleGo target it v) (λ_ s2=>wpAny (model prog w) A (assign target env v) (λ_ s3 =>
     wpAny (model prog w) A (forIn ifs true λc r=>if r = true then do let ok <- isTrue c env (eval c env);pure (ForInStep.yield ok) else pure (ForInStep.yield r)) (λok s4 =>
      if ok = true then wpAny (model prog w) A (eval elt env) (λx s5=>wpAny (model prog w) A (call (.builtin "list.append") [acc,x]) (λ_ s6=>∃ m,m < n /\ I m s6) (λ_ _=>False) s5) (λ_ _=>False) s4
      else ∃ m,m < n /\ I m s4) (λ_ _=>False) s3) (λ_ _=>False) s2) (λ_ _=>False) s1) (λ_ _=>False) s)
  (n:Nat) (h:I n s):codeAny (model prog w) A (.compLoop (.ListComp elt [⟨target,iter,ifs,0⟩] scope pos) 0 it acc env) R s:=by
 refine codeAny_loop rfl I (λn s hI=>?_) n h
 refine wpAny_noted (env:=env) (m:=compTurn (.ListComp elt [⟨target,iter,ifs,0⟩] scope pos) 0 it acc env) ?_
 rw [compTurn_list]
 have up:∀ {α:Type} {t:Sem α} {Q:α -> Shared -> Prop} {E:Value -> Shared -> Prop} {s:Shared},wpAny (model prog w) A t Q (λ_ _=>False) s -> wpAny (model prog w) A t Q E s :=
  λh=>wpAny_mono h (λ_ _ q=>q) λ_ _ z=>z.elim
 refine a0a (wpAny_standAt (a0a (wpAny_mono (turn n s hI) (λr s1 h1=>?_) λ_ _ z=>z.elim)))
 cases r with
 | none=>exact a0d h1
 | some v =>
  refine a0a (wpAny_mono h1 (λ_ s2 h2=>?_) λ_ _ z=>z.elim)
  refine a0a (wpAny_mono h2 (λ_ s3 h3=>?_) λ_ _ z=>z.elim)
  refine a0a (wpAny_mono h3 (λok s4 h4=>?_) λ_ _ z=>z.elim)
  cases ok with
  | false=>exact a0d ⟨rfl,h4⟩
  | true =>
   refine a0a (a0a (wpAny_mono h4 (λx s5 h5=>?_) λ_ _ z=>z.elim))
   exact a0a (wpAny_mono h5 (λ_ s6 h6=>a0d (a0d ⟨rfl,h6⟩)) λ_ _ z=>z.elim)
theorem YI (hc:X.calm = true) (S:LcOk X.N X.env.scope scope N' n cap) (hi:PI X target iter wi) (hg:∀ C s H fp,PG (aM X N' scope C s H fp) target g)
  (ht:∀ C s H fp,HA (aM X N' scope C s H fp) ifs tt) (he:∀ C s H fp,PE (aM X N' scope C s H fp) elt te) (hs:∀ x,foldedSetIterable iter X.env x = pure x:=by intro _;rfl) :
  PE X (.ListComp elt [⟨target,iter,ifs,0⟩] scope pos) (a10 wi g tt te n cap):=by
 intro pins s σ H Q I h
 have hfree:∀ y ∈ scope.names,y.2 = .free -> ∃ c,X.env.cells.lookup y.1 = some c:=λy hy e=>I.ok.has y.1 (.inl (S.frees y hy e))
 rw [eval_ListComp]
 refine wpAny_comprehension_free (use:=none) rfl hs (iW hfree) S.kind S.names ?_
 refine c5 (hi pins s σ H _ I h) λv s1 h1=>c5 h1 λitv s2 h2=>?_
 obtain ⟨it,fp,tn,J,H2,rfl,I2,T,st2,f2,body⟩:=h2
 refine wpAny_newObj_type ?_
 have I3:=I2.lnew (ys:=[]) (its:=[]) (t':=s2.toks) .nil (Nat.zero_le _)
 have hacc:H2 s2.heap.objs.size = none:=I2.fresh
 obtain ⟨W,⟨m0,w0⟩,turn⟩:=body _ hacc
 have hlt:∀ b ∈ fp,b < s2.heap.objs.size:=λb hb=>by
  obtain ⟨o,e,_⟩:=T.obj 0 _ st2 b hb
  exact a0n e
 have hf3:∀ b ∈ fp,hV X pins (bD H2 s2.heap.objs.size (.lst [])) b:=λb hb =>
  ⟨by rw [aE (Nat.ne_of_lt (hlt b hb))];exact (f2 b hb).1,(f2 b hb).2⟩
 refine wpAny_newFunctionEnv S.nocell (by intro y hy;cases hy) (λh4 ns4 sb4=>?_) S.kind
 generalize hs3:({ s2 with heap:=s2.heap.push { cls:=.type "list",dict:=none,data:=.seq ([]:List Value).toArray } }:Shared) = s3 at *
 have hsz:s2.heap.objs.size < s3.heap.objs.size:=by rw [<- hs3,Heap.size_push];exact Nat.lt_succ_self _
 have k4:∀ b o,s3.heap.get? b = some o -> h4.get? b = some o:=λb o e=>(sb4.2 b (Nat.ne_of_lt (a0n e))).trans (a0e _ e)
 generalize hH3:bD H2 s2.heap.objs.size (.lst []) = H3 at *
 have I3':Inv X pins σ H3 s3:=I3
 have IY:=mN (tk:=s3.toks + ([]:List (Str × Value)).length) S I3' hf3 (λb hb=>Nat.lt_trans (hlt b hb) hsz) ns4 k4
 have fpY:∀ H':Hp,(∀ b ∈ fp,H' b = none) -> ∀ b ∈ fp,hV (aM X N' scope s3.heap.objs.size s3 H3 fp) [] H' b:=λH' hn b hb=>by
  obtain ⟨_,f1,f2',f3,f4,f5⟩:=hf3 b hb
  refine ⟨hn b hb,Nat.ne_of_lt (Nat.lt_trans (hlt b hb) hsz),λz=>?_,.inl hb,λx c e=>f4 x c (k6 hfree e),λp hp=>absurd hp (by simp [aM])⟩
  rcases List.mem_cons.mp (I3'.stkSub b z) with z | z
  ·exact f1 z
  ·exact f2' z
 have tn4:tn 0 h4:=T.keep 0 _ _ st2 λb hb o e=>k4 b o (by rw [<- hs3];exact a0e _ e)
 have loop:codeAny (model X.prog X.w) X.A (.compLoop (.ListComp elt [⟨target,iter,ifs,0⟩] scope pos) 0 (.ref it) (.ref s2.heap.objs.size) (aM X N' scope s3.heap.objs.size s3 H3 fp).env)
   (compPost (model X.prog X.w) X.A X.xe none (EP X pins σ Q) (.ref s2.heap.objs.size) s3.heap.objs.size) { s3 with heap:=h4,toks:=s3.toks + ([]:List (Str × Value)).length }:=by
  refine DH (λk s'=>∃ i σ' H',Inv (aM X N' scope s3.heap.objs.size s3 H3 fp) [] σ' H' s' /\ tn i s'.heap /\ (∀ b ∈ fp,H' b = none) /\ W i k σ' H') ?_ m0 ⟨0,_,_,IY,tn4,λb hb=>(hf3 b hb).1,w0⟩
  rintro k s5 ⟨i,σ5,H5,I5,st5,fr5,w5⟩
  rcases turn i k σ5 H5 w5 with ⟨stop,qn⟩ | ⟨go,Nn,hN,step⟩
  ·refine wpAny_mono (T.done (aM X N' scope s3.heap.objs.size s3 H3 fp) rfl rfl rfl hc i [] s5 σ5 H5 (λ_ _=>False) I5 (fpY H5 fr5) st5 stop) (λr s6 hr=>?_) (λ_ _ z=>z)
   obtain ⟨rfl,I6⟩:=hr
   obtain ⟨m,hn,_⟩:=I6.loc
   refine ⟨m,hn,λh' hs'=>⟨.ref s2.heap.objs.size,H5,?_,rfl,qn⟩⟩
   have ub:=I6.base
   have ne:∀ b o,s3.heap.get? b = some o -> b ≠ s3.heap.objs.size:=λb o e=>Nat.ne_of_lt (a0n e)
   refine I3'.call' (s':={ s6 with heap:=h' }) (ch:=fp) I6.os ⟨λb o e z1 z2 z3=>(hs'.2 b (ne b o e)).trans (ub.keep b o e z1 z2 z3),λb o e z1 z2 z3=>?_,ub.free,λb o e z=>?_,ub.tups,ub.frzs,ub.tbls⟩ (pS I6.hok I6.free hs') I6.bare λb hb=>⟨(hf3 b hb).2.2.2.1,(hf3 b hb).2.1,(hf3 b hb).2.2.2.2.1,(hf3 b hb).2.2.2.2.2⟩
   ·obtain ⟨sl,e'⟩:=ub.slot b o e z1 z2 z3
    exact ⟨sl,(hs'.2 b (ne b o e)).trans e'⟩
   ·obtain ⟨o',e'⟩:=ub.there b o e z
    exact ⟨o',(hs'.2 b (ne b o e)).trans e'⟩
  ·refine wpAny_mono (T.item (aM X N' scope s3.heap.objs.size s3 H3 fp) rfl rfl rfl hc i [] s5 σ5 H5 (λ_ _=>False) I5 (fpY H5 fr5) st5 go) (λr s6 h6=>?_) (λ_ _ z=>z)
   obtain ⟨u,rfl,h6⟩:=h6
   refine wpAny_mono h6 (λ_ s7 h7=>?_) (λ_ _ z=>z)
   obtain ⟨x,H7,I7,r7,y7,st7,fr7⟩:=h7
   have I7':=I7.pinned (fpY H7 fr7) (T.obj _ _ st7)
   have again:∀ {σ':St} {H':Hp} {s':Shared},Inv (aM X N' scope s3.heap.objs.size s3 H3 fp) ([] ++ lU fp s7.heap) σ' H' s' -> Nn σ' H' ->
     ∃ m,m < k /\ ∃ i σ' H',Inv (aM X N' scope s3.heap.objs.size s3 H3 fp) [] σ' H' s' /\ tn i s'.heap /\ (∀ b ∈ fp,H' b = none) /\ W i m σ' H':=fun {σ' H' s'} J7 n7=>by
    obtain ⟨m',hm,w7⟩:=hN σ' H' n7
    have pin:∀ b ∈ fp,∀ o,s7.heap.get? b = some o -> s'.heap.get? b = some o /\ H' b = none:=λb hb o e=>by
     have z:=J7.pin (b,o) (List.mem_append_right _ (List.mem_append_right _ (dB hb e)))
     exact ⟨z.1,z.2.1⟩
    refine ⟨m',hm,i + 1,σ',H',J7.unpinned,T.keep _ _ _ st7 λb hb o e=>(pin b hb o e).1,λb hb=>?_,w7⟩
    obtain ⟨o,e,_⟩:=T.obj _ _ st7 b hb
    exact (pin b hb o e).2
   refine c5 (hg _ _ _ _ _ s7 σ5 H7 x u _ I7' r7 (step x H7 y7)) λ_ s8 h8=>?_
   obtain ⟨σ8,H8,I8,q8⟩:=h8
   refine c5 (ht _ _ _ _ _ s8 σ8 H8 _ I8 q8) λok s9 h9=>?_
   obtain ⟨H9,I9,q9⟩:=h9
   cases ok with
   | false =>
    rw [if_neg a0k] at q9 ⊢
    exact again I9 q9
   | true =>
    rw [if_pos rfl] at q9 ⊢
    refine c5 (he _ _ _ _ _ s9 σ8 H9 _ I9 q9) λxv s10 h10=>?_
    obtain ⟨v',H10,I10,r10,ys,ha,hl,q10⟩:=h10
    refine c5 (o8 (X:=aM X N' scope s3.heap.objs.size s3 H3 fp) _ s10 σ8 H10 (.ref s2.heap.objs.size) [v'] (.ref s2.heap.objs.size) [xv] (λ_ H'=>Nn σ8 H') I10 rfl (.cons r10 .nil) ⟨_,ys,v',rfl,rfl,ha,hl,q10⟩) λ_ s11 h11=>?_
    obtain ⟨_,H11,I11,_,q11⟩:=h11
    exact again I11 q11
 exact codeAny_compStart_list loop (T.self _ 0 _ _ _ tn4 loop)
end
section
variable {X:Cx} {pins:List (Addr × Obj)} {σ:St} {H:Hp} {s:Shared}
def VR:List V -> Hp -> VK -> Prop:=λxs H Q=>∃ p ns,xs = [.ref p] /\ H p = some (.lst (List.map V.int ns)) /\ Q (.int ns.sum) H
theorem XA (hc:X.calm = true):dD X (.builtin "sum") VR:=by
 intro pins s σ H xs us Q I r h
 obtain ⟨p,ns,rfl,hp,q⟩:=h
 obtain ⟨u,rfl,ru⟩:=gV r
 cases ru
 obtain ⟨_,its,n,v,l,g⟩:=I.lstM hp
 have hi:IntsAre its ns:=g9 v
 have hl:s.heap.IsList p its.toArray:=⟨_,g,rfl,n,rfl⟩
 obtain ⟨ys,ey⟩:=hi.allInts.items
 rw [ey] at hl
 refine sum_intListG (I.ok.hd hc) hl λh' tk t' hk=>?_
 have e3:numsOf its.toArray.toList = ns:=hi.numsOf
 rw [ey,nums_intItems] at e3
 refine ⟨.int ns.sum,H,I.kept hk,⟨t',?_⟩,q⟩
 rw [preSum_eq,List.take_of_length_le (by simp),e3]
theorem p9:∀ {xs:List V} {us:List Value},xs.length = us.length -> (∀ (i:Nat) (x:V) (u:Value),xs[i]? = some x -> us[i]? = some u -> b7 x u) -> aU xs us
 | [],[],_,_=>.nil
 | x :: xs,u :: us,h,k=>.cons (k 0 x u rfl rfl) (p9 (by simpa using h) λi y v e1 e2=>k (i + 1) y v (by simpa using e1) (by simpa using e2))
 | [],_ :: _,h,_=>by simp at h
 | _ :: _,[],h,_=>by simp at h
def a0W:List V -> Hp -> VK -> Prop:=λxs H Q=>∃ j:Int,xs = [.int j] /\ ∀ p,H p = none -> Q (.ref p) (bD H p (.rng 0 j))
theorem MW:dD X (.type "range") a0W:=by
 intro pins s σ H xs us Q I r h
 obtain ⟨j,rfl,q⟩:=h
 obtain ⟨u,rfl,t,rfl⟩:=gV r
 refine call_range_1 ?_
 exact ⟨.ref s.heap.objs.size,_,I.laid (o:=.rng 0 j) (λb o e=>a0e _ e) (Nat.le_refl _) ⟨_,_,_,Heap.get?_push_size _ rfl⟩,rfl,q _ I.fresh⟩
def oU (m:Nat):List V:=(List.range m).map λ(i:Nat)=>V.int (i:Int)
def VQ:List V -> Hp -> VK -> Prop:=λxs H Q=>∃ p j,xs = [.ref p] /\ H p = some (.rng 0 j) /\ (0 <= j /\ j <= 1000) /\ ∀ l,H l = none -> Q (.ref l) (bD H l (.lst (oU j.toNat)))
theorem MV (hc:X.calm = true):dD X (.type "list") VQ:=by
 intro pins s σ H xs us Q I r h
 obtain ⟨p,j,rfl,hp,hj,q⟩:=h
 obtain ⟨u,rfl,ru⟩:=gV r
 cases ru
 obtain ⟨t1,t2,t3,g⟩:=(show cF X.prog X.w H s.heap p (.rng 0 j) from I.hok p _ hp)
 refine call_list_range (I.ok.hd hc) (n:=j.toNat) g (small_one (by decide) (by decide) (by omega) (by omega)) (by rw [rangeSize_one];split <;> omega) (Nat.le_trans (show j.toNat <= 1000 by omega) (by decide)) λh' tk acc' c' hk hS' hacc=>?_
 refine ⟨.ref s.heap.objs.size,_,I.laid (o:=.lst (oU j.toNat)) hk (Nat.le_refl _) ?_,rfl,q _ I.fresh⟩
 have hlen:(oU j.toNat).length = acc'.toList.length:=by
  unfold oU
  rw [a0c,List.length_range,a0l,hacc.1]
 refine ⟨?_,acc'.toList,c',?_,by simpa using hS'⟩
 ·rw [hlen,a0l,hacc.1]
  exact Nat.le_trans (show j.toNat <= 1000 by omega) (by decide)
 ·refine p9 hlen λi x v e1 e2=>?_
  obtain ⟨t,rfl⟩:=hacc.2 i v (by simpa using e2)
  have:x = .int (i:Int):=by
   unfold oU at e1
   rw [a0h] at e1
   cases z:(List.range j.toNat)[i]? with
   | none=>rw [z] at e1;cases e1
   | some y =>
    rw [z] at e1
    have hy:y = i:=by
     have:=(a0i.mp z).2
     simp at this;exact this.symm
    rw [hy] at e1
    exact (Option.some.inj e1).symm
  rw [this]
  exact ⟨t,by rw [Int.mul_one,Int.zero_add]⟩
end
theorem fE {env:Env} (hk:env.scope.kind = .function):∀ {names:List (Str × NameKind)} {x:Str},names.lookup x = some .free -> env.scope.names.lookup x = some .cell ->
  (names.map λ(n,k)=>if (k == NameKind.free && env.scope.kind == .function && env.kindOf n == some .cell) then (n,NameKind.cell) else (n,k)).lookup x = some .cell
 | (n,k) :: r,x,h,ho=>by
  rw [List.lookup_cons] at h
  rw [a0f]
  by_cases e:x = n
  ·subst e
   rw [beq_self_eq_true] at h
   cases (Option.some.inj h:k = .free)
   have hc:(NameKind.free == NameKind.free && env.scope.kind == .function && env.kindOf x == some .cell) = true:=by
    rw [hk,show env.kindOf x = some .cell from ho];rfl
   dsimp only
   rw [if_pos hc,List.lookup_cons]
   simp
  ·have e':(x == n) = false:=by simpa using e
   rw [e'] at h
   have ih:=fE hk (names:=r) (x:=x) h ho
   dsimp only
   split
   ·rw [List.lookup_cons,e'];exact ih
   ·rw [List.lookup_cons,e'];exact ih
theorem gO {env:Env}:∀ {names:List (Str × NameKind)} {x:Str},names.lookup x = some .globalImplicit ->
  (names.map λ(n,k)=>if (k == NameKind.free && env.scope.kind == .function && env.kindOf n == some .cell) then (n,NameKind.cell) else (n,k)).lookup x = some .globalImplicit
 | (n,k) :: r,x,h=>by
  rw [List.lookup_cons] at h
  rw [a0f]
  by_cases e:x = n
  ·subst e
   rw [beq_self_eq_true] at h
   cases (Option.some.inj h:k = .globalImplicit)
   dsimp only
   rw [if_neg (by simp),List.lookup_cons]
   simp
  ·have e':(x == n) = false:=by simpa using e
   rw [e'] at h
   have ih:=gO (env:=env) (names:=r) (x:=x) h
   dsimp only
   split
   ·rw [List.lookup_cons,e'];exact ih
   ·rw [List.lookup_cons,e'];exact ih
section
variable {X:Cx} {N':List Str} {scope:Scope} {C:Addr} {s:Shared} {H:Hp} {fp:List Addr} {i:Nat} {x:Str} {pos:Pos}
theorem YS (hN:N'.Nodup) (hi:N'[i]? = some x) (h:scope.names.lookup x = some .local):QG (aM X N' scope C s H fp) (.Name x pos) (jI i):=DZ hN hi (Or.inl (lookup_relabel_local h)) (Or.inr (lookup_relabel_local h))
theorem KM (hi:N'[i]? = some x) (h:scope.names.lookup x = some .local) (hd:(x == ("__debug__" : Str)) = false) (hcd:(x == ("__classdict__" : Str)) = false):QE (aM X N' scope C s H fp) (.Name x pos) (dU i):=KG hi (Or.inl (lookup_relabel_local h)) hd hcd
theorem KH (hi:N'[i]? = some x) (h:scope.names.lookup x = some .free) (hk:X.env.scope.kind = .function) (ho:X.env.scope.names.lookup x = some .cell) (hd:(x == ("__debug__" : Str)) = false) (hcd:(x == ("__classdict__" : Str)) = false):QE (aM X N' scope C s H fp) (.Name x pos) (dU i) :=
 KG hi (Or.inr (Or.inl (fE hk h ho))) hd hcd
theorem YR (h:scope.names.lookup x = some .globalImplicit):(aM X N' scope C s H fp).env.scope.names.lookup x = some .globalImplicit:=gO h
end
section
variable {X:Cx} {elt target iter:Expr} {ifs:List Expr} {scope:Scope} {pos:Pos} {N':List Str} {n:Nat} {cap:List Nat} {wi:TI} {g:TG} {tt:TT} {te:TE}
theorem wM (hc:X.calm = true):QC X (.builtin "sum") VR:=⟨XA hc⟩
end
inductive PV where
 | non | bl (b:Bool) | int (i:Int) | str (x:Str) | ty (n:String) | st
 | scr (ns:List Int)
 | set (S:Int -> Bool) (n:Nat)
 | lst (xs:List PV) | tup (xs:List PV) | dic (ks:List b9) (xs:List PV)
mutual
def PV.flat:PV -> Bool
 | .lst _=>false
 | .dic _ _=>false
 | .st=>false
 | .scr _=>false
 | .tup xs=>PV.flats xs
 | _=>true
def PV.flats:List PV -> Bool
 | []=>true
 | x :: xs=>x.flat && PV.flats xs
end
theorem PV.flats_all:∀ {xs:List PV},PV.flats xs = true -> ∀ x ∈ xs,x.flat = true
 | x :: xs,h,y,hy=>by
  rw [PV.flats,Bool.and_eq_true] at h
  rcases List.mem_cons.mp hy with rfl | hy
  ·exact h.1
  ·exact PV.flats_all h.2 y hy
 | [],_,y,hy=>by cases hy
theorem PV.flats_of:∀ {xs:List PV},(∀ x ∈ xs,x.flat = true) -> PV.flats xs = true
 | [],_=>by rw [PV.flats]
 | x :: xs,h=>by rw [PV.flats,Bool.and_eq_true];exact ⟨h x a0m,PV.flats_of λy hy=>h y (a0j _ hy)⟩
def HO.imm:HO -> Bool
 | .tup _=>true
 | .set _ _=>true
 | _=>false
inductive Rep (G:Addr -> Prop) (H:Hp):V -> PV -> Prop where
 | non:Rep G H .non .non
 | bl (b:Bool):Rep G H (.bl b) (.bl b)
 | int (i:Int):Rep G H (.int i) (.int i)
 | str (x:Str):Rep G H (.str x) (.str x)
 | ty (n:String):Rep G H (.ty n) (.ty n)
 | set {a:Addr} {S:Int -> Bool} {n:Nat}:H a = some (.set S n) -> Rep G H (.ref a) (.set S n)
 | lst {a:Addr} {vs:List V} {xs:List PV}:G a -> H a = some (.lst vs) -> vs.length = xs.length -> (∀ (i:Nat) (v:V) (x:PV),vs[i]? = some v -> xs[i]? = some x -> Rep G H v x) -> Rep G H (.ref a) (.lst xs)
 | tup {a:Addr} {vs:List V} {xs:List PV}:H a = some (.tup vs) -> vs.length = xs.length -> (∀ (i:Nat) (v:V) (x:PV),vs[i]? = some v -> xs[i]? = some x -> Rep G H v x) -> Rep G H (.ref a) (.tup xs)
 | dic {a:Addr} {ks:List b9} {vs:List V} {xs:List PV}:G a -> H a = some (.dK (ks.zip vs)) -> ks.length = vs.length -> vs.length = xs.length -> (∀ (i:Nat) (v:V) (x:PV),vs[i]? = some v -> xs[i]? = some x -> Rep G H v x) -> Rep G H (.ref a) (.dic ks xs)
structure Reps (G:Addr -> Prop) (H:Hp) (vs:List V) (xs:List PV):Prop where
 len:vs.length = xs.length
 at_:∀ (i:Nat) (v:V) (x:PV),vs[i]? = some v -> xs[i]? = some x -> Rep G H v x
inductive Body (G:Addr -> Prop) (H:Hp):HO -> PV -> Prop where
 | lst {vs:List V} {xs:List PV}:Reps G H vs xs -> Body G H (.lst vs) (.lst xs)
 | dic {ks:List b9} {vs:List V} {xs:List PV}:ks.length = vs.length -> Reps G H vs xs -> Body G H (.dK (ks.zip vs)) (.dic ks xs)
section
variable {G G':Addr -> Prop} {H H':Hp} {v:V} {x:PV} {vs us:List V} {xs ys:List PV}
theorem Rep.mono (r:Rep G H v x) (hG:∀ a,G a -> G' a) (hk:∀ a o,(G a \/ o.imm = true) -> H a = some o -> H' a = some o):Rep G' H' v x:=by
 induction r with
 | non=>exact .non
 | bl b=>exact .bl b
 | int i=>exact .int i
 | str x=>exact .str x
 | ty n=>exact .ty n
 | set e=>exact .set (hk _ _ (.inr rfl) e)
 | lst g e l _ ih=>exact .lst (hG _ g) (hk _ _ (.inl g) e) l ih
 | tup e l _ ih=>exact .tup (hk _ _ (.inr rfl) e) l ih
 | dic g e l1 l _ ih=>exact .dic (hG _ g) (hk _ _ (.inl g) e) l1 l ih
theorem Rep.weak (r:Rep G H v x) (hG:∀ a,G a -> G' a):Rep G' H v x:=r.mono hG λ_ _ _ e=>e
theorem Reps.mono (r:Reps G H vs xs) (hG:∀ a,G a -> G' a) (hk:∀ a o,(G a \/ o.imm = true) -> H a = some o -> H' a = some o):Reps G' H' vs xs :=
 ⟨r.len,λi v x e1 e2=>(r.at_ i v x e1 e2).mono hG hk⟩
theorem Reps.weak (r:Reps G H vs xs) (hG:∀ a,G a -> G' a):Reps G' H vs xs:=r.mono hG λ_ _ _ e=>e
theorem Body.mono {o:HO} (r:Body G H o x) (hG:∀ a,G a -> G' a) (hk:∀ a o,(G a \/ o.imm = true) -> H a = some o -> H' a = some o):Body G' H' o x:=by
 cases r with
 | lst h=>exact .lst (h.mono hG hk)
 | dic l h=>exact .dic l (h.mono hG hk)
theorem Body.rep {o:HO} {a:Addr} (b:Body G H o x) (g:G a) (e:H a = some o):Rep G H (.ref a) x:=by
 cases b with
 | lst h=>exact .lst g e h.len h.at_
 | dic l h=>exact .dic g e l h.len h.at_
theorem Rep.flat (r:Rep G H v x) (h:x.flat = true):Rep (λ_=>False) H v x:=by
 induction r with
 | non=>exact .non
 | bl b=>exact .bl b
 | int i=>exact .int i
 | str x=>exact .str x
 | ty n=>exact .ty n
 | set e=>exact .set e
 | lst g e l _ ih=>rw [PV.flat] at h;cases h
 | dic g e l1 l _ ih=>rw [PV.flat] at h;cases h
 | tup e l _ ih =>
  rw [PV.flat] at h
  exact .tup e l λi v x e1 e2=>ih i v x e1 e2 (PV.flats_all h x (List.mem_of_getElem? e2))
theorem Reps.nil:Reps G H [] []:=⟨rfl,λi v x e=>by simp at e⟩
theorem Reps.cons (h:Rep G H v x) (r:Reps G H vs xs):Reps G H (v :: vs) (x :: xs):=⟨by simp [r.len],λi w y e1 e2=>by
 cases i with
 | zero=>simp at e1 e2;subst e1 e2;exact h
 | succ i=>simp at e1 e2;exact r.at_ i w y e1 e2⟩
theorem Reps.append (r:Reps G H vs xs) (q:Reps G H us ys):Reps G H (vs ++ us) (xs ++ ys):=⟨by simp [r.len,q.len],λi w y e1 e2=>by
 by_cases h:i < vs.length
 ·rw [List.getElem?_append_left h] at e1
  rw [List.getElem?_append_left (by rw [<- r.len];exact h)] at e2
  exact r.at_ i w y e1 e2
 ·rw [List.getElem?_append_right (by omega)] at e1
  rw [List.getElem?_append_right (by rw [<- r.len];omega),<- r.len] at e2
  exact q.at_ _ w y e1 e2⟩
theorem Reps.get (r:Reps G H vs xs) {i:Nat} (e:xs[i]? = some x):∃ v,vs[i]? = some v /\ Rep G H v x:=by
 have h:i < vs.length:=by rw [r.len];exact (a0i.mp e).1
 exact ⟨vs[i],a0b h,r.at_ i _ _ (a0b h) e⟩
theorem Reps.getV (r:Reps G H vs xs) {i:Nat} (e:vs[i]? = some v):∃ x,xs[i]? = some x /\ Rep G H v x:=by
 have h:i < xs.length:=by rw [<- r.len];exact (a0i.mp e).1
 exact ⟨xs[i],a0b h,r.at_ i _ _ e (a0b h)⟩
theorem Reps.set (r:Reps G H vs xs) (h:Rep G H v x) (j:Nat):Reps G H (vs.set j v) (xs.set j x):=⟨by simp [r.len],λi w y e1 e2=>by
 rw [List.getElem?_set] at e1 e2
 by_cases hj:j = i
 ·subst hj
  simp only [if_true] at e1 e2
  split at e1
  ·split at e2
   ·cases e1;cases e2;exact h
   ·cases e2
  ·cases e1
 ·rw [if_neg hj] at e1 e2
  exact r.at_ i w y e1 e2⟩
theorem Reps.drop (r:Reps G H vs xs) (n:Nat):Reps G H (vs.drop n) (xs.drop n):=⟨by simp [r.len],λi w y e1 e2=>by
 rw [List.getElem?_drop] at e1 e2;exact r.at_ _ w y e1 e2⟩
theorem Reps.take (r:Reps G H vs xs) (n:Nat):Reps G H (vs.take n) (xs.take n):=⟨by simp [r.len],λi w y e1 e2=>by
 rw [List.getElem?_take] at e1 e2
 split at e1
 ·rename_i h;rw [if_pos h] at e2;exact r.at_ _ w y e1 e2
 ·cases e1⟩
theorem Reps.rep (r:Reps G H vs xs):∀ k:Nat,Reps G H (List.replicate k vs).flatten (List.replicate k xs).flatten
 | 0=>Reps.nil
 | k + 1=>by rw [List.replicate_succ,List.replicate_succ,List.flatten_cons,List.flatten_cons];exact r.append (Reps.rep r k)
theorem Rep.ofList (r:Rep G H v (.lst xs)):∃ a vs,v = .ref a /\ G a /\ H a = some (.lst vs) /\ Reps G H vs xs:=by
 cases r with
 | lst g e l h=>exact ⟨_,_,rfl,g,e,l,h⟩
theorem Rep.ofTup (r:Rep G H v (.tup xs)):∃ a vs,v = .ref a /\ H a = some (.tup vs) /\ Reps G H vs xs:=by
 cases r with
 | tup e l h=>exact ⟨_,_,rfl,e,l,h⟩
theorem Rep.ofDic {ks:List b9} (r:Rep G H v (.dic ks xs)):∃ a vs,v = .ref a /\ G a /\ H a = some (.dK (ks.zip vs)) /\ ks.length = vs.length /\ Reps G H vs xs:=by
 cases r with
 | dic g e l1 l h=>exact ⟨_,_,rfl,g,e,l1,l,h⟩
theorem Rep.ofInt {i:Int} (r:Rep G H v (.int i)):v = .int i:=by cases r;rfl
theorem Rep.ofBl {b:Bool} (r:Rep G H v (.bl b)):v = .bl b:=by cases r;rfl
theorem Rep.ofStr {z:Str} (r:Rep G H v (.str z)):v = .str z:=by cases r;rfl
theorem Rep.ofNon (r:Rep G H v .non):v = .non:=by cases r;rfl
theorem flats_reps (r:Reps G H vs xs) (h:PV.flats xs = true):Reps (λ_=>False) H vs xs:=⟨r.len,λi v x e1 e2=>(r.at_ i v x e1 e2).flat (PV.flats_all h x (List.mem_of_getElem? e2))⟩
end
structure Wd where
 K:PySem.W.Frag
 F:Addr -> Prop
 S:Addr -> Prop
 L:Addr -> Prop
structure Wok (W:Wd) (H:Hp):Prop where
 fF:∀ a,W.F a -> ∃ o,H a = some o
 sS:∀ a,W.S a -> a03 H a
 dj:∀ a,W.F a -> ¬ W.S a
structure Go (W:Wd) (H:Hp) (W':Wd) (H':Hp):Prop where
 lF:∀ a,W.F a -> W'.F a
 lS:∀ a,W.S a -> W'.S a
 nF:∀ a,W'.F a -> W.F a \/ H a = none
 nS:∀ a,W'.S a -> W.S a \/ H a = none
 kp:∀ a o,H a = some o -> ¬ W.S a -> H' a = some o
 ok:Wok W' H'
 kk:W'.K = W.K
 kl:W'.L = W.L
section
variable {W W' W1 W2:Wd} {H H' H1 H2 B:Hp} {v:V} {x:PV}
theorem Wok.imm (w:Wok W H) {a:Addr} {o:HO} (e:H a = some o) (i:o.imm = true):¬ W.S a:=λs=>by
 obtain ⟨_,_,_,z,_⟩:=w.sS a s
 rw [e] at z;cases z;cases i
theorem Go.refl (h:Wok W H):Go W H W H:=⟨λ_ h=>h,λ_ h=>h,λ_ h=>.inl h,λ_ h=>.inl h,λ_ _ h _=>h,h,rfl,rfl⟩
theorem Go.free (g:Go W H W' H') {a:Addr} (h:H' a = none):H a = none:=by
 cases e:H a with
 | none=>rfl
 | some o =>
  by_cases s:W.S a
  ·obtain ⟨_,_,_,z,_⟩:=g.ok.sS a (g.lS a s)
   rw [z] at h;cases h
  ·rw [g.kp a o e s] at h;cases h
theorem Go.trans (g:Go W H W1 H1) (k:Go W1 H1 W2 H2):Go W H W2 H2 where
 lF:=λa h=>k.lF a (g.lF a h)
 lS:=λa h=>k.lS a (g.lS a h)
 nF:=λa h=>by
  rcases k.nF a h with z | z
  ·exact g.nF a z
  ·exact .inr (g.free z)
 nS:=λa h=>by
  rcases k.nS a h with z | z
  ·exact g.nS a z
  ·exact .inr (g.free z)
 kp:=λa o e s=>by
  refine k.kp a o (g.kp a o e s) λz=>?_
  rcases g.nS a z with q | q
  ·exact s q
  ·rw [e] at q;cases q
 ok:=k.ok
 kk:=k.kk.trans g.kk
 kl:=k.kl.trans g.kl
theorem Go.nSS (g:Go W H W' H') {a:Addr} {o:HO} (e:H a = some o) (s:¬ W.S a):¬ W'.S a:=λz=>by
 rcases g.nS a z with q | q
 ·exact s q
 ·rw [e] at q;cases q
theorem Go.nFF (g:Go W H W' H') {a:Addr} {o:HO} (e:H a = some o) (s:¬ W.F a):¬ W'.F a:=λz=>by
 rcases g.nF a z with q | q
 ·exact s q
 ·rw [e] at q;cases q
theorem Go.rep (g:Go W H W' H') (w:Wok W H) {G G':Addr -> Prop} (hs:∀ a,G a -> ¬ W.S a) (hG:∀ a,G a -> G' a) (r:Rep G H v x):Rep G' H' v x :=
 r.mono hG λa o h e=>g.kp a o e (h.elim (hs a) (w.imm e))
theorem Go.reps (g:Go W H W' H') (w:Wok W H) {G G':Addr -> Prop} (hs:∀ a,G a -> ¬ W.S a) (hG:∀ a,G a -> G' a) {vs:List V} {xs:List PV} (r:Reps G H vs xs):Reps G' H' vs xs:=⟨r.len,λi _ _ e1 e2=>g.rep w hs hG (r.at_ i _ _ e1 e2)⟩
theorem Go.body (g:Go W H W' H') (w:Wok W H) {G G':Addr -> Prop} (hs:∀ a,G a -> ¬ W.S a) (hG:∀ a,G a -> G' a) {o:HO} (r:Body G H o x):Body G' H' o x :=
 r.mono hG λa o h e=>g.kp a o e (h.elim (hs a) (w.imm e))
theorem Go.bw (g:Go W H W' H') (w:Wok W H) (r:Rep (λa=>¬ W.S a) H v x):Rep (λa=>¬ W'.S a) H' v x:=by
 induction r with
 | non=>exact .non
 | bl b=>exact .bl b
 | int i=>exact .int i
 | str x=>exact .str x
 | ty n=>exact .ty n
 | set e=>exact .set (g.kp _ _ e (w.imm e rfl))
 | lst gg e l _ ih=>exact .lst (g.nSS e gg) (g.kp _ _ e gg) l ih
 | tup e l _ ih=>exact .tup (g.kp _ _ e (w.imm e rfl)) l ih
 | dic gg e l1 l _ ih=>exact .dic (g.nSS e gg) (g.kp _ _ e gg) l1 l ih
end
inductive El where
 | fl | sn | sh
 deriving DecidableEq
def El.G:El -> (Addr -> Prop) -> Hp -> Addr -> Prop
 | .fl,_,_=>λ_=>False
 | .sn,F,B=>λa=>F a /\ B a = none
 | .sh,F,_=>F
def El.le:El -> El -> Bool
 | .fl,_=>true
 | .sn,.fl=>false
 | .sn,_=>true
 | .sh,.sh=>true
 | .sh,_=>false
theorem El.leG {e e':El} (h:e.le e' = true) {F:Addr -> Prop} {B:Hp} {a:Addr} (g:e.G F B a):e'.G F B a:=by
 cases e <;> cases e' <;> first | exact g | exact g.elim | exact g.1 | cases h
theorem El.GF {e:El} {F:Addr -> Prop} {B:Hp} {a:Addr} (g:e.G F B a):F a:=by
 cases e with
 | fl=>exact g.elim
 | sn=>exact g.1
 | sh=>exact g
theorem El.up {e:El} {F F':Addr -> Prop} {B B':Hp} {a:Addr} (hF:∀ a,F a -> F' a) (hB:∀ a,B a = none -> B' a = none) (g:e.G F B a):e.G F' B' a:=by
 cases e with
 | fl=>exact g
 | sn=>exact ⟨hF a g.1,hB a g.2⟩
 | sh=>exact hF a g
inductive Md where
 | no | bw | v (e:El) | o (e:El) | z (e:El) | p (e:El) | c (e:El) | st | scr
 deriving DecidableEq
def Md.lent:Md -> Bool
 | .bw=>true
 | .p _=>true
 | .c _=>true
 | _=>false
def RepP (G S:Addr -> Prop) (H:Hp) (v:V) (x:PV):Prop:=Rep G H v x \/ ∃ a o,v = .ref a /\ ¬ S a /\ H a = some o /\ Body G H o x
def Md.own:Md -> Bool
 | .o _=>true
 | _=>false
def ScrAt (K:PySem.W.Frag) (H:Hp) (a:Addr) (ns:List Int):Prop:=(∃ o,H a = some (.frz o (.lst (ns.map V.int)))) \/
 ∃ (o:Obj) (its:Array Value) (n:Nat),K.lookup a = some o /\ o.cls = .type "list" /\ o.dict = none /\ o.data = .seq its n /\ its.size <= sizeLine /\ aU (ns.map V.int) its.toList
theorem ScrAt.sq {K:PySem.W.Frag} {H:Hp} {a:Addr} {ns:List Int} (h:ScrAt K H a ns):cT K H a (ns.map V.int):=by
 rcases h with h | h
 ·exact .inl (.inr h)
 ·exact .inr h
structure OwnL (e:El) (B H:Hp) (W':Wd) (H':Hp) (a:Addr) (o:HO) (x:PV):Prop where
 new:H a = none
 nF:¬ W'.F a
 nS:¬ W'.S a
 at_:H' a = some o
 its:Body (e.G W'.F B) H' o x
structure FrzL (e:El) (B:Hp) (W':Wd) (H':Hp) (a:Addr) (o:HO) (x:PV):Prop where
 new:B a = none
 F:W'.F a
 at_:H' a = some o
 its:Body (e.G W'.F B) H' o x
def ResE (B H:Hp) (W':Wd) (H':Hp) (m:Md) (v:V) (x:PV):Prop :=
 match m with
 | .no=>True
 | .bw=>Rep (λa=>¬ W'.S a) H' v x
 | .v e=>Rep (e.G W'.F B) H' v x
 | .st=>∃ p,v = .ref p /\ x = .st /\ W'.S p
 | .scr=>∃ a ns,v = .ref a /\ x = .scr ns /\ ScrAt W'.K H' a ns
 | .o e=>∃ a o,v = .ref a /\ OwnL e B H W' H' a o x
 | .z e=>∃ a o,v = .ref a /\ FrzL e B W' H' a o x
 | .p e=>RepP (e.G W'.F B) W'.S H' v x
 | .c e=>∃ a o,v = .ref a /\ W'.L a /\ ¬ W'.S a /\ H' a = some o /\ Body (e.G W'.F B) H' o x
section
variable {W W' W1 W2:Wd} {B H H' H1 H2:Hp} {m n:Md} {e e':El} {v:V} {x:PV}
theorem El.nS (w:Wok W H) {a:Addr} (g:e.G W.F B a):¬ W.S a:=w.dj a (El.GF g)
theorem OwnL.go {a:Addr} {o:HO} (r:OwnL e B H W1 H1 a o x) (w:Wok W1 H1) (g:Go W1 H1 W2 H2):OwnL e B H W2 H2 a o x where
 new:=r.new
 nF:=g.nFF r.at_ r.nF
 nS:=g.nSS r.at_ r.nS
 at_:=g.kp a _ r.at_ r.nS
 its:=g.body w (λ_ h=>El.nS w h) (λ_ h=>El.up g.lF (λ_ z=>z) h) r.its
theorem FrzL.go {a:Addr} {o:HO} (r:FrzL e B W1 H1 a o x) (w:Wok W1 H1) (g:Go W1 H1 W2 H2):FrzL e B W2 H2 a o x where
 new:=r.new
 F:=g.lF a r.F
 at_:=g.kp a _ r.at_ (w.dj a r.F)
 its:=g.body w (λ_ h=>El.nS w h) (λ_ h=>El.up g.lF (λ_ z=>z) h) r.its
theorem ResE.go (r:ResE B H W1 H1 m v x) (w:Wok W1 H1) (g:Go W1 H1 W2 H2):ResE B H W2 H2 m v x:=by
 cases m with
 | no=>trivial
 | bw=>exact g.bw w r
 | v e=>exact g.rep w (λ_ h=>El.nS w h) (λ_ h=>El.up g.lF (λ_ z=>z) h) r
 | st=>obtain ⟨p,e1,e2,s⟩:=r;exact ⟨p,e1,e2,g.lS p s⟩
 | scr =>
  obtain ⟨a,ns,e1,e2,s⟩:=r
  refine ⟨a,ns,e1,e2,?_⟩
  rcases s with ⟨o,s⟩ | s
  ·exact .inl ⟨o,g.kp a _ s λz=>by obtain ⟨_,_,_,q,_⟩:=w.sS a z;rw [s] at q;cases q⟩
  ·exact .inr (by rw [g.kk];exact s)
 | o e=>obtain ⟨a,ho,e1,q⟩:=r;exact ⟨a,ho,e1,q.go w g⟩
 | z e=>obtain ⟨a,ho,e1,q⟩:=r;exact ⟨a,ho,e1,q.go w g⟩
 | p e =>
  rcases r with r | ⟨a,ho,e1,s,h,b⟩
  ·exact .inl (g.rep w (λ_ h=>El.nS w h) (λ_ h=>El.up g.lF (λ_ z=>z) h) r)
  ·exact .inr ⟨a,ho,e1,g.nSS h s,g.kp a _ h s,g.body w (λ_ h=>El.nS w h) (λ_ h=>El.up g.lF (λ_ z=>z) h) b⟩
 | c e =>
  obtain ⟨a,ho,e1,l,s,h,b⟩:=r
  exact ⟨a,ho,e1,by rw [g.kl];exact l,g.nSS h s,g.kp a _ h s,g.body w (λ_ h=>El.nS w h) (λ_ h=>El.up g.lF (λ_ z=>z) h) b⟩
theorem ResE.base (g:Go W H W1 H1) (r:ResE B H1 W2 H2 m v x):ResE B H W2 H2 m v x:=by
 cases m with
 | o e=>obtain ⟨a,ho,e1,o⟩:=r;exact ⟨a,ho,e1,g.free o.new,o.nF,o.nS,o.at_,o.its⟩
 | _=>exact r
def Md.len:Md -> Bool
 | .no=>false
 | .st=>false
 | .scr=>false
 | _=>true
theorem Body.lend {G:Addr -> Prop} {o:HO} {a:Addr} (b:Body G H o x) (w:Wok W H) (hG:∀ a,G a -> W.F a) (nS:¬ W.S a) (e:H a = some o):Rep (λa=>¬ W.S a) H (.ref a) x :=
 (b.mono (G':=λa=>¬ W.S a) (λc hc=>w.dj c (hG c hc)) λ_ _ _ e=>e).rep nS e
theorem ResE.lend (r:ResE B H W1 H1 m v x) (w:Wok W1 H1) (hm:m.len = true):Rep (λa=>¬ W1.S a) H1 v x:=by
 cases m with
 | no=>cases hm
 | bw=>exact r
 | v e=>exact Rep.weak r λ_ h=>El.nS w h
 | st=>cases hm
 | scr=>cases hm
 | o e=>obtain ⟨a,ho,rfl,o⟩:=r;exact o.its.lend w (λ_ h=>El.GF h) o.nS o.at_
 | z e=>obtain ⟨a,ho,rfl,o⟩:=r;exact o.its.lend w (λ_ h=>El.GF h) (w.dj a o.F) o.at_
 | p e =>
  rcases r with r | ⟨a,ho,rfl,s,h,b⟩
  ·exact Rep.weak r λ_ h=>El.nS w h
  ·exact b.lend w (λ_ h=>El.GF h) s h
 | c e =>
  obtain ⟨a,ho,rfl,l,s,h,b⟩:=r
  exact b.lend w (λ_ h=>El.GF h) s h
def Md.le:Md -> Md -> Bool
 | .v e,.v e'=>e.le e'
 | .o e,.o e'=>e.le e'
 | .z e,.z e'=>e.le e'
 | .z e,.v .sn=>e.le .sn
 | .z _,.v .sh=>true
 | .v e,.p e'=>e.le e'
 | .o e,.p e'=>e.le e'
 | .z e,.p e'=>e.le e'
 | .p e,.p e'=>e.le e'
 | .c e,.p e'=>e.le e'
 | m,.bw=>m.len
 | _,.no=>true
 | m,n=>decide (m = n)
theorem ResE.le (r:ResE B H W' H' m v x) (w:Wok W' H') (h:m.le n = true):ResE B H W' H' n v x:=by
 cases n with
 | no=>trivial
 | bw=>exact r.lend w (by cases m <;> first | exact h | rfl)
 | v e' =>
  cases m with
  | v e=>exact Rep.weak r λ_ g=>El.leG h g
  | z e =>
   obtain ⟨a,ho,rfl,o⟩:=r
   cases e' with
   | fl=>cases h
   | sn=>exact (o.its.mono (G':=El.sn.G W'.F B) (λ_ g=>El.leG (show e.le .sn = true from h) g) λ_ _ _ e=>e).rep ⟨o.F,o.new⟩ o.at_
   | sh=>exact (o.its.mono (G':=El.sh.G W'.F B) (λ_ g=>El.GF g) λ_ _ _ e=>e).rep o.F o.at_
  | _=>cases h
 | o e' =>
  cases m with
  | o e=>obtain ⟨a,ho,rfl,o⟩:=r;exact ⟨a,ho,rfl,o.new,o.nF,o.nS,o.at_,o.its.mono (λ_ g=>El.leG h g) λ_ _ _ e=>e⟩
  | _=>cases h
 | z e' =>
  cases m with
  | z e=>obtain ⟨a,ho,rfl,o⟩:=r;exact ⟨a,ho,rfl,o.new,o.F,o.at_,o.its.mono (λ_ g=>El.leG h g) λ_ _ _ e=>e⟩
  | _=>cases h
 | p e' =>
  cases m with
  | v e=>exact .inl (Rep.weak r λ_ g=>El.leG h g)
  | o e=>obtain ⟨a,ho,rfl,q⟩:=r;exact .inr ⟨a,ho,rfl,q.nS,q.at_,q.its.mono (λ_ g=>El.leG h g) λ_ _ _ e=>e⟩
  | z e=>obtain ⟨a,ho,rfl,q⟩:=r;exact .inr ⟨a,ho,rfl,w.dj a q.F,q.at_,q.its.mono (λ_ g=>El.leG h g) λ_ _ _ e=>e⟩
  | p e =>
   rcases r with r | ⟨a,ho,rfl,s,hh,b⟩
   ·exact .inl (Rep.weak r λ_ g=>El.leG h g)
   ·exact .inr ⟨a,ho,rfl,s,hh,b.mono (λ_ g=>El.leG h g) λ_ _ _ e=>e⟩
  | c e =>
   obtain ⟨a,ho,rfl,l,s,hh,b⟩:=r
   exact .inr ⟨a,ho,rfl,s,hh,b.mono (λ_ g=>El.leG h g) λ_ _ _ e=>e⟩
  | _=>cases h
 | st=>cases m <;> first | exact r | cases h
 | scr=>cases m <;> first | exact r | cases h
 | c=>cases m <;> first | exact r | cases h | (simp [Md.le] at h;subst h;exact r)
end
abbrev b6:=List (Option PV)
def fJ (md:List Md):Bool:=md.all (λm=>!m.lent) || md.all (λm=>!m.own)
theorem fK {md:List Md} (h:fJ md = true) {i j:Nat} (hi:(md.getD i .no).own = true):(md.getD j .no).lent = false:=by
 refine Bool.eq_false_iff.mpr ?_
 intro hj
 unfold fJ at h
 rw [Bool.or_eq_true,List.all_eq_true,List.all_eq_true] at h
 rw [a0g] at hi hj
 cases e1:md[i]? with
 | none=>rw [e1] at hi;cases hi
 | some a =>
  cases e2:md[j]? with
  | none=>rw [e2] at hj;cases hj
  | some b =>
   rw [e1] at hi;rw [e2] at hj
   rcases h with h | h
   ·have:=h b (List.mem_of_getElem? e2)
    simp at this hj;rw [hj] at this;cases this
   ·have:=h a (List.mem_of_getElem? e1)
    simp at this hi;rw [hi] at this;cases this
structure Rl (K:PySem.W.Frag) (md:List Md) (W0:Wd) (H0:Hp) (W:Wd) (σ:St) (env:b6) (H:Hp):Prop where
 ok0:Wok W0 H0
 go:Go W0 H0 W H
 len:σ.length = env.length
 slot:∀ (i:Nat) (x:PV),env[i]? = some (some x) -> ∃ v,σ[i]? = some (some v) /\ ResE H0 H0 W H (md.getD i .no) v x
 sep:∀ (i j:Nat) (x y:PV) (a:Addr),i ≠ j -> (md.getD i .no).own = true -> (md.getD j .no).own = true -> env[i]? = some (some x) -> env[j]? = some (some y) -> σ[i]? = some (some (.ref a)) -> σ[j]? = some (some (.ref a)) -> False
 bws:fJ md = true
 kk:W.K = K
section
variable {K:PySem.W.Frag} {md md':List Md} {W0 W W' W1:Wd} {H0 H H' H1:Hp} {σ:St} {env:b6} {m:Md} {e:El} {v:V} {x:PV} {i:Nat}
theorem Rl.ok (R:Rl K md W0 H0 W σ env H):Wok W H:=R.go.ok
theorem Rl.step (R:Rl K md W0 H0 W σ env H) (g:Go W H W' H'):Rl K md W0 H0 W' σ env H' :=
 ⟨R.ok0,R.go.trans g,R.len,λi x e=>by
  obtain ⟨v,h1,h2⟩:=R.slot i x e
  exact ⟨v,h1,h2.go R.ok g⟩,R.sep,R.bws,g.kk.trans R.kk⟩
theorem cN {md:List Md} {m:Md} {i j:Nat}:(md.set i m).getD j .no = if i = j /\ j < md.length then m else md.getD j .no:=by
 rw [a0g,List.getElem?_set,a0g]
 by_cases h:i = j
 ·subst h
  by_cases h2:i < md.length
  ·simp [h2]
  ·simp [h2]
 ·simp [h]
theorem Md.ofOwn (h:m.own = true):∃ e,m = .o e:=by
 cases m with
 | o e=>exact ⟨e,rfl⟩
 | _=>cases h
theorem Rl.set (R:Rl K md W0 H0 W1 σ env H1) (g:Go W1 H1 W H) (r:ResE H0 H1 W H m v x) (hm:fJ (md.set i m) = true) (hi:i < md.length):Rl K (md.set i m) W0 H0 W (σ.set i (some v)) (env.set i (some x)) H:=by
 have R':=R.step g
 refine ⟨R.ok0,R'.go,by simp [R.len],λj y e=>?_,λj k y z a hjk oj ok ej ek sj sk=>?_,hm,R'.kk⟩
 ·rw [List.getElem?_set] at e
  by_cases h:i = j
  ·subst h
   rw [if_pos rfl] at e
   split at e
   ·rename_i hl
    cases e
    refine ⟨v,by rw [List.getElem?_set,if_pos rfl,if_pos (by rw [R.len];exact hl)],?_⟩
    rw [cN,if_pos ⟨rfl,hi⟩]
    exact ResE.base R.go r
   ·cases e
  ·rw [if_neg h] at e
   obtain ⟨w,h1,h2⟩:=R'.slot j y e
   refine ⟨w,by rw [List.getElem?_set,if_neg h];exact h1,?_⟩
   rw [cN,if_neg (λz=>h z.1)]
   exact h2
 ·rw [cN] at oj ok
  rw [List.getElem?_set] at ej ek sj sk
  have key:∀ (l:Nat) (b:Addr),m.own = true -> v = .ref b -> (md.getD l .no).own = true -> (∃ y,env[l]? = some (some y)) -> σ[l]? = some (some (.ref b)) -> False:=by
   intro l b om hv ol ⟨y,el⟩ sl
   obtain ⟨e,rfl⟩:=Md.ofOwn om
   obtain ⟨a',ho,q1,o⟩:=r
   rw [hv] at q1;cases q1
   have nb:=o.new
   obtain ⟨w,q1,q2⟩:=R.slot l y el
   rw [sl] at q1;cases q1
   obtain ⟨e2,hmd⟩:=Md.ofOwn ol
   rw [hmd] at q2;obtain ⟨a',ho2,z1,o2⟩:=q2;cases z1;rw [o2.at_] at nb;cases nb
  by_cases hj:i = j
  ·subst hj
   rw [if_pos ⟨rfl,hi⟩] at oj
   rw [if_neg (λz=>hjk z.1)] at ok
   rw [if_neg hjk] at ek sk
   rw [if_pos rfl] at sj
   split at sj
   ·cases sj;exact key k a oj rfl ok ⟨z,ek⟩ sk
   ·cases sj
  ·rw [if_neg (λz=>hj z.1)] at oj
   rw [if_neg hj] at ej sj
   by_cases hk:i = k
   ·subst hk
    rw [if_pos ⟨rfl,hi⟩] at ok
    rw [if_pos rfl] at sk
    split at sk
    ·cases sk;exact key j a ok rfl oj ⟨y,ej⟩ sj
    ·cases sk
   ·rw [if_neg (λz=>hk z.1)] at ok
    rw [if_neg hk] at ek sk
    exact R.sep j k y z a hjk oj ok ej ek sj sk
theorem Rl.le (R:Rl K md W0 H0 W σ env H) (hl:∀ i,(md.getD i .no).le (md'.getD i .no) = true) (ho:∀ i,(md'.getD i .no).own = true -> (md.getD i .no).own = true) (hk:fJ md' = true):Rl K md' W0 H0 W σ env H :=
 ⟨R.ok0,R.go,R.len,λi x e=>by
  obtain ⟨v,h1,h2⟩:=R.slot i x e
  exact ⟨v,h1,h2.le R.ok (hl i)⟩,λi j x y a hij oi oj=>R.sep i j x y a hij (ho i oi) (ho j oj),hk,R.kk⟩
theorem lR {Hs:Hp} {a:Addr} {o:HO} (w:Wok W H) (q:OwnL e H0 Hs W H a o x) (hb:H0 a = none):Wok { W with F:=λb=>W.F b \/ b = a } H /\ FrzL e H0 { W with F:=λb=>W.F b \/ b = a } H a o x:=by
 refine ⟨⟨λb hb=>?_,w.sS,λb hb=>?_⟩,hb,.inr rfl,q.at_,?_⟩
 ·rcases hb with hb | rfl
  ·exact w.fF b hb
  ·exact ⟨_,q.at_⟩
 ·rcases hb with hb | rfl
  ·exact w.dj b hb
  ·exact q.nS
 ·exact q.its.mono (λ_ g=>El.up (λ_ h=>.inl h) (λ_ z=>z) g) λ_ _ _ e=>e
theorem Go.freeze (g0:Go W0 H0 W H) (g:Go W H W' H') (r:ResE H0 H W' H' (.o e) v x):∃ W2,Go W H W2 H' /\ ResE H0 H W2 H' (.z e) v x:=by
 obtain ⟨a,o,rfl,q⟩:=r
 obtain ⟨w,r'⟩:=lR g.ok q (g0.free q.new)
 refine ⟨{ W' with F:=λb=>W'.F b \/ b = a },⟨λb hb=>.inl (g.lF b hb),g.lS,λb hb=>?_,g.nS,g.kp,w,g.kk,g.kl⟩,a,o,rfl,r'⟩
 rcases hb with hb | rfl
 ·exact g.nF b hb
 ·exact .inr q.new
theorem Rl.freeze (R:Rl K md W0 H0 W σ env H) (hm:md.getD i .no = .o e):∃ W2,Rl K (md.set i (.z e)) W0 H0 W2 σ env H:=by
 have hil:i < md.length:=by
  refine Nat.lt_of_not_le λh=>?_
  rw [a0g,List.getElem?_eq_none h] at hm
  cases hm
 have own1:∀ j,((md.set i (.z e)).getD j .no).own = true -> (md.getD j .no).own = true /\ i ≠ j:=λj h=>by
  rw [cN] at h
  split at h
  ·cases h
  ·rename_i q
   refine ⟨h,λz=>?_⟩
   subst z
   exact q ⟨rfl,hil⟩
 have hok:fJ (md.set i (.z e)) = true:=by
  have h:=R.bws
  unfold fJ at h ⊢
  rw [Bool.or_eq_true,List.all_eq_true,List.all_eq_true] at h ⊢
  rcases h with h | h
  ·refine .inl λm hm=>?_
   rcases List.mem_or_eq_of_mem_set hm with z | z
   ·exact h m z
   ·subst z;rfl
  ·refine .inr λm hm=>?_
   rcases List.mem_or_eq_of_mem_set hm with z | z
   ·exact h m z
   ·subst z;rfl
 cases ev:env[i]? with
 | none =>
  refine ⟨W,⟨R.ok0,R.go,R.len,λj y ej=>?_,λj k y z a hjk oj ok ej ek sj sk=>R.sep j k y z a hjk (own1 j oj).1 (own1 k ok).1 ej ek sj sk,hok,R.kk⟩⟩
  have hij:¬ i = j:=λz=>by subst z;rw [ev] at ej;cases ej
  rw [cN,if_neg (λz=>hij z.1)]
  exact R.slot j y ej
 | some ox =>
  cases ox with
  | none =>
   refine ⟨W,⟨R.ok0,R.go,R.len,λj y ej=>?_,λj k y z a hjk oj ok ej ek sj sk=>R.sep j k y z a hjk (own1 j oj).1 (own1 k ok).1 ej ek sj sk,hok,R.kk⟩⟩
   have hij:¬ i = j:=λz=>by subst z;rw [ev] at ej;cases ej
   rw [cN,if_neg (λz=>hij z.1)]
   exact R.slot j y ej
  | some x =>
   obtain ⟨v,sv,r⟩:=R.slot i x ev
   rw [hm] at r
   obtain ⟨a,o,e1,q⟩:=r
   subst e1
   obtain ⟨w,r'⟩:=lR R.ok q q.new
   refine ⟨{ W with F:=λb=>W.F b \/ b = a },⟨R.ok0,⟨λb hb=>.inl (R.go.lF b hb),R.go.lS,λb hb=>?_,R.go.nS,R.go.kp,w,R.go.kk,R.go.kl⟩,R.len,λj y ej=>?_,λj k y z a hjk oj ok ej ek sj sk=>R.sep j k y z a hjk (own1 j oj).1 (own1 k ok).1 ej ek sj sk,hok,R.kk⟩⟩
   ·rcases hb with hb | rfl
    ·exact R.go.nF b hb
    ·exact .inr q.new
   ·by_cases hij:i = j
    ·subst hij
     rw [ev] at ej;cases ej
     refine ⟨_,sv,?_⟩
     rw [cN,if_pos ⟨rfl,hil⟩]
     exact ⟨a,o,rfl,r'⟩
    ·obtain ⟨u,su,ru⟩:=R.slot j y ej
     refine ⟨u,su,?_⟩
     rw [cN,if_neg (λz=>hij z.1)]
     cases hmd:md.getD j .no with
     | no=>trivial
     | bw=>have:=fK R.bws (i:=i) (j:=j) (by rw [hm];rfl);rw [hmd] at this;cases this
     | p e'=>have:=fK R.bws (i:=i) (j:=j) (by rw [hm];rfl);rw [hmd] at this;cases this
     | c e'=>have:=fK R.bws (i:=i) (j:=j) (by rw [hm];rfl);rw [hmd] at this;cases this
     | v e'=>rw [hmd] at ru;exact Rep.weak ru λ_ g=>El.up (λ_ h=>.inl h) (λ_ z=>z) g
     | st=>rw [hmd] at ru;exact ru
     | scr=>rw [hmd] at ru;exact ru
     | o e' =>
      rw [hmd] at ru
      obtain ⟨b,ob,z1,qb⟩:=ru
      refine ⟨b,ob,z1,qb.new,λz=>?_,qb.nS,qb.at_,qb.its.mono (λ_ g=>El.up (λ_ h=>.inl h) (λ_ z=>z) g) λ_ _ _ e=>e⟩
      rcases z with z | z
      ·exact qb.nF z
      ·subst z z1
       exact R.sep i j _ _ _ hij (by rw [hm];rfl) (by rw [hmd];rfl) ev ej sv su
     | z e' =>
      rw [hmd] at ru
      obtain ⟨b,ob,z1,qb⟩:=ru
      exact ⟨b,ob,z1,qb.new,.inl qb.F,qb.at_,qb.its.mono (λ_ g=>El.up (λ_ h=>.inl h) (λ_ z=>z) g) λ_ _ _ e=>e⟩
theorem Rl.ownAt (R:Rl K md W0 H0 W σ env H) (hm:md.getD i .no = .o e) (ev:env[i]? = some (some x)):∃ a o,σ[i]? = some (some (.ref a)) /\ OwnL e H0 H0 W H a o x:=by
 obtain ⟨v,sv,r⟩:=R.slot i x ev
 rw [hm] at r
 obtain ⟨a,o,e1,q⟩:=r
 subst e1
 exact ⟨a,o,sv,q⟩
theorem Rl.put (R:Rl K md W0 H0 W σ env H) (hm:md.getD i .no = .o e) {x':PV} {o':HO} {a:Addr} (ev:env[i]? = some (some x)) (sa:σ[i]? = some (some (.ref a))) (r:Body (e.G W.F H0) H o' x') (hni:o'.imm = false) :
  Rl K md W0 H0 W σ (env.set i (some x')) (bD H a o'):=by
 obtain ⟨a',o,sv,q⟩:=R.ownAt hm ev
 rw [sa] at sv;cases sv
 have nim:o.imm = false:=by
  have:=q.its
  cases this <;> rfl
 have ni:∀ b u,H b = some u -> u.imm = true -> b ≠ a:=λb u e hi z=>by subst z;rw [q.at_] at e;cases e;rw [nim] at hi;cases hi
 have nf:∀ b,W.F b -> b ≠ a:=λb f z=>by subst z;exact q.nF f
 have keep:∀ {G:Addr -> Prop} {u:V} {y:PV},(∀ a,G a -> W.F a) -> Rep G H u y -> Rep G (bD H a o') u y:=λhG r=>r.mono (λ_ h=>h) λb u h e=>by
  rw [aE (h.elim (λg=>nf b (hG b g)) (ni b u e))];exact e
 have keepB:∀ {G:Addr -> Prop} {u:HO} {y:PV},(∀ a,G a -> W.F a) -> Body G H u y -> Body G (bD H a o') u y:=λhG r=>r.mono (λ_ h=>h) λb u h e=>by
  rw [aE (h.elim (λg=>nf b (hG b g)) (ni b u e))];exact e
 have w:Wok W (bD H a o'):=⟨λb hb=>by rw [aE (nf b hb)];exact R.ok.fF b hb,λb hb=>by
  have nb:b ≠ a:=λz=>by subst z;exact q.nS hb
  obtain ⟨x1,x2,x3,e1,e2⟩:=R.ok.sS b hb
  exact ⟨x1,x2,x3,by rw [aE nb];exact e1,e2⟩,R.ok.dj⟩
 refine ⟨R.ok0,⟨R.go.lF,R.go.lS,R.go.nF,R.go.nS,λb u eb sb=>?_,w,R.go.kk,R.go.kl⟩,by simp [R.len],λj y ej=>?_,λj k y z b hjk oj ok ej ek sj sk=>?_,R.bws,R.kk⟩
 ·have nb:b ≠ a:=λz=>by subst z;rw [q.new] at eb;cases eb
  rw [aE nb];exact R.go.kp b u eb sb
 ·rw [List.getElem?_set] at ej
  by_cases hij:i = j
  ·subst hij
   rw [if_pos rfl] at ej
   split at ej
   ·cases ej
    refine ⟨_,sa,?_⟩
    rw [hm]
    exact ⟨a,o',rfl,q.new,q.nF,q.nS,b5,keepB (λ_ g=>El.GF g) r⟩
   ·cases ej
  ·rw [if_neg hij] at ej
   obtain ⟨u,su,ru⟩:=R.slot j y ej
   refine ⟨u,su,?_⟩
   cases hmd:md.getD j .no with
   | no=>trivial
   | bw=>have:=fK R.bws (i:=i) (j:=j) (by rw [hm];rfl);rw [hmd] at this;cases this
   | p e'=>have:=fK R.bws (i:=i) (j:=j) (by rw [hm];rfl);rw [hmd] at this;cases this
   | c e'=>have:=fK R.bws (i:=i) (j:=j) (by rw [hm];rfl);rw [hmd] at this;cases this
   | v e'=>rw [hmd] at ru;exact keep (λ_ g=>El.GF g) ru
   | st=>rw [hmd] at ru;exact ru
   | scr =>
    rw [hmd] at ru
    obtain ⟨b,ns,e1,e2,z⟩:=ru
    refine ⟨b,ns,e1,e2,?_⟩
    rcases z with ⟨oo,z⟩ | z
    ·refine .inl ⟨oo,?_⟩
     rw [aE (λy=>?_)];exact z
     subst y
     have b1:=q.its
     have h2:=q.at_
     rw [z] at h2
     cases h2
     cases b1
    ·exact .inr z
   | o e' =>
    rw [hmd] at ru;obtain ⟨b,ob,z1,qb⟩:=ru
    have nb:b ≠ a:=λz=>by subst z;subst z1;exact R.sep i j _ _ _ hij (by rw [hm];rfl) (by rw [hmd];rfl) ev ej sa su
    exact ⟨b,ob,z1,qb.new,qb.nF,qb.nS,by rw [aE nb];exact qb.at_,keepB (λ_ g=>El.GF g) qb.its⟩
   | z e' =>
    rw [hmd] at ru;obtain ⟨b,ob,z1,qb⟩:=ru
    exact ⟨b,ob,z1,qb.new,qb.F,by rw [aE (nf b qb.F)];exact qb.at_,keepB (λ_ g=>El.GF g) qb.its⟩
 ·have en:∀ (l:Nat) (p:PV),(env.set i (some x'))[l]? = some (some p) -> ∃ p',env[l]? = some (some p'):=by
   intro l p el
   rw [List.getElem?_set] at el
   by_cases hil:i = l
   ·subst hil;exact ⟨_,ev⟩
   ·rw [if_neg hil] at el;exact ⟨p,el⟩
  obtain ⟨y',ey⟩:=en j y ej
  obtain ⟨z',ez⟩:=en k z ek
  exact R.sep j k y' z' b hjk oj ok ey ez sj sk
end
mutual
def PV.norm:PV -> PV
 | .bl b=>.int (if b then 1 else 0)
 | .lst xs=>.lst (PV.norms xs)
 | .tup xs=>.tup (PV.norms xs)
 | .non=>.non
 | .int i=>.int i
 | .str x=>.str x
 | .ty n=>.ty n
 | .st=>.st
 | .scr n=>.scr n
 | .set S n=>.set S n
 | .dic k x=>.dic k x
def PV.norms:List PV -> List PV
 | []=>[]
 | x :: xs=>x.norm :: PV.norms xs
end
mutual
def PV.dep:PV -> Nat
 | .lst xs=>PV.deps xs + 1
 | .tup xs=>PV.deps xs + 1
 | .ty _=>1000
 | .st=>1000
 | .scr _=>1000
 | .set _ _=>1000
 | .dic _ _=>1000
 | .non=>0
 | .bl _=>0
 | .int _=>0
 | .str _=>0
def PV.deps:List PV -> Nat
 | []=>0
 | x :: xs=>max x.dep (PV.deps xs)
end
theorem PV.norms_map:∀ {xs:List PV},PV.norms xs = xs.map PV.norm
 | []=>by rw [PV.norms];rfl
 | x :: xs=>by rw [PV.norms,PV.norms_map];rfl
theorem PV.deps_le:∀ {xs:List PV} {x:PV},x ∈ xs -> x.dep <= PV.deps xs
 | y :: xs,x,h=>by
  rw [PV.deps]
  rcases List.mem_cons.mp h with rfl | h
  ·exact Nat.le_max_left _ _
  ·exact Nat.le_trans (PV.deps_le h) (Nat.le_max_right _ _)
theorem PV.deps_of {n:Nat}:∀ {xs:List PV},(∀ x ∈ xs,x.dep <= n) -> PV.deps xs <= n
 | [],_=>by rw [PV.deps];exact Nat.zero_le _
 | x :: xs,h=>by rw [PV.deps];exact Nat.max_le.mpr ⟨h x a0m,PV.deps_of λy hy=>h y (a0j _ hy)⟩
theorem ext_rep {P:V -> PV -> PV -> Prop} {vs:List V} {xs ys:List PV} (l:vs.length = xs.length) (l':vs.length = ys.length) (h:∀ (i:Nat) (v:V) (x y:PV),vs[i]? = some v -> xs[i]? = some x -> ys[i]? = some y -> x = y):xs = ys:=by
 refine List.ext_getElem (by omega) λi h1 h2=>?_
 exact h i vs[i] _ _ (a0b (by omega)) (a0b h1) (a0b h2)
theorem Rep.inj {G G':Addr -> Prop} {H:Hp} {v:V} {x:PV} (r:Rep G H v x):∀ {y:PV},Rep G' H v y -> x = y:=by
 induction r with
 | non=>intro y q;cases q;rfl
 | bl b=>intro y q;cases q;rfl
 | int i=>intro y q;cases q;rfl
 | str x=>intro y q;cases q;rfl
 | ty n=>intro y q;cases q;rfl
 | set e =>
  intro y q
  cases q with
  | set e'=>rw [e] at e';cases e';rfl
  | lst g' e' l' h'=>rw [e] at e';cases e'
  | tup e' l' h'=>rw [e] at e';cases e'
  | dic g' e' l1 l' h'=>rw [e] at e';cases e'
 | lst g e l _ ih =>
  intro y q
  cases q with
  | lst g' e' l' h' =>
   rw [e] at e';cases e'
   rw [ext_rep (P:=λ_ _ _=>True) l l' λi v x y e1 e2 e3=>ih i v x e1 e2 (h' i v y e1 e3)]
  | tup e' l' h'=>rw [e] at e';cases e'
  | set e'=>rw [e] at e';cases e'
  | dic g' e' l1 l' h'=>rw [e] at e';cases e'
 | tup e l _ ih =>
  intro y q
  cases q with
  | lst g' e' l' h'=>rw [e] at e';cases e'
  | set e'=>rw [e] at e';cases e'
  | dic g' e' l1 l' h'=>rw [e] at e';cases e'
  | tup e' l' h' =>
   rw [e] at e';cases e'
   rw [ext_rep (P:=λ_ _ _=>True) l l' λi v x y e1 e2 e3=>ih i v x e1 e2 (h' i v y e1 e3)]
 | @dic a ks vs xs g e l1 l _ ih =>
  intro y q
  cases q with
  | lst g' e' l' h'=>rw [e] at e';cases e'
  | set e'=>rw [e] at e';cases e'
  | tup e' l' h'=>rw [e] at e';cases e'
  | @dic _ ks2 vs2 xs2 g' e' l1' l' h' =>
   rw [e] at e'
   have e2:ks.zip vs = ks2.zip vs2:=by injection e' with e';injection e'
   have hk:ks = ks2:=by
    have:=congrArg (List.map Prod.fst) e2
    rwa [List.map_fst_zip (by omega),List.map_fst_zip (by omega)] at this
   have hv:vs = vs2:=by
    have:=congrArg (List.map Prod.snd) e2
    rwa [List.map_snd_zip (by omega),List.map_snd_zip (by omega)] at this
   subst hk hv
   rw [ext_rep (P:=λ_ _ _=>True) l l' λi v x y e1 e2 e3=>ih i v x e1 e2 (h' i v y e1 e3)]
open Classical in
noncomputable def PV.eqB (x y:PV):Bool:=decide (x.norm = y.norm)
open Classical in
theorem eqB_of {x y:PV} {b:Bool} (h:b = true ↔ x.norm = y.norm):x.eqB y = b:=by
 unfold PV.eqB
 cases b with
 | true=>exact decide_eq_true (h.mp rfl)
 | false=>exact decide_eq_false λz=>by have:=h.mpr z;cases this
theorem eqB_self (x:PV):x.eqB x = true:=eqB_of (by simp)
open Classical in
theorem eqB_iff {x y:PV}:x.eqB y = true ↔ x.norm = y.norm:=by unfold PV.eqB;exact decide_eq_true_iff
section
variable {X:Cx} {pins:List (Addr × Obj)} {σ:St} {H:Hp} {s:Shared}
theorem eqB_ii (i j:Int):(PV.int i).eqB (.int j) = (i == j):=eqB_of (by rw [beq_iff_eq,PV.norm,PV.norm];exact ⟨λh=>by rw [h],λh=>by injection h⟩)
theorem eqB_ss (i j:Str):(PV.str i).eqB (.str j) = (i == j):=eqB_of (by rw [beq_iff_eq,PV.norm,PV.norm];exact ⟨λh=>by rw [h],λh=>by injection h⟩)
theorem eqB_bb (i j:Bool):(PV.bl i).eqB (.bl j) = (i == j):=eqB_of (by rw [PV.norm,PV.norm];cases i <;> cases j <;> simp)
theorem eqB_bi (i:Bool) (j:Int):(PV.bl i).eqB (.int j) = ((if i then 1 else 0) == j):=eqB_of (by rw [beq_iff_eq,PV.norm,PV.norm];exact ⟨λh=>by rw [h],λh=>by injection h⟩)
theorem eqB_ib (i:Int) (j:Bool):(PV.int i).eqB (.bl j) = (i == (if j then 1 else 0)):=eqB_of (by rw [beq_iff_eq,PV.norm,PV.norm];exact ⟨λh=>by rw [h],λh=>by injection h⟩)
theorem eqB_ne {x y:PV} (h:x.norm ≠ y.norm):x.eqB y = false:=eqB_of (Iff.intro (λz=>Bool.noConfusion z) (λz=>absurd z h))
theorem eqB_lists {xs ys:List PV} {n:Nat} (h1:xs.length = n) (h2:ys.length = n):(PV.lst xs).eqB (.lst ys) = (List.range n).all λj=>(xs.getD j .non).eqB (ys.getD j .non):=by
 refine eqB_of ?_
 rw [PV.norm,PV.norm,PV.norms_map,PV.norms_map,List.all_eq_true]
 constructor
 ·intro h
  congr 1
  refine List.ext_getElem (by simp [h1,h2]) λi a b=>?_
  have hi:i < n:=by simpa [h1] using a
  have:=eqB_iff.mp (h i (List.mem_range.mpr hi))
  rw [a0g,a0g,a0b (by omega),a0b (by omega)] at this
  simpa using this
 ·intro h j hj
  injection h with h
  have hj:=List.mem_range.mp hj
  refine eqB_iff.mpr ?_
  rw [a0g,a0g,a0b (by omega),a0b (by omega)]
  have e:=congrArg (λl=>l[j]?) h
  simp only [a0h] at e
  rw [a0b (by omega),a0b (by omega)] at e
  simpa using e
theorem eqB_tup_lst {xs ys:List PV}:(PV.tup xs).eqB (.tup ys) = (PV.lst xs).eqB (.lst ys):=by
 refine eqB_of ?_
 rw [eqB_iff,PV.norm,PV.norm,PV.norm,PV.norm]
 exact ⟨λh=>by injection h with h;rw [h],λh=>by injection h with h;rw [h]⟩
theorem eqB_len {xs ys:List PV} (h:xs.length ≠ ys.length):(PV.lst xs).eqB (.lst ys) = false:=eqB_ne (by
 rw [PV.norm,PV.norm,PV.norms_map,PV.norms_map]
 intro z;injection z with z
 have:=congrArg List.length z
 simp at this;exact h this)
theorem Inv.listR {a:Addr} {vs:List V} (I:Inv X pins σ H s) (h:H a = some (.lst vs)):∃ its:List Value,aU vs its /\ s.heap.IsList a its.toArray /\ vs.length <= sizeLine:=by
 obtain ⟨its,v,⟨o,n,g,c,d,e⟩,l⟩:=I.list (a:=a) (xs:=vs) (cT.of h)
 exact ⟨its,v,⟨o,g,c,n,e⟩,l⟩
theorem toArr_get {its:List Value} {j:Nat} {u:Value} (e:its[j]? = some u) (h:j < its.toArray.size):its.toArray[j] = u:=by
 have:=(a0i.mp e).2
 simpa using this
theorem eqAt_rep (I:Inv X pins σ H s):∀ (n:Nat),n < 900 -> ∀ {A:Around} {G G':Addr -> Prop} {x y:V} {u v:Value} {px py:PV},Rep G H x px -> Rep G' H y py -> b7 x u -> b7 y v -> px.dep <= n -> A.units + n < cLine -> py.dep < 1000 -> SeqAt.EqAt A s u v (px.eqB py):=by
 intro n
 induction n with
 | zero =>
  intro hn A G G' x y u v px py rx ry ru rv hd hu hy
  cases rx with
  | non=>cases ru;cases ry with
   | non=>cases rv;rw [eqB_self];exact .same _
   | bl b=>cases rv;rw [eqB_ne (by simp [PV.norm])];exact .none_bool _
   | int i=>obtain ⟨t,rfl⟩:=rv;rw [eqB_ne (by simp [PV.norm])];exact .none_int _ _
   | str z=>obtain ⟨t,rfl⟩:=rv;rw [eqB_ne (by simp [PV.norm])];exact .none_str _ _
   | ty z=>rw [PV.dep] at hy;omega
   | set z=>rw [PV.dep] at hy;omega
   | dic z1 z2 z3 z4 z5=>rw [PV.dep] at hy;omega
   | lst g e l h=>cases rv;rw [eqB_ne (by simp [PV.norm])];obtain ⟨_,_,hl,_⟩:=I.listR e;exact .none_list hl (by omega)
   | tup e l h=>cases rv;rw [eqB_ne (by simp [PV.norm])];obtain ⟨_,_,hl,_⟩:=I.tuple (iM.of e);exact .none_tuple hl (by omega)
  | bl b=>cases ru;cases ry with
   | non=>cases rv;rw [eqB_ne (by simp [PV.norm])];exact .bool_none _
   | bl c=>cases rv;rw [eqB_bb];exact .bool_bool _ _
   | int i=>obtain ⟨t,rfl⟩:=rv;rw [eqB_bi];exact .bool_int _ _ _
   | str z=>obtain ⟨t,rfl⟩:=rv;rw [eqB_ne (by simp [PV.norm])];exact .bool_str _ _ _
   | ty z=>rw [PV.dep] at hy;omega
   | set z=>rw [PV.dep] at hy;omega
   | dic z1 z2 z3 z4 z5=>rw [PV.dep] at hy;omega
   | lst g e l h=>cases rv;rw [eqB_ne (by simp [PV.norm])];obtain ⟨_,_,hl,_⟩:=I.listR e;exact .bool_list _ hl (by omega)
   | tup e l h=>cases rv;rw [eqB_ne (by simp [PV.norm])];obtain ⟨_,_,hl,_⟩:=I.tuple (iM.of e);exact .bool_tuple _ hl (by omega)
  | int i=>obtain ⟨t0,rfl⟩:=ru;cases ry with
   | non=>cases rv;rw [eqB_ne (by simp [PV.norm])];exact .int_none _ _
   | bl c=>cases rv;rw [eqB_ib];exact .int_bool _ _ _
   | int i=>obtain ⟨t,rfl⟩:=rv;rw [eqB_ii];exact .int_int _ _ _ _
   | str z=>obtain ⟨t,rfl⟩:=rv;rw [eqB_ne (by simp [PV.norm])];exact .int_str _ _ _ _
   | ty z=>rw [PV.dep] at hy;omega
   | set z=>rw [PV.dep] at hy;omega
   | dic z1 z2 z3 z4 z5=>rw [PV.dep] at hy;omega
   | lst g e l h=>cases rv;rw [eqB_ne (by simp [PV.norm])];obtain ⟨_,_,hl,_⟩:=I.listR e;exact .int_list _ _ hl (by omega)
   | tup e l h=>cases rv;rw [eqB_ne (by simp [PV.norm])];obtain ⟨_,_,hl,_⟩:=I.tuple (iM.of e);exact .int_tuple _ _ hl (by omega)
  | str z0=>obtain ⟨t0,rfl⟩:=ru;cases ry with
   | non=>cases rv;rw [eqB_ne (by simp [PV.norm])];exact .str_none _ _
   | bl c=>cases rv;rw [eqB_ne (by simp [PV.norm])];exact .str_bool _ _ _
   | int i=>obtain ⟨t,rfl⟩:=rv;rw [eqB_ne (by simp [PV.norm])];exact .str_int _ _ _ _
   | str z=>obtain ⟨t,rfl⟩:=rv;rw [eqB_ss];exact .str_str _ _ _ _
   | ty z=>rw [PV.dep] at hy;omega
   | set z=>rw [PV.dep] at hy;omega
   | dic z1 z2 z3 z4 z5=>rw [PV.dep] at hy;omega
   | lst g e l h=>cases rv;rw [eqB_ne (by simp [PV.norm])];obtain ⟨_,_,hl,_⟩:=I.listR e;exact .str_list _ _ hl (by omega)
   | tup e l h=>cases rv;rw [eqB_ne (by simp [PV.norm])];obtain ⟨_,_,hl,_⟩:=I.tuple (iM.of e);exact .str_tuple _ _ hl (by omega)
  | ty z=>rw [PV.dep] at hd;omega
  | set z=>rw [PV.dep] at hd;omega
  | dic z1 z2 z3 z4 z5=>rw [PV.dep] at hd;omega
  | lst=>rw [PV.dep] at hd;omega
  | tup=>rw [PV.dep] at hd;omega
 | succ n ih =>
  intro hn A G G' x y u v px py rx ry ru rv hd hu hy
  have down:px.dep <= n -> SeqAt.EqAt A s u v (px.eqB py):=λh=>ih (by omega) rx ry ru rv h (by omega) hy
  cases hx:rx with
  | non=>exact down (by rw [PV.dep];omega)
  | bl b=>exact down (by rw [PV.dep];omega)
  | int i=>exact down (by rw [PV.dep];omega)
  | str z=>exact down (by rw [PV.dep];omega)
  | ty z=>rw [PV.dep] at hd;omega
  | set z=>rw [PV.dep] at hd;omega
  | dic z1 z2 z3 z4 z5=>rw [PV.dep] at hd;omega
  | @lst a vs xs g e l h =>
   cases ru
   cases hyy:ry with
   | non=>cases rv;rw [eqB_ne (by simp [PV.norm])];obtain ⟨_,_,hl,_⟩:=I.listR e;exact .list_none hl (by omega)
   | bl b=>cases rv;rw [eqB_ne (by simp [PV.norm])];obtain ⟨_,_,hl,_⟩:=I.listR e;exact .list_bool _ hl (by omega)
   | int i=>obtain ⟨t,rfl⟩:=rv;rw [eqB_ne (by simp [PV.norm])];obtain ⟨_,_,hl,_⟩:=I.listR e;exact .list_int _ _ hl (by omega)
   | str z=>obtain ⟨t,rfl⟩:=rv;rw [eqB_ne (by simp [PV.norm])];obtain ⟨_,_,hl,_⟩:=I.listR e;exact .list_str _ _ hl (by omega)
   | ty z=>rw [PV.dep] at hy;omega
   | set z=>rw [PV.dep] at hy;omega
   | dic z1 z2 z3 z4 z5=>rw [PV.dep] at hy;omega
   | tup e' l' h'=>cases rv;rw [eqB_ne (by simp [PV.norm])];obtain ⟨_,_,hl,_⟩:=I.listR e;obtain ⟨_,_,hl2,_⟩:=I.tuple (iM.of e');exact .list_tuple hl hl2 (by omega)
   | @lst b vs' ys g' e' l' h' =>
    cases rv
    by_cases hab:a = b
    ·subst hab
     rw [rx.inj ry,eqB_self];exact .same _
    ·obtain ⟨i1,v1,hl1,_⟩:=I.listR e
     obtain ⟨i2,v2,hl2,_⟩:=I.listR e'
     have n1:=v1.length
     have n2:=v2.length
     by_cases hlen:xs.length = ys.length
     ·rw [eqB_lists (n:=i1.toArray.size) (by simp;omega) (by simp;omega)]
      refine .of_refs hab (SeqAt.RcAt.lists hl1 hl2 (by simp;omega) (by omega) λj h1 h2=>?_)
      have j1:j < i1.length:=by simpa using h1
      have j2:j < i2.length:=by simpa using h2
      obtain ⟨u1,eu,ru1⟩:=v1.get (a0b (l:=vs) (i:=j) (by omega))
      obtain ⟨u2,ev,ru2⟩:=v2.get (a0b (l:=vs') (i:=j) (by omega))
      rw [toArr_get eu h1,toArr_get ev h2,a0g,a0g,a0b (l:=xs) (by omega),a0b (l:=ys) (by omega)]
      refine ih (by omega) (A:=A.in1) (h j _ _ (a0b (by omega)) (a0b (by omega))) (h' j _ _ (a0b (by omega)) (a0b (by omega))) ru1 ru2 ?_ (by show A.units + 1 + n < cLine;omega) ?_
      ·rw [PV.dep] at hd
       exact Nat.le_trans (PV.deps_le (List.getElem_mem _)) (by omega)
      ·rw [PV.dep] at hy
       exact Nat.lt_of_le_of_lt (PV.deps_le (List.getElem_mem _)) (by omega)
     ·rw [eqB_len hlen]
      refine .of_refs hab (SeqAt.RcAt.lists_lengths hl1 hl2 ?_ (by omega))
      simp;omega
  | @tup a vs xs e l h =>
   cases ru
   cases hyy:ry with
   | non=>cases rv;rw [eqB_ne (by simp [PV.norm])];obtain ⟨_,_,hl,_⟩:=I.tuple (iM.of e);exact .tuple_none hl (by omega)
   | bl b=>cases rv;rw [eqB_ne (by simp [PV.norm])];obtain ⟨_,_,hl,_⟩:=I.tuple (iM.of e);exact .tuple_bool _ hl (by omega)
   | int i=>obtain ⟨t,rfl⟩:=rv;rw [eqB_ne (by simp [PV.norm])];obtain ⟨_,_,hl,_⟩:=I.tuple (iM.of e);exact .tuple_int _ _ hl (by omega)
   | str z=>obtain ⟨t,rfl⟩:=rv;rw [eqB_ne (by simp [PV.norm])];obtain ⟨_,_,hl,_⟩:=I.tuple (iM.of e);exact .tuple_str _ _ hl (by omega)
   | ty z=>rw [PV.dep] at hy;omega
   | set z=>rw [PV.dep] at hy;omega
   | dic z1 z2 z3 z4 z5=>rw [PV.dep] at hy;omega
   | lst g' e' l' h'=>cases rv;rw [eqB_ne (by simp [PV.norm])];obtain ⟨_,_,hl,_⟩:=I.tuple (iM.of e);obtain ⟨_,_,hl2,_⟩:=I.listR e';exact .tuple_list hl hl2 (by omega)
   | @tup b vs' ys e' l' h' =>
    cases rv
    by_cases hab:a = b
    ·subst hab
     rw [rx.inj ry,eqB_self];exact .same _
    ·obtain ⟨i1,v1,hl1,_⟩:=I.tuple (iM.of e)
     obtain ⟨i2,v2,hl2,_⟩:=I.tuple (iM.of e')
     have n1:=v1.length
     have n2:=v2.length
     have go:=SeqAt.RcAt.tuples (A:=A) (e:=λj=>(xs.getD j .non).eqB (ys.getD j .non)) hl1 hl2 (by omega) (λj h1 h2=>by
      have j1:j < i1.length:=by simpa using h1
      have j2:j < i2.length:=by simpa using h2
      obtain ⟨u1,eu,ru1⟩:=v1.get (a0b (l:=vs) (i:=j) (by omega))
      obtain ⟨u2,ev,ru2⟩:=v2.get (a0b (l:=vs') (i:=j) (by omega))
      rw [toArr_get eu h1,toArr_get ev h2,a0g,a0g,a0b (l:=xs) (by omega),a0b (l:=ys) (by omega)]
      refine ih (by omega) (A:=A.in1) (h j _ _ (a0b (by omega)) (a0b (by omega))) (h' j _ _ (a0b (by omega)) (a0b (by omega))) ru1 ru2 ?_ (by show A.units + 1 + n < cLine;omega) ?_
      ·rw [PV.dep] at hd
       exact Nat.le_trans (PV.deps_le (List.getElem_mem _)) (by omega)
      ·rw [PV.dep] at hy
       exact Nat.lt_of_le_of_lt (PV.deps_le (List.getElem_mem _)) (by omega))
     refine .of_refs hab ?_
     rw [eqB_tup_lst]
     by_cases hlen:xs.length = ys.length
     ·rw [eqB_lists (n:=i1.toArray.size) (by simp;omega) (by simp;omega)]
      rw [show min i1.toArray.size i2.toArray.size = i1.toArray.size by simp;omega,show (i1.toArray.size == i2.toArray.size) = true by simp;omega,Bool.and_true] at go
      exact go
     ·rw [eqB_len hlen]
      rw [show (i1.toArray.size == i2.toArray.size) = false by simp;omega,Bool.and_false] at go
      exact go
end
section
variable {X:Cx} {pins:List (Addr × Obj)} {σ:St} {H:Hp} {s:Shared}
def VM (neg:Bool):R2:=λx y H Q=>∃ G G' px ys,Rep G H x px /\ (Rep G' H y (.lst ys) \/ Rep G' H y (.tup ys)) /\ px.dep < 1000 /\ PV.deps ys <= 60 /\ Q (.bl (if neg then !ys.any (λz=>z.eqB px) else ys.any λz=>z.eqB px)) H
theorem MO {vs:List V} {its:List Value} {ys:List PV} {px:PV} {G:Addr -> Prop} (v:aU vs its) (r:Reps G H vs ys) {e:Value -> Bool} (he:∀ (j:Nat) (y:PV) (u:Value),ys[j]? = some y -> its[j]? = some u -> e u = y.eqB px):its.toArray.any e = ys.any λz=>z.eqB px:=by
 have n1:=v.length
 have n2:=r.len
 rw [List.any_toArray]
 rw [Bool.eq_iff_iff,List.any_eq_true,List.any_eq_true]
 constructor
 ·rintro ⟨u,hu,h⟩
  obtain ⟨j,hj,rfl⟩:=List.getElem_of_mem hu
  refine ⟨ys[j]'(by omega),List.getElem_mem _,?_⟩
  rw [<- he j _ _ (a0b (by omega)) (a0b hj)];exact h
 ·rintro ⟨y,hy,h⟩
  obtain ⟨j,hj,rfl⟩:=List.getElem_of_mem hy
  refine ⟨its[j]'(by omega),List.getElem_mem _,?_⟩
  rw [he j _ _ (a0b hj) (a0b (by omega))];exact h
open Classical in
theorem QZ {A:Around} {G G':Addr -> Prop} {vs:List V} {its:List Value} {ys:List PV} {px:PV} {x:V} {u:Value} (I:Inv X pins σ H s) (v:aU vs its) (r:Reps G H vs ys) (rx:Rep G' H x px) (ru:b7 x u) (hd:px.dep < 1000) (hds:PV.deps ys <= 60) (hu:A.units + 60 < cLine) :
  ∃ e:Value -> Bool,(∀ y,y ∈ its.toArray -> SeqAt.EqAt A s y u (e y)) /\ its.toArray.any e = ys.any λz=>z.eqB px:=by
 have n1:=v.length
 have n2:=r.len
 have ex:∀ w,w ∈ its -> ∃ b,SeqAt.EqAt A s w u b /\ ∀ (j:Nat) (y:PV),ys[j]? = some y -> its[j]? = some w -> b = y.eqB px:=by
  intro w hw
  obtain ⟨j,hj,rfl⟩:=List.getElem_of_mem hw
  obtain ⟨w1,e1,r1⟩:=v.get (a0b (l:=vs) (i:=j) (by omega))
  rw [a0b hj] at e1;cases e1
  have ry:=r.at_ j _ _ (a0b (by omega)) (a0b (l:=ys) (by omega))
  refine ⟨(ys[j]'(by omega)).eqB px,eqAt_rep I 60 (by omega) ry rx r1 ru (Nat.le_trans (PV.deps_le (List.getElem_mem _)) hds) hu hd,λk y e1 e2=>?_⟩
  obtain ⟨w2,e3,r3⟩:=v.get (a0b (l:=vs) (i:=k) (by have:=(a0i.mp e1).1;omega))
  rw [e2] at e3;cases e3
  have:=r1.inj r3
  have rk:=r.at_ k _ _ (a0b (by have:=(a0i.mp e1).1;omega)) e1
  rw [<- this] at rk
  rw [ry.inj rk]
 refine ⟨λw=>if h:w ∈ its then (ex w h).choose else false,λy hy=>?_,MO v r λj y w e1 e2=>?_⟩
 ·have hy':y ∈ its:=by simpa using hy
  dsimp only
  rw [dif_pos hy']
  exact (ex y hy').choose_spec.1
 ·have hw:=List.mem_of_getElem? e2
  rw [dif_pos hw]
  exact (ex w hw).choose_spec.2 j y e1 e2
theorem UK (hu:X.A.units + 61 < cLine):mB X (compareOp .In) (VM false):=by
 intro pins s σ H x y v u Q I rx ry h
 obtain ⟨G,G',px,ys,r1,r2,d1,d2,q⟩:=h
 rw [if_neg (by decide)] at q
 rcases r2 with r2 | r2
 ·obtain ⟨a,vs,rfl,g,e,rs⟩:=r2.ofList
  cases ry
  obtain ⟨its,vv,hl,_⟩:=I.listR e
  obtain ⟨f,h1,h2⟩:=QZ (A:=X.A.in1) I vv rs r1 rx d1 d2 (by show X.A.units + 1 + 60 < cLine;omega)
  exact SeqAt.in_listAt f hl h1 (by rw [h2];exact ⟨.bl _,H,I,rfl,q⟩)
 ·obtain ⟨a,vs,rfl,e,rs⟩:=r2.ofTup
  cases ry
  obtain ⟨its,vv,hl,_⟩:=I.tuple (iM.of e)
  obtain ⟨f,h1,h2⟩:=QZ (A:=X.A.in1) I vv rs r1 rx d1 d2 (by show X.A.units + 1 + 60 < cLine;omega)
  exact SeqAt.in_tupleAt f hl h1 (by rw [h2];exact ⟨.bl _,H,I,rfl,q⟩)
end
theorem P4 {X:Cx} (hu:X.A.units + 64 < cLine):QOp X (compareOp .In) (VM false):=⟨UK (by omega)⟩
abbrev l8 {α:Type}:List α -> Nat -> Option α
 | [],_=>none
 | a :: _,0=>some a
 | _ :: l,n + 1=>l8 l n
theorem j7 {α:Type}:∀ (l:List α) (i:Nat),l8 l i = l[i]?
 | [],_=>by simp [l8]
 | a :: l,0=>by simp [l8]
 | a :: l,i + 1=>by simp [l8,j7 l i]
abbrev gH {α:Type}:List α -> Nat -> α -> List α
 | [],_,_=>[]
 | _ :: l,0,b=>b :: l
 | a :: l,n + 1,b=>a :: gH l n b
theorem d9 {α:Type}:∀ (l:List α) (i:Nat) (b:α),gH l i b = l.set i b
 | [],_,_=>by simp [gH]
 | a :: l,0,b=>by simp [gH]
 | a :: l,i + 1,b=>by simp [gH,d9 l i b]
abbrev aQ:=b6 -> (PV -> Prop) -> Prop
abbrev dX:=b6 -> (Bool -> Prop) -> Prop
abbrev kP:=b6 -> (List PV -> Prop) -> Prop
abbrev P2:=PV -> PV -> (PV -> Prop) -> Prop
abbrev PN:=List PV -> (PV -> Prop) -> Prop
def Br (b:Bool) (x y:Prop):Prop:=match b with
 | true=>x
 | false=>y
theorem WX {b:Bool} {x y:Prop} (h1:b = true -> x) (h2:b = false -> y):Br b x y:=by
 cases b with
 | true=>exact h1 rfl
 | false=>exact h2 rfl
def pC (x:PV):aQ:=λ_ Q=>Q x
def pVar (i:Nat):aQ:=λenv Q=>match l8 env i with
 | some (some x)=>Q x
 | _=>False
def pOp (r:P2) (a b:aQ):aQ:=λenv Q=>a env λx=>b env λy=>r x y Q
def pUn (r:PV -> (PV -> Prop) -> Prop) (a:aQ):aQ:=λenv Q=>a env λx=>r x Q
def pNil:kP:=λ_ Q=>Q []
def pCons (a:aQ) (r:kP):kP:=λenv Q=>a env λx=>r env λxs=>Q (x :: xs)
def pCl (r:PN) (a:kP):aQ:=λenv Q=>a env λxs=>r xs Q
def pBo (a:aQ):dX:=λenv Q=>a env λx=>match x with
 | .bl b=>Q b
 | _=>False
def pAnd (a b:dX):dX:=λenv Q=>a env λk=>Br k (b env Q) (Q false)
def pOr (a b:dX):dX:=λenv Q=>a env λk=>Br k (Q true) (b env Q)
def pNot (a:dX):dX:=λenv Q=>a env λk=>Q (!k)
def pChain (r r':P2) (a b c:aQ):aQ:=λenv Q=>a env λx=>b env λy=>r x y λz=>match z with
 | .bl k=>Br k (c env λw=>r' y w Q) (Q (.bl false))
 | _=>False
def pFlat (a:aQ):aQ:=λenv Q=>a env λx=>x.flat = true /\ Q x
def i8 (B:Hp) (W:Wd) (H:Hp) (m:Md) (Q:PV -> Prop) (K:VK):Prop:=∀ (x:PV) (v:V) (W':Wd) (H':Hp),Go W H W' H' -> ResE B H W' H' m v x -> Q x -> K v H'
def dQ (K':PySem.W.Frag) (md:List Md) (m:Md) (p:aQ):TE:=λσ H K=>∃ (env:b6) (W0:Wd) (H0:Hp) (W:Wd) (Q:PV -> Prop),Rl K' md W0 H0 W σ env H /\ p env Q /\ i8 H0 W H m Q K
def oW (K':PySem.W.Frag) (md:List Md) (p:dX):TT:=λσ H K=>∃ (env:b6) (W0:Wd) (H0:Hp) (W:Wd) (Q:Bool -> Prop),Rl K' md W0 H0 W σ env H /\ p env Q /\ ∀ (b:Bool) (W':Wd) (H':Hp),Go W H W' H' -> Q b -> K b H'
inductive ResEs (B H:Hp) (W':Wd) (H':Hp):List Md -> List V -> List PV -> Prop where
 | nil:ResEs B H W' H' [] [] []
 | cons {m:Md} {v:V} {x:PV} {ms:List Md} {vs:List V} {xs:List PV}:ResE B H W' H' m v x -> ResEs B H W' H' ms vs xs -> ResEs B H W' H' (m :: ms) (v :: vs) (x :: xs)
def X2 (B:Hp) (W:Wd) (H:Hp) (ms:List Md) (Q:List PV -> Prop) (K:List V -> Hp -> Prop):Prop:=∀ (xs:List PV) (vs:List V) (W':Wd) (H':Hp),Go W H W' H' -> ResEs B H W' H' ms vs xs -> Q xs -> K vs H'
def R7 (K':PySem.W.Frag) (md:List Md) (ms:List Md) (p:kP):TA:=λσ H K=>∃ (env:b6) (W0:Wd) (H0:Hp) (W:Wd) (Q:List PV -> Prop),Rl K' md W0 H0 W σ env H /\ p env Q /\ X2 H0 W H ms Q K
structure VE (X:Cx) (md:List Md) (e:Expr) (m:Md) (p:aQ):Prop where
 h:PE X e (dQ X.K md m p)
structure VT (X:Cx) (md:List Md) (e:Expr) (p:dX):Prop where
 h:PT X e (oW X.K md p)
structure VW (X:Cx) (md:List Md) (e:Expr) (p:dX):Prop where
 h:PW X e (oW X.K md p)
structure VA (X:Cx) (md:List Md) (es:List Expr) (ms:List Md) (p:kP):Prop where
 h:PA X es (R7 X.K md ms p)
section
variable {X:Cx} {e:Expr} {es:List Expr} {t t':TE}
theorem PE.imp (h:PE X e t) (k:∀ σ H K,t' σ H K -> t σ H K):PE X e t':=λpins s σ H Q I q=>h pins s σ H Q I (k σ H Q q)
theorem PT.imp {t t':TT} (h:PT X e t) (k:∀ σ H K,t' σ H K -> t σ H K):PT X e t':=λpins s σ H Q I q=>h pins s σ H Q I (k σ H Q q)
theorem PW.imp {t t':TT} (h:PW X e t) (k:∀ σ H K,t' σ H K -> t σ H K):PW X e t':=λwh pins s σ H Q I q=>h wh pins s σ H Q I (k σ H Q q)
theorem PA.imp {t t':TA} (h:PA X es t) (k:∀ σ H K,t' σ H K -> t σ H K):PA X es t':=λpos pins s σ H Q I q=>h pos pins s σ H Q I (k σ H Q q)
end
section
variable {W W1 W2:Wd} {B H H1 H2:Hp} {m:Md} {el:El} {Q:PV -> Prop} {K:VK}
theorem i8.after (k:i8 B W H m Q K) (g:Go W H W1 H1):i8 B W1 H1 m Q K:=λx v W' H' g' r q=>k x v W' H' (g.trans g') (ResE.base g r) q
theorem ResEs.base {ms:List Md} {vs:List V} {xs:List PV} (g:Go W H W1 H1) (r:ResEs B H1 W2 H2 ms vs xs):ResEs B H W2 H2 ms vs xs:=by
 induction r with
 | nil=>exact .nil
 | cons h _ ih=>exact .cons (ResE.base g h) ih
theorem ResEs.go {ms:List Md} {vs:List V} {xs:List PV} (r:ResEs B H W1 H1 ms vs xs) (w:Wok W1 H1) (g:Go W1 H1 W2 H2):ResEs B H W2 H2 ms vs xs:=by
 induction r with
 | nil=>exact .nil
 | cons h _ ih=>exact .cons (h.go w g) ih
theorem i8.atom (k:i8 B W H (.v .fl) Q K) (w:Wok W H) {v:V} {x:PV} (r:Rep (λ_=>False) H v x) (q:Q x):K v H:=k x v W H (Go.refl w) r q
theorem i8.val (k:i8 B W H (.v el) Q K) (w:Wok W H) {v:V} {x:PV} (r:Rep (el.G W.F B) H v x) (q:Q x):K v H:=k x v W H (Go.refl w) r q
theorem Go.laid (w:Wok W H) {p:Addr} {o:HO} (h:H p = none):Go W H W (bD H p o) where
 lF:=λ_ h=>h
 lS:=λ_ h=>h
 nF:=λ_ h=>.inl h
 nS:=λ_ h=>.inl h
 kp:=λa u e _=>by rw [aE (cO e h)];exact e
 ok:=⟨λa f=>by obtain ⟨u,e⟩:=w.fF a f;exact ⟨u,by rw [aE (cO e h)];exact e⟩,λa f=>by
  obtain ⟨x1,x2,x3,e,z⟩:=w.sS a f
  exact ⟨x1,x2,x3,by rw [aE (cO e h)];exact e,z⟩,w.dj⟩
 kk:=rfl
 kl:=rfl
theorem Wok.offF (w:Wok W H) {p:Addr} (h:H p = none) (f:W.F p):False:=by
 obtain ⟨o,e⟩:=w.fF p f
 rw [h] at e;cases e
theorem Wok.offS (w:Wok W H) {p:Addr} (h:H p = none) (f:W.S p):False:=by
 obtain ⟨_,_,_,e,_⟩:=w.sS p f
 rw [h] at e;cases e
theorem i8.newB (k:i8 B W H (.o el) Q K) (w:Wok W H) {o:HO} {x:PV} {p:Addr} (h:H p = none) (r:Body (el.G W.F B) H o x) (q:Q x):K (.ref p) (bD H p o) :=
 k x (.ref p) W _ (Go.laid w h) ⟨p,o,rfl,h,λf=>w.offF h f,λf=>w.offS h f,b5,(Go.laid w h).body w (λ_ g=>El.nS w g) (λ_ g=>g) r⟩ q
theorem i8.newL (k:i8 B W H (.o el) Q K) (w:Wok W H) {vs:List V} {xs:List PV} {p:Addr} (h:H p = none) (r:Reps (el.G W.F B) H vs xs) (q:Q (.lst xs)):K (.ref p) (bD H p (.lst vs)):=k.newB w h (.lst r) q
theorem i8.newT (k:i8 B W H (.v el) Q K) (w:Wok W H) {vs:List V} {xs:List PV} {p:Addr} (h:H p = none) (r:Reps (el.G W.F B) H vs xs) (q:Q (.tup xs)):K (.ref p) (bD H p (.tup vs)) :=
 k (.tup xs) (.ref p) W _ (Go.laid w h) (.tup b5 r.len ((Go.laid w h).reps w (λ_ g=>El.nS w g) (λ_ g=>g) r).at_) q
end
section
variable {X:Cx} {md:List Md} {a b c e:Expr} {es:List Expr} {pa pb pc pe:aQ} {m:Md} {el:El} {pos p:Pos}
theorem d6 {n:Md} (h:VE X md e m pe) (hm:m.le n = true):VE X md e n pe:=⟨h.h.imp λσ H K=>by
 rintro ⟨env,W0,H0,W,Q,R,q,k⟩
 exact ⟨env,W0,H0,W,Q,R,q,λx v W' H' g r z=>k x v W' H' g (r.le g.ok hm) z⟩⟩
theorem i7 (h:VE X md e (.o el) pe):VE X md e (.z el) pe:=⟨h.h.imp λσ H K=>by
 rintro ⟨env,W0,H0,W,Q,R,q,k⟩
 refine ⟨env,W0,H0,W,Q,R,q,λx v W' H' g r z=>?_⟩
 obtain ⟨W2,g2,r2⟩:=R.go.freeze g r
 exact k x v W2 H' g2 r2 z⟩
theorem nM (h:VE X md e .bw pe):VE X md e (.v .fl) (pFlat pe):=⟨h.h.imp λσ H K=>by
 rintro ⟨env,W0,H0,W,Q,R,q,k⟩
 exact ⟨env,W0,H0,W,λx=>x.flat = true /\ Q x,R,q,λx v W' H' g r z=>k x v W' H' g (Rep.flat r z.1) z.2⟩⟩
def pFlatL (a:aQ):aQ:=λenv Q=>a env λx=>match x with
 | .lst xs=>PV.flats xs = true /\ Q (.lst xs)
 | _=>False
theorem nN (h:VE X md e (.o el) pe):VE X md e (.o .fl) (pFlatL pe):=⟨h.h.imp λσ H K=>by
 rintro ⟨env,W0,H0,W,Q,R,q,k⟩
 refine ⟨env,W0,H0,W,_,R,q,λx v W' H' g r z=>?_⟩
 cases x with
 | lst xs =>
  obtain ⟨a,o,rfl,h1,h2,h3,h4,h5⟩:=r
  cases h5 with
  | lst h5=>exact k _ _ W' H' g ⟨a,_,rfl,h1,h2,h3,h4,.lst (flats_reps h5 z.1)⟩ z.2
 | _=>exact z.elim⟩
theorem pZ {v:V} {x:PV} (h:QE X e (tC v)) (hr:∀ H,Rep (λ_=>False) H v x):VE X md e (.v .fl) (pC x):=⟨h.h.imp λσ H K=>by
 rintro ⟨env,W0,H0,W,Q,R,q,k⟩
 exact k.atom R.ok (hr H) q⟩
theorem aB {i j pos}:VE X md (.Constant (.int i) j pos) (.v .fl) (pC (.int i)):=pZ aY λ_=>.int _
theorem iJ {b j pos}:VE X md (.Constant (.bool b) j pos) (.v .fl) (pC (.bl b)):=pZ YT λ_=>.bl _
theorem jE {j pos}:VE X md (.Constant .none j pos) (.v .fl) (pC .non):=pZ VF λ_=>.non
theorem M3 {x j pos}:VE X md (.Constant (.str x) j pos) (.v .fl) (pC (.str x)):=pZ VH λ_=>.str _
theorem aR {i:Nat} (h:QE X e (dU i)) (hm:(md.getD i .no) = m) (hl:m.own = false):VE X md e m (pVar i):=⟨h.h.imp λσ H K=>by
 rintro ⟨env,W0,H0,W,Q,R,q,k⟩
 unfold pVar at q
 rw [j7] at q
 cases e:env[i]? with
 | none=>rw [e] at q;exact q.elim
 | some o =>
  cases o with
  | none=>rw [e] at q;exact q.elim
  | some x =>
   rw [e] at q
   obtain ⟨v,s,r⟩:=R.slot i x e
   rw [hm] at r
   refine ⟨v,s,k x v W H (Go.refl R.ok) ?_ q⟩
   cases m <;> first | exact r | cases hl⟩
theorem xD {i:Nat} (h:QE X e (dU i)) (hm:md.getD i .no = .o el):VE X md e (.p el) (pVar i):=⟨h.h.imp λσ H K=>by
 rintro ⟨env,W0,H0,W,Q,R,q,k⟩
 unfold pVar at q
 rw [j7] at q
 cases e:env[i]? with
 | none=>rw [e] at q;exact q.elim
 | some o =>
  cases o with
  | none=>rw [e] at q;exact q.elim
  | some x =>
   rw [e] at q
   obtain ⟨v,s,r⟩:=R.slot i x e
   rw [hm] at r
   refine ⟨v,s,k x v W H (Go.refl R.ok) ?_ q⟩
   obtain ⟨a,o,rfl,h1⟩:=r
   exact .inr ⟨a,o,rfl,h1.nS,h1.at_,h1.its⟩⟩
structure SimOp (r:R2) (m:Md) (pr:P2):Prop where
 h:∀ (B:Hp) (W:Wd) (H:Hp) (x y:V) (px py:PV) (Q:PV -> Prop) (K:VK),Wok W H -> Rep (λa=>¬ W.S a) H x px -> Rep (λa=>¬ W.S a) H y py -> pr px py Q -> i8 B W H m Q K -> r x y H K
theorem JJ {K':PySem.W.Frag} {r:R2} {pr:P2} (hs:SimOp r m pr) {σ:St} {H:Hp} {K:VK} (h:dQ K' md m (pOp pr pa pb) σ H K):LP r (dQ K' md .bw pa) (dQ K' md .bw pb) σ H K:=by
 obtain ⟨env,W0,H0,W,Q,R,q,k⟩:=h
 refine ⟨env,W0,H0,W,_,R,q,λx v W1 H1 g1 r1 q1=>⟨env,W0,H0,W1,_,R.step g1,q1,λy u W2 H2 g2 r2 q2=>?_⟩⟩
 exact hs.h H0 W2 H2 v u x y Q K g2.ok (g2.bw g1.ok r1) r2 q2 (k.after (g1.trans g2))
theorem aL {op:Operator} {r:R2} {pr:P2} (ho:QOp X (binaryOp op) r) (hs:SimOp r m pr) (ha:VE X md a .bw pa) (hb:VE X md b .bw pb):VE X md (.BinOp a op b pos) m (pOp pr pa pb) :=
 ⟨(zG ho.h ha.h hb.h).imp λ_ _ _ h=>JJ hs h⟩
theorem LX {op:CmpOp} {r:R2} {pr:P2} (ho:QOp X (compareOp op) r) (hs:SimOp r m pr) (ha:VE X md a .bw pa) (hb:VE X md b .bw pb) (hm:behindInMarks op b = false):VE X md (.Compare a [op] [b] pos) m (pOp pr pa pb) :=
 ⟨(DQ ho.h ha.h hb.h hm).imp λ_ _ _ h=>JJ hs h⟩
theorem bN {op:CmpOp} {r:R2} {pr:P2} (ho:QOp X (compareOp op) r) (hs:SimOp r (.v .fl) pr) (ha:VE X md a .bw pa) (hb:VE X md b .bw pb) (hm:behindInMarks op b = false):VT X md (.Compare a [op] [b] pos) (pBo (pOp pr pa pb)) :=
 ⟨(DW ho.h ha.h hb.h hm).imp λσ H K=>by
  rintro ⟨env,W0,H0,W,Q,R,q,k⟩
  refine JJ (K:=λx H'=>∃ c,x = .bl c /\ K c H') hs ⟨env,W0,H0,W,_,R,q,λx v W' H' g r z=>?_⟩
  cases x with
  | bl c=>exact ⟨c,Rep.ofBl r,k c W' H' g z⟩
  | _=>exact z.elim⟩
theorem Y2 {K':PySem.W.Frag} {r r':R2} {pr pr':P2} (hs:SimOp r (.v .fl) pr) (hs':SimOp r' (.v .fl) pr') {σ:St} {H:Hp} {K:VK} (h:dQ K' md (.v .fl) (pChain pr pr' pa pb pc) σ H K):LL r r' (dQ K' md .bw pa) (dQ K' md .bw pb) (dQ K' md .bw pc) σ H K:=by
 obtain ⟨env,W0,H0,W,Q,R,q,k⟩:=h
 refine ⟨env,W0,H0,W,_,R,q,λx v W1 H1 g1 r1 q1=>⟨env,W0,H0,W1,_,R.step g1,q1,λy u W2 H2 g2 r2 q2=>?_⟩⟩
 refine hs.h H0 W2 H2 v u x y _ _ g2.ok (g2.bw g1.ok r1) r2 q2 λz w W3 H3 g3 r3 q3=>?_
 cases z with
 | bl c =>
  refine ⟨c,Rep.ofBl r3,?_⟩
  cases c with
  | true =>
   rw [if_pos rfl]
   refine ⟨env,W0,H0,W3,_,(R.step g1).step (g2.trans g3),q3,λz' w' W4 H4 g4 r4 q4=>?_⟩
   exact hs'.h H0 W4 H4 u w' y z' Q K g4.ok (g4.bw g3.ok (g3.bw g2.ok r2)) r4 q4 (k.after (((g1.trans g2).trans g3).trans g4))
  | false =>
   rw [if_neg a0k]
   exact (k.after ((g1.trans g2).trans g3)).atom g3.ok (.bl false) q3
 | _=>exact q3.elim
theorem LW {op op':CmpOp} {r r':R2} {pr pr':P2} (ho:QOp X (compareOp op) r) (ho':QOp X (compareOp op') r') (hs:SimOp r (.v .fl) pr) (hs':SimOp r' (.v .fl) pr') (ha:VE X md a .bw pa) (hb:VE X md b .bw pb) (hc:VE X md c .bw pc) (hm:lastMarks [op,op'] [b,c] = false:=by with_unfolding_all rfl) :
  VE X md (.Compare a [op,op'] [b,c] pos) (.v .fl) (pChain pr pr' pa pb pc):=⟨(K0 ho.h ho'.h ha.h hb.h hc.h hm).imp λ_ _ _ h=>Y2 hs hs' h⟩
theorem ZK {op:UnaryOp} {r:V -> Hp -> VK -> Prop} {pr:PV -> (PV -> Prop) -> Prop} (ho:QUn X (unaryOp op) r) (hs:∀ (B:Hp) (W:Wd) (H:Hp) (x:V) (px:PV) (Q:PV -> Prop) (K:VK),Wok W H -> Rep (λa=>¬ W.S a) H x px -> pr px Q -> i8 B W H m Q K -> r x H K) (ha:VE X md a .bw pa) :
  VE X md (.UnaryOp op a pos) m (pUn pr pa):=⟨(RG ho.h ha.h).imp λσ H K=>by
 rintro ⟨env,W0,H0,W,Q,R,q,k⟩
 exact ⟨env,W0,H0,W,_,R,q,λx v W1 H1 g1 r1 q1=>hs H0 W1 H1 v x Q K g1.ok r1 q1 (k.after g1)⟩⟩
theorem WP {op} (h:VE X md a m pe):VE X md (.BoolOp op [a] pos) m pe:=⟨UW h.h⟩
theorem m9 (h:VE X md e .bw pe) (he:∀ whole,isTrue e X.env whole = (do let v <- whole;standAt e.pos;holding [v] (truthy v)):=by intro _;rfl):VT X md e (pBo pe):=⟨(V8 h.h he).imp λσ H K=>by
 rintro ⟨env,W0,H0,W,Q,R,q,k⟩
 refine ⟨env,W0,H0,W,_,R,q,λx v W1 H1 g1 r1 q1=>?_⟩
 cases x with
 | bl c=>exact ⟨c,Rep.ofBl r1,k c W1 H1 g1 q1⟩
 | _=>exact q1.elim⟩
theorem CK {ptt:dX} (ha:VT X md a ptt):VT X md (.UnaryOp .Not a pos) (pNot ptt):=⟨(V7 ha.h).imp λσ H K=>by
 rintro ⟨env,W0,H0,W,Q,R,q,k⟩
 exact ⟨env,W0,H0,W,_,R,q,λc W1 H1 g1 q1=>k _ W1 H1 g1 q1⟩⟩
theorem AA {ptt:dX} (h:VW X md e ptt):VT X md e ptt:=⟨h.h.pt⟩
theorem xF {ptt:dX} (ha:VT X md a ptt):VW X md (.BoolOp .And [a] pos) ptt:=⟨OX ha.h⟩
theorem MA {ptt:dX} (ha:VT X md a ptt):VW X md (.BoolOp .Or [a] pos) ptt:=⟨VC ha.h⟩
theorem CL {rest:List Expr} {pt pu:dX} (ha:VT X md a pt) (hb:VW X md (.BoolOp .And (b :: rest) pos) pu):VW X md (.BoolOp .And (a :: b :: rest) pos) (pAnd pt pu):=⟨(V9 ha.h hb.h).imp λσ H K=>by
 rintro ⟨env,W0,H0,W,Q,R,q,k⟩
 refine ⟨env,W0,H0,W,_,R,q,λc W1 H1 g1 q1=>?_⟩
 cases c with
 | true=>rw [if_pos rfl];exact ⟨env,W0,H0,W1,Q,R.step g1,q1,λb W2 H2 g2 q2=>k b W2 H2 (g1.trans g2) q2⟩
 | false=>rw [if_neg a0k];exact k _ W1 H1 g1 q1⟩
theorem RR {rest:List Expr} {pt pu:dX} (ha:VT X md a pt) (hb:VW X md (.BoolOp .Or (b :: rest) pos) pu):VW X md (.BoolOp .Or (a :: b :: rest) pos) (pOr pt pu):=⟨(YQ ha.h hb.h).imp λσ H K=>by
 rintro ⟨env,W0,H0,W,Q,R,q,k⟩
 refine ⟨env,W0,H0,W,_,R,q,λc W1 H1 g1 q1=>?_⟩
 cases c with
 | true=>rw [if_pos rfl];exact k _ W1 H1 g1 q1
 | false=>rw [if_neg a0k];exact ⟨env,W0,H0,W1,Q,R.step g1,q1,λb W2 H2 g2 q2=>k b W2 H2 (g1.trans g2) q2⟩⟩
theorem a9:VA X md [] [] pNil:=⟨j8.imp λσ H K=>by
 rintro ⟨env,W0,H0,W,Q,R,q,k⟩
 exact k [] [] W H (Go.refl R.ok) .nil q⟩
theorem a7 {ms:List Md} {pr:kP} (ha:VE X md e m pe) (hr:VA X md es ms pr) (hs:starEach (e :: es) X.env = (false,eval e X.env) :: starEach es X.env:=by rfl):VA X md (e :: es) (m :: ms) (pCons pe pr):=⟨(eW ha.h hr.h hs).imp λσ H K=>by
 rintro ⟨env,W0,H0,W,Q,R,q,k⟩
 refine ⟨env,W0,H0,W,_,R,q,λx v W1 H1 g1 r1 q1=>⟨env,W0,H0,W1,_,R.step g1,q1,λxs vs W2 H2 g2 r2 q2=>?_⟩⟩
 exact k (x :: xs) (v :: vs) W2 H2 (g1.trans g2) (.cons (r1.go g1.ok g2) (ResEs.base g1 r2)) q2⟩
theorem ResEs.reps {G:Addr -> Prop} {B H H':Hp} {W':Wd} {ms:List Md} {vs:List V} {xs:List PV} (r:ResEs B H W' H' ms vs xs) (h:∀ (m:Md) (v:V) (x:PV),m ∈ ms -> ResE B H W' H' m v x -> Rep G H' v x):Reps G H' vs xs:=by
 induction r with
 | nil=>exact .nil
 | cons h1 _ ih=>exact .cons (h _ _ _ a0m h1) (ih λm v x hm=>h m v x (a0j _ hm))
theorem ResEs.vs {B H H':Hp} {W':Wd} {ms:List Md} {vs:List V} {xs:List PV} (w:Wok W' H') (r:ResEs B H W' H' ms vs xs) (hm:ms.all (λm=>m.le (.v el)) = true):Reps (el.G W'.F B) H' vs xs:=r.reps λm v x h q=>ResE.le q w (n:=.v el) (List.all_eq_true.mp hm m h)
theorem ResEs.len {B H H':Hp} {W':Wd} {ms:List Md} {vs:List V} {xs:List PV} (r:ResEs B H W' H' ms vs xs):vs.length = xs.length /\ ms.length = xs.length:=by
 induction r with
 | nil=>exact ⟨rfl,rfl⟩
 | cons _ _ ih=>simp [ih]
def pLst (a:kP):aQ:=λenv Q=>a env λxs=>Q (.lst xs)
def pTup (a:kP):aQ:=λenv Q=>a env λxs=>Q (.tup xs)
theorem zZ {ms:List Md} {vs:List V} {xs:List PV} {B H H':Hp} {W':Wd} (r:ResEs B H W' H' ms vs xs) (hl:ms.length <= 1000):vs.length <= sizeLine:=by
 have:=r.len
 exact Nat.le_trans (by omega:vs.length <= 1000) (by decide)
theorem c0 {ms:List Md} {pr:kP} (el:El) (h:VA X md es ms pr) (hm:ms.all (λm=>m.le (.v el)) = true) (hl:ms.length <= 1000:=by decide):VE X md (.List es pos) (.o el) (pLst pr):=⟨(K2 h.h).imp λσ H K=>by
 rintro ⟨env,W0,H0,W,Q,R,q,k⟩
 exact ⟨env,W0,H0,W,_,R,q,λxs vs W1 H1 g1 r1 q1=>⟨zZ r1 hl,λp hp=>(k.after g1).newL g1.ok hp (r1.vs g1.ok hm) q1⟩⟩⟩
theorem c4 {ms:List Md} {pr:kP} {x1} (el:El) (h:VA X md es ms pr) (hm:ms.all (λm=>m.le (.v el)) = true) (hl:ms.length <= 1000:=by decide):VE X md (.Tuple es x1 pos) (.v el) (pTup pr):=⟨(V0 h.h).imp λσ H K=>by
 rintro ⟨env,W0,H0,W,Q,R,q,k⟩
 exact ⟨env,W0,H0,W,_,R,q,λxs vs W1 H1 g1 r1 q1=>⟨zZ r1 hl,λp hp=>(k.after g1).newT g1.ok hp (r1.vs g1.ok hm) q1⟩⟩⟩
end
def pI (C:Int -> Int -> Prop) (f:Int -> Int -> PV):P2:=λx y Q=>match x,y with
 | .int i,.int j=>C i j /\ Q (f i j)
 | _,_=>False
def pI0 (f:Int -> Int -> PV):P2:=λx y Q=>match x,y with
 | .int i,.int j=>Q (f i j)
 | _,_=>False
def pU (f:Int -> PV):PV -> (PV -> Prop) -> Prop:=λx Q=>match x with
 | .int i=>Q (f i)
 | _=>False
theorem RN {C:Int -> Int -> Prop} {f:Int -> Int -> Int}:SimOp (rI C λi j=>.int (f i j)) (.v .fl) (pI C λi j=>.int (f i j)):=⟨λB W H x y px py Q K w rx ry q k=>by
 cases px with
 | int i=>cases py with
  | int j=>exact ⟨i,j,rx.ofInt,ry.ofInt,q.1,k.atom w (.int _) q.2⟩
  | _=>exact q.elim
 | _=>exact q.elim⟩
theorem LA {f:Int -> Int -> Int}:SimOp (tF λi j=>.int (f i j)) (.v .fl) (pI0 λi j=>.int (f i j)):=⟨λB W H x y px py Q K w rx ry q k=>by
 cases px with
 | int i=>cases py with
  | int j=>exact ⟨i,j,rx.ofInt,ry.ofInt,k.atom w (.int _) q⟩
  | _=>exact q.elim
 | _=>exact q.elim⟩
theorem CA {f:Int -> Int -> Bool}:SimOp (tF λi j=>.bl (f i j)) (.v .fl) (pI0 λi j=>.bl (f i j)):=⟨λB W H x y px py Q K w rx ry q k=>by
 cases px with
 | int i=>cases py with
  | int j=>exact ⟨i,j,rx.ofInt,ry.ofInt,k.atom w (.bl _) q⟩
  | _=>exact q.elim
 | _=>exact q.elim⟩
def pAddS:P2:=λx y Q=>match x,y with
 | .str i,.str j=>i.length + j.length <= sizeLine /\ Q (.str (i ++ j))
 | _,_=>False
theorem zU:SimOp KQ (.v .fl) pAddS:=⟨λB W H x y px py Q K w rx ry q k=>by
 cases px with
 | str i=>cases py with
  | str j=>exact ⟨i,j,rx.ofStr,ry.ofStr,q.1,k.atom w (.str _) q.2⟩
  | _=>exact q.elim
 | _=>exact q.elim⟩
def a1E:P2:=λx y Q=>match y with
 | .lst ys=>x.dep < 1000 /\ PV.deps ys <= 60 /\ Q (.bl (ys.any λz=>z.eqB x))
 | .tup ys=>x.dep < 1000 /\ PV.deps ys <= 60 /\ Q (.bl (ys.any λz=>z.eqB x))
 | _=>False
theorem W8:SimOp (VM false) (.v .fl) a1E:=⟨λB W H x y px py Q K w rx ry q k=>by
 cases py with
 | lst ys=>exact ⟨_,_,px,ys,rx,.inl ry,q.1,q.2.1,k.atom w (.bl _) q.2.2⟩
 | tup ys=>exact ⟨_,_,px,ys,rx,.inr ry,q.1,q.2.1,k.atom w (.bl _) q.2.2⟩
 | _=>exact q.elim⟩
def PV.isNon:PV -> Bool
 | .non=>true
 | _=>false
def pIsN:P2:=λx y Q=>match y with
 | .non=>Q (.bl x.isNon)
 | _=>False
def pNotN:P2:=λx y Q=>match y with
 | .non=>Q (.bl (!x.isNon))
 | _=>False
theorem DB {G:Addr -> Prop} {H:Hp} {x:V} {px:PV} (r:Rep G H x px):decide (x = .non) = px.isNon:=by
 cases r <;> first | rfl | exact decide_eq_false (by intro z;cases z)
theorem PL:SimOp VN (.v .fl) pIsN:=⟨λB W H x y px py Q K w rx ry q k=>by
 cases py with
 | non=>exact ⟨ry.ofNon,by rw [DB rx];exact k.atom w (.bl _) q⟩
 | _=>exact q.elim⟩
theorem sH:SimOp L3 (.v .fl) pNotN:=⟨λB W H x y px py Q K w rx ry q k=>by
 cases py with
 | non=>exact ⟨ry.ofNon,by rw [DB rx];exact k.atom w (.bl _) q⟩
 | _=>exact q.elim⟩
def dM:P2:=λx y Q=>match x,y with
 | .lst xs,.int i=>(match jF xs i with
  | some z=>Q z
  | none=>False)
 | .tup xs,.int i=>(match jF xs i with
  | some z=>Q z
  | none=>False)
 | .str s,.int i=>(match jF s.cps.toList i with
  | some c=>s.length <= sizeLine /\ Q (.str ⟨#[c]⟩)
  | none=>False)
 | _,_=>False
theorem e6 {xs:List PV} {i:Int} {z:PV} {Q:PV -> Prop} (h:jF xs i = some z) (q:Q z):dM (.lst xs) (.int i) Q:=by unfold dM;simp only [h];exact q
theorem e7 {xs:List PV} {i:Int} {z:PV} {Q:PV -> Prop} (h:jF xs i = some z) (q:Q z):dM (.tup xs) (.int i) Q:=by unfold dM;simp only [h];exact q
theorem RB {s:Str} {i:Int} {c:Nat} {Q:PV -> Prop} (h:jF s.cps.toList i = some c) (hl:s.length <= sizeLine) (q:Q (.str ⟨#[c]⟩)):dM (.str s) (.int i) Q:=by unfold dM;simp only [h];exact ⟨hl,q⟩
theorem xT {G:Addr -> Prop} {H:Hp} {vs:List V} {xs:List PV} (r:Reps G H vs xs) {i:Int} {z:PV} (e:jF xs i = some z):∃ v,jF vs i = some v /\ Rep G H v z:=by
 unfold jF at e ⊢
 rw [r.len]
 cases h:sN xs.length i with
 | none=>rw [h] at e;cases e
 | some j=>rw [h] at e;exact r.get e
theorem RepP.ofList {G S:Addr -> Prop} {H:Hp} {v:V} {xs:List PV} (r:RepP G S H v (.lst xs)):∃ a vs,v = .ref a /\ H a = some (.lst vs) /\ Reps G H vs xs:=by
 rcases r with r | ⟨a,o,rfl,_,e,b⟩
 ·obtain ⟨a,vs,e1,_,e2,r⟩:=r.ofList;exact ⟨a,vs,e1,e2,r⟩
 ·cases b with
  | lst h=>exact ⟨a,_,rfl,e,h⟩
theorem RepP.ofTup {G S:Addr -> Prop} {H:Hp} {v:V} {xs:List PV} (r:RepP G S H v (.tup xs)):∃ a vs,v = .ref a /\ H a = some (.tup vs) /\ Reps G H vs xs:=by
 rcases r with r | ⟨a,o,rfl,_,e,b⟩
 ·exact r.ofTup
 ·cases b
theorem RepP.ofDic {G S:Addr -> Prop} {H:Hp} {v:V} {ks:List b9} {xs:List PV} (r:RepP G S H v (.dic ks xs)):∃ a vs,v = .ref a /\ H a = some (.dK (ks.zip vs)) /\ ks.length = vs.length /\ Reps G H vs xs:=by
 rcases r with r | ⟨a,o,rfl,_,e,b⟩
 ·obtain ⟨a,vs,e1,_,e2,e3,r⟩:=r.ofDic;exact ⟨a,vs,e1,e2,e3,r⟩
 ·cases b with
  | dic l h=>exact ⟨a,_,rfl,e,l,h⟩
theorem RepP.ofStr {G S:Addr -> Prop} {H:Hp} {v:V} {s:Str} (r:RepP G S H v (.str s)):v = .str s:=by
 rcases r with r | ⟨a,o,rfl,_,e,b⟩
 ·exact r.ofStr
 ·cases b
section
variable {X:Cx} {md:List Md} {a b c e:Expr} {es:List Expr} {pa pb pc pe:aQ} {m:Md} {el:El} {pos p:Pos}
theorem aH (ha:VE X md a (.p el) pa) (hb:VE X md b .bw pb) (hp:∀ o i,subscripted b false o i = operate [o,i] (getItem o i)):VE X md (.Subscript a b pos) (.v el) (pOp dM pa pb) :=
 ⟨(RF TR ha.h hb.h hp).imp λσ H K=>by
  rintro ⟨env,W0,H0,W,Q,R,q,k⟩
  refine ⟨env,W0,H0,W,_,R,q,λx v W1 H1 g1 r1 q1=>⟨env,W0,H0,W1,_,R.step g1,q1,λy u W2 H2 g2 r2 q2=>?_⟩⟩
  have r1':RepP (el.G W2.F H0) W2.S H2 v x:=ResE.go (m:=.p el) r1 g1.ok g2
  have k2:=k.after (g1.trans g2)
  unfold dM at q2
  cases y with
  | int i =>
   have hy:=Rep.ofInt r2
   subst hy
   cases x with
   | lst xs =>
    dsimp only at q2
    obtain ⟨a,vs,rfl,e,r⟩:=r1'.ofList
    cases h:jF xs i with
    | none=>rw [h] at q2;exact q2.elim
    | some z =>
     rw [h] at q2
     obtain ⟨w,e1,e2⟩:=xT r h
     exact .inl ⟨a,vs,i,w,rfl,rfl,cT.of e,e1,k2.val g2.ok e2 q2⟩
   | tup xs =>
    dsimp only at q2
    obtain ⟨a,vs,rfl,e,r⟩:=r1'.ofTup
    cases h:jF xs i with
    | none=>rw [h] at q2;exact q2.elim
    | some z =>
     rw [h] at q2
     obtain ⟨w,e1,e2⟩:=xT r h
     exact .inr (.inl ⟨a,vs,i,w,rfl,rfl,iM.of e,e1,k2.val g2.ok e2 q2⟩)
   | str s =>
    dsimp only at q2
    cases h:jF s.cps.toList i with
    | none=>rw [h] at q2;exact q2.elim
    | some c =>
     rw [h] at q2
     exact .inr (.inr ⟨s,i,c,r1'.ofStr,rfl,q2.1,h,k2.val g2.ok (.str _) q2.2⟩)
   | _=>exact q2.elim
  | _=>cases x <;> exact q2.elim⟩
abbrev HN:=b6 -> (Option Int -> Prop) -> Prop
def Y3 (K':PySem.W.Frag) (md:List Md) (p:HN):TO:=λσ H K=>∃ (env:b6) (W0:Wd) (H0:Hp) (W:Wd) (Q:Option Int -> Prop),Rl K' md W0 H0 W σ env H /\ p env Q /\ ∀ (o:Option Int) (W':Wd) (H':Hp),Go W H W' H' -> Q o -> K o H'
structure VO (X:Cx) (md:List Md) (e:Option Expr) (p:HN):Prop where
 h:PO X e (Y3 X.K md p)
def pNoPart:HN:=λ_ Q=>Q none
def pPart (a:aQ):HN:=λenv Q=>a env λx=>match x with
 | .int i=>Q (some i)
 | _=>False
theorem PO.imp {eo:Option Expr} {t t':TO} (h:PO X eo t) (k:∀ σ H K,t' σ H K -> t σ H K):PO X eo t':=λpins s σ H Q I q=>h pins s σ H Q I (k σ H Q q)
theorem EF:VO X md none pNoPart:=⟨OP.imp λσ H K=>by
 rintro ⟨env,W0,H0,W,Q,R,q,k⟩
 exact k none W H (Go.refl R.ok) q⟩
theorem l5 (h:VE X md e .bw pe):VO X md (some e) (pPart pe):=⟨(OQ h.h).imp λσ H K=>by
 rintro ⟨env,W0,H0,W,Q,R,q,k⟩
 refine ⟨env,W0,H0,W,_,R,q,λx v W1 H1 g1 r1 q1=>?_⟩
 cases x with
 | int i=>exact ⟨i,Rep.ofInt r1,k _ W1 H1 g1 q1⟩
 | _=>exact q1.elim⟩
def sQ {α:Type} (xs:List α) (lo hi:Option Int):List α:=(xs.drop (HT.sIx xs.length 0 lo)).take (HT.sIx xs.length xs.length hi - HT.sIx xs.length 0 lo)
theorem Reps.cut {G:Addr -> Prop} {H:Hp} {vs:List V} {xs:List PV} (r:Reps G H vs xs) (lo hi:Option Int):Reps G H (y9 vs lo hi) (sQ xs lo hi):=by
 unfold y9 sQ
 rw [r.len]
 exact (r.drop _).take _
def pSlL (x:PV) (lo hi:Option Int) (Q:PV -> Prop):Prop:=match x with
 | .lst xs=>Q (.lst (sQ xs lo hi))
 | _=>False
def pSlT (x:PV) (lo hi:Option Int) (Q:PV -> Prop):Prop:=match x with
 | .tup xs=>¬ (HT.sIx xs.length 0 lo = 0 /\ HT.sIx xs.length xs.length hi = xs.length) /\ Q (.tup (sQ xs lo hi))
 | _=>False
def pSlice (r:PV -> Option Int -> Option Int -> (PV -> Prop) -> Prop) (a:aQ) (lo hi:HN):aQ:=λenv Q=>a env λx=>lo env λl=>hi env λh=>r x l h Q
theorem sI {m1:Md} {r:V -> Option Int -> Option Int -> Hp -> VK -> Prop} {pr:PV -> Option Int -> Option Int -> (PV -> Prop) -> Prop} {lo hi:Option Expr} {pl ph:HN} {p2:Pos} (hr:QL X r) (he:VE X md e m1 pe) (hl:VO X md lo pl) (hu:VO X md hi ph)
  (hs:∀ (B H0:Hp) (W:Wd) (H:Hp) (v:V) (x:PV) (l h:Option Int) (Q:PV -> Prop) (K:VK),Wok W H -> ResE B H0 W H m1 v x -> pr x l h Q -> i8 B W H m Q K -> r v l h H K):VE X md (.Subscript e (.Slice lo hi none p2) pos) m (pSlice pr pe pl ph) :=
 ⟨(K3 hr.h he.h hl.h hu.h).imp λσ H K=>by
  rintro ⟨env,W0,H0,W,Q,R,q,k⟩
  refine ⟨env,W0,H0,W,_,R,q,λx v W1 H1 g1 r1 q1=>⟨env,W0,H0,W1,_,R.step g1,q1,λl W2 H2 g2 q2=>⟨env,W0,H0,W2,_,(R.step g1).step g2,q2,λh W3 H3 g3 q3=>?_⟩⟩⟩
  exact hs H0 H W3 H3 v x l h Q K g3.ok ((r1.go g1.ok g2).go g2.ok g3) q3 (k.after ((g1.trans g2).trans g3))⟩
theorem LZ {lo hi:Option Expr} {pl ph:HN} {p2:Pos} (he:VE X md e (.p el) pe) (hl:VO X md lo pl) (hu:VO X md hi ph):VE X md (.Subscript e (.Slice lo hi none p2) pos) (.o el) (pSlice pSlL pe pl ph) :=
 sI P3 he hl hu λB H0 W H v x l h Q K w r q k=>by
  cases x with
  | lst xs =>
   obtain ⟨a,vs,rfl,e,rs⟩:=RepP.ofList r
   exact ⟨a,vs,rfl,cT.of e,λp hp=>k.newL w hp (rs.cut l h) q⟩
  | _=>exact q.elim
theorem M0 {lo hi:Option Expr} {pl ph:HN} {p2:Pos} (he:VE X md e (.p el) pe) (hl:VO X md lo pl) (hu:VO X md hi ph):VE X md (.Subscript e (.Slice lo hi none p2) pos) (.v el) (pSlice pSlT pe pl ph) :=
 sI VJ he hl hu λB H0 W H v x l h Q K w r q k=>by
  cases x with
  | tup xs =>
   obtain ⟨a,vs,rfl,e,rs⟩:=RepP.ofTup r
   exact ⟨a,vs,rfl,iM.of e,by rw [rs.len];exact q.1,λp hp=>k.newT w hp (rs.cut l h) q.2⟩
  | _=>exact q.elim
def pCat:P2:=λx y Q=>match x,y with
 | .lst xs,.lst ys=>xs.length + ys.length <= sizeLine /\ Q (.lst (xs ++ ys))
 | _,_=>False
theorem sL (ha:VE X md a (.p el) pa) (hb:VE X md b (.p el) pb):VE X md (.BinOp a .Add b pos) (.o el) (pOp pCat pa pb) :=
 ⟨(zG UJ ha.h hb.h).imp λσ H K=>by
  rintro ⟨env,W0,H0,W,Q,R,q,k⟩
  refine ⟨env,W0,H0,W,_,R,q,λx v W1 H1 g1 r1 q1=>⟨env,W0,H0,W1,_,R.step g1,q1,λy u W2 H2 g2 r2 q2=>?_⟩⟩
  have k2:=k.after (g1.trans g2)
  have r1':RepP (el.G W2.F H0) W2.S H2 v x:=ResE.go (m:=.p el) r1 g1.ok g2
  cases x with
  | lst xs=>cases y with
   | lst ys =>
    obtain ⟨a,vs,rfl,e,rs⟩:=r1'.ofList
    obtain ⟨b,us,rfl,e',rs'⟩:=RepP.ofList r2
    exact ⟨a,b,vs,us,rfl,rfl,e,e',by rw [rs.len,rs'.len];exact q2.1,λp hp=>k2.newL g2.ok hp (rs.append rs') q2.2⟩
   | _=>exact q2.elim
  | _=>exact q2.elim⟩
def pRep:P2:=λx y Q=>match x,y with
 | .lst xs,.int k=>-(2 ^ 63) <= k /\ k < 2 ^ 63 /\ xs.length * k.toNat <= sizeLine /\ Q (.lst (List.replicate k.toNat xs).flatten)
 | _,_=>False
theorem CH (ha:VE X md a (.p el) pa) (hb:VE X md b .bw pb):VE X md (.BinOp a .Mult b pos) (.o el) (pOp pRep pa pb) :=
 ⟨(zG UP ha.h hb.h).imp λσ H K=>by
  rintro ⟨env,W0,H0,W,Q,R,q,k⟩
  refine ⟨env,W0,H0,W,_,R,q,λx v W1 H1 g1 r1 q1=>⟨env,W0,H0,W1,_,R.step g1,q1,λy u W2 H2 g2 r2 q2=>?_⟩⟩
  have k2:=k.after (g1.trans g2)
  have r1':RepP (el.G W2.F H0) W2.S H2 v x:=ResE.go (m:=.p el) r1 g1.ok g2
  cases x with
  | lst xs=>cases y with
   | int n =>
    obtain ⟨a,vs,rfl,e,rs⟩:=r1'.ofList
    have hu:=Rep.ofInt r2
    subst hu
    exact ⟨a,n,vs,rfl,rfl,e,q2.1,q2.2.1,by rw [rs.len];exact q2.2.2.1,λp hp=>k2.newL g2.ok hp (rs.rep _) q2.2.2.2⟩
   | _=>exact q2.elim
  | _=>exact q2.elim⟩
structure SimC (r:List V -> Hp -> VK -> Prop) (ms:List Md) (m:Md) (pr:PN):Prop where
 h:∀ (B H0:Hp) (W:Wd) (H:Hp) (vs:List V) (xs:List PV) (Q:PV -> Prop) (K:VK),Wok W H -> ResEs B H0 W H ms vs xs -> pr xs Q -> i8 B W H m Q K -> r vs H K
theorem DL {K':PySem.W.Frag} {r:List V -> Hp -> VK -> Prop} {ms:List Md} {pr:PN} {pt:kP} (hs:SimC r ms m pr) {σ:St} {H:Hp} {K:VK} (h:dQ K' md m (pCl pr pt) σ H K):RO r (R7 K' md ms pt) σ H K:=by
 obtain ⟨env,W0,H0,W,Q,R,q,k⟩:=h
 exact ⟨env,W0,H0,W,_,R,q,λxs vs W1 H1 g1 r1 q1=>hs.h H0 H W1 H1 vs xs Q K g1.ok r1 q1 (k.after g1)⟩
theorem aX {id:String} {x:Str} {r:List V -> Hp -> VK -> Prop} {ms:List Md} {pr:PN} {pt:kP} (hc:QC X (.builtin id) r) (hs:SimC r ms m pr) (hg:X.env.scope.names.lookup x = some .globalImplicit) (hm:X.mg x = none) (hv:bootBuiltins x = some (.builtin id)) (ha:VA X md (e :: es) ms pt) (hn:x ≠ "__name__") (hdb:(x == ("__debug__" : Str)) = false)
  (he:starEach (e :: es) X.env = (false,eval e X.env) :: starEach es X.env:=by rfl) (hpl:(backTo pos (starEach es X.env)).any (·.1) = false:=by rfl):VE X md (.Call (.Name x p) (e :: es) [] pos) m (pCl pr pt):=⟨(kD hc.h hg hm hv ha.h hn hdb he hpl).imp λ_ _ _ h=>DL hs h⟩
theorem vD {T:String} {x:Str} {r:List V -> Hp -> VK -> Prop} {ms:List Md} {pr:PN} {pt:kP} (hc:QC X (.type T) r) (hs:SimC r ms m pr) (hg:X.env.scope.names.lookup x = some .globalImplicit) (hm:X.mg x = none) (hv:bootBuiltins x = some (.type T)) (ha:VA X md (e :: es) ms pt) (hn:x ≠ "__name__") (hdb:(x == ("__debug__" : Str)) = false)
  (he:starEach (e :: es) X.env = (false,eval e X.env) :: starEach es X.env:=by rfl) (hpl:(backTo pos (starEach es X.env)).any (·.1) = false:=by rfl):VE X md (.Call (.Name x p) (e :: es) [] pos) m (pCl pr pt):=⟨(fT hc.h hg hm hv ha.h hn hdb he hpl).imp λ_ _ _ h=>DL hs h⟩
theorem ResEs.one {B H H':Hp} {W:Wd} {m:Md} {vs:List V} {xs:List PV} (r:ResEs B H W H' [m] vs xs):∃ v x,vs = [v] /\ xs = [x] /\ ResE B H W H' m v x:=by
 cases r with
 | cons h t=>cases t;exact ⟨_,_,rfl,rfl,h⟩
theorem ResEs.two {B H H':Hp} {W:Wd} {m n:Md} {vs:List V} {xs:List PV} (r:ResEs B H W H' [m,n] vs xs):∃ v x u y,vs = [v,u] /\ xs = [x,y] /\ ResE B H W H' m v x /\ ResE B H W H' n u y:=by
 cases r with
 | cons h t=>obtain ⟨u,y,rfl,rfl,h2⟩:=t.one;exact ⟨_,_,_,_,rfl,rfl,h,h2⟩
def pLen:PN:=λxs Q=>match xs with
 | [.lst ys]=>Q (.int ys.length)
 | [.tup ys]=>Q (.int ys.length)
 | [.str s]=>s.length <= sizeLine /\ Q (.int s.length)
 | _=>False
def RJ (K':PySem.W.Frag):List V -> Hp -> VK -> Prop:=λxs H Q=>∃ x n,xs = [x] /\ X3 K' x H n /\ Q (.int n) H
theorem eX:QC X (.builtin "len") (RJ X.K):=⟨ID⟩
theorem fN {K':PySem.W.Frag}:SimC (RJ K') [.bw] (.v .fl) pLen:=⟨λB H0 W H vs xs Q K w r q k=>by
 obtain ⟨v,x,rfl,rfl,r1⟩:=r.one
 clear r
 have r:Rep (λa=>¬ W.S a) H v x:=r1
 unfold pLen at q
 cases x with
 | lst ys =>
  obtain ⟨a,vs,rfl,_,e,rs⟩:=r.ofList
  exact ⟨.ref a,vs.length,rfl,.inl ⟨vs,cT.of e,rfl⟩,by rw [rs.len];exact k.atom w (.int _) q⟩
 | tup ys =>
  obtain ⟨a,vs,rfl,e,rs⟩:=r.ofTup
  exact ⟨.ref a,vs.length,rfl,.inr ⟨vs,iM.of e,rfl⟩,by rw [rs.len];exact k.atom w (.int _) q⟩
 | str s=>exact ⟨v,s.length,rfl,by rw [r.ofStr];exact ⟨q.1,rfl⟩,k.atom w (.int _) q.2⟩
 | _=>exact q.elim⟩
def pLenScr:PN:=λxs Q=>match xs with
 | [.scr ns]=>Q (.int ns.length)
 | _=>False
theorem GK {pt:kP} (hg:X.env.scope.names.lookup ("len" : Str) = some .globalImplicit) (hm:X.mg "len" = none) (hv:bootBuiltins "len" = some (.builtin "len")) (ha:VA X md [e] [.scr] pt)
  (he:starEach [e] X.env = (false,eval e X.env) :: starEach [] X.env:=by rfl) (hpl:(backTo pos (starEach [] X.env)).any (·.1) = false:=by rfl):VE X md (.Call (.Name "len" p) [e] [] pos) (.v .fl) (pCl pLenScr pt):=⟨(kD (eX).h hg hm hv ha.h (by decide) (by decide) he hpl).imp λσ H K h=>by
 obtain ⟨env,W0,H0,W,Q,R,q,k⟩:=h
 refine ⟨env,W0,H0,W,_,R,q,λxs vs W1 H1 g1 r1 q1=>?_⟩
 obtain ⟨v,x,rfl,rfl,r⟩:=r1.one
 obtain ⟨a,ns,rfl,rfl,sc⟩:=r
 refine ⟨.ref a,ns.length,rfl,.inl ⟨ns.map V.int,by have:=sc.sq;rw [(R.step g1).kk] at this;exact this,by simp⟩,(k.after g1).atom g1.ok (.int _) q1⟩⟩
def pMax2:PN:=λxs Q=>match xs with
 | [.int i,.int j]=>Q (.int (max i j))
 | _=>False
def pMin2:PN:=λxs Q=>match xs with
 | [.int i,.int j]=>Q (.int (min i j))
 | _=>False
theorem zV:SimC zO [.bw,.bw] (.v .fl) pMax2:=⟨λB H0 W H vs xs Q K w r q k=>by
 obtain ⟨v,x,u,y,rfl,rfl,r1,r2⟩:=r.two
 cases x with
 | int i=>cases y with
  | int j =>
   refine ⟨i,j,by rw [Rep.ofInt r1,Rep.ofInt r2],?_⟩
   have:(if j > i then j else i) = max i j:=by rw [Int.max_def];split <;> split <;> omega
   rw [this];exact k.atom w (.int _) q
  | _=>exact q.elim
 | _=>exact q.elim⟩
theorem zX:SimC L0 [.bw,.bw] (.v .fl) pMin2:=⟨λB H0 W H vs xs Q K w r q k=>by
 obtain ⟨v,x,u,y,rfl,rfl,r1,r2⟩:=r.two
 cases x with
 | int i=>cases y with
  | int j =>
   refine ⟨i,j,by rw [Rep.ofInt r1,Rep.ofInt r2],?_⟩
   have:(if j < i then j else i) = min i j:=by rw [Int.min_def];split <;> split <;> omega
   rw [this];exact k.atom w (.int _) q
  | _=>exact q.elim
 | _=>exact q.elim⟩
def pInt1:PN:=λxs Q=>match xs with
 | [.int i]=>Q (.int i)
 | [.bl b]=>Q (.int (if b then 1 else 0))
 | _=>False
theorem LB:SimC zN [.bw] (.v .fl) pInt1:=⟨λB H0 W H vs xs Q K w r q k=>by
 obtain ⟨v,x,rfl,rfl,r1⟩:=r.one
 clear r
 have r:=r1
 cases x with
 | int i=>exact .inl ⟨i,by rw [Rep.ofInt r],k.atom w (.int _) q⟩
 | bl b=>exact .inr ⟨b,by rw [Rep.ofBl r],k.atom w (.int _) q⟩
 | _=>exact q.elim⟩
def PV.ints:List PV -> Option (List Int)
 | []=>some []
 | .int i :: xs=>(PV.ints xs).map (i :: ·)
 | _=>none
theorem PV.ints_map:∀ (ns:List Int),PV.ints (ns.map PV.int) = some ns
 | []=>rfl
 | n :: ns=>by rw [a0f,PV.ints,PV.ints_map ns];rfl
theorem PV.ints_of:∀ {xs:List PV} {ns:List Int},PV.ints xs = some ns -> xs = ns.map PV.int
 | [],ns,h=>by cases h;rfl
 | .int i :: xs,ns,h=>by
  rw [PV.ints] at h
  cases h2:PV.ints xs with
  | none=>rw [h2] at h;cases h
  | some ms=>rw [h2] at h;cases h;rw [PV.ints_of h2];rfl
 | .non :: _,_,h=>by cases h
 | .bl _ :: _,_,h=>by cases h
 | .str _ :: _,_,h=>by cases h
 | .ty _ :: _,_,h=>by cases h
 | .st :: _,_,h=>by cases h
 | .scr _ :: _,_,h=>by cases h
 | .set _ _ :: _,_,h=>by cases h
 | .lst _ :: _,_,h=>by cases h
 | .tup _ :: _,_,h=>by cases h
 | .dic _ _ :: _,_,h=>by cases h
theorem Reps.ints {G:Addr -> Prop} {H:Hp} {vs:List V} {ns:List Int} (r:Reps G H vs (ns.map PV.int)):vs = ns.map V.int:=by
 refine List.ext_getElem? λi=>?_
 cases h:vs[i]? with
 | none =>
  rw [a0h,List.getElem?_eq_none];rfl
  have:=List.getElem?_eq_none_iff.mp h
  have:=r.len
  simp at this;omega
 | some v =>
  obtain ⟨x,e,rx⟩:=r.getV h
  rw [a0h] at e ⊢
  cases h2:ns[i]? with
  | none=>rw [h2] at e;cases e
  | some n=>rw [h2] at e;cases e;rw [rx.ofInt];rfl
def zD:PN:=λxs Q=>match xs with
 | [.lst ys]=>(match PV.ints ys with
  | some ns=>Q (.int ns.sum)
  | none=>False)
 | _=>False
theorem wH {ns:List Int} {Q:PV -> Prop} (q:Q (.int ns.sum)):zD [.lst (ns.map PV.int)] Q:=by unfold zD;simp only [PV.ints_map];exact q
theorem pY:SimC VR [.bw] (.v .fl) zD:=⟨λB H0 W H vs xs Q K w r q k=>by
 obtain ⟨v,x,rfl,rfl,r1⟩:=r.one
 clear r
 have r:=r1
 unfold zD at q
 cases x with
 | lst ys =>
  dsimp only at q
  cases h:PV.ints ys with
  | none=>rw [h] at q;exact q.elim
  | some ns =>
   rw [h] at q
   rw [PV.ints_of h] at r
   obtain ⟨a,vs,rfl,_,e,rs⟩:=Rep.ofList r
   rw [rs.ints] at e
   exact ⟨a,ns,rfl,e,k.atom w (.int _) q⟩
 | _=>exact q.elim⟩
def gA:List Int -> List Int:=λns=>ns.mergeSort (λa b=>decide (a <= b))
theorem bF (ns:List Int):(gA ns).Perm ns:=List.mergeSort_perm _ _
theorem j3 (ns:List Int):(gA ns).Pairwise (· <= ·):=by
 have:=List.pairwise_mergeSort (le:=λ(a b:Int)=>decide (a <= b)) (λa b c=>by simp;omega) (λa b=>by simp;omega) ns
 exact this.imp λh=>by simpa using h
theorem lH:∀ {as bs:List Int},as.Perm bs -> as.Pairwise (· <= ·) -> bs.Pairwise (· <= ·) -> as = bs:=λh1 h2 h3=>h1.eq_of_pairwise (λa b _ _ h1 h2=>Int.le_antisymm h1 h2) h2 h3
theorem kZ {G:Addr -> Prop} {H:Hp} (ns:List Int):Reps G H (ns.map V.int) (ns.map PV.int):=⟨by simp,λi v x e1 e2=>by
 rw [a0h] at e1 e2
 cases h:ns[i]? with
 | none=>rw [h] at e1;cases e1
 | some n=>rw [h] at e1 e2;cases e1;cases e2;exact .int _⟩
end
structure PEnds where
 nx:b6 -> Prop
 rt:PV -> Prop
 bk:b6 -> Prop:=λ_=>False
 ct:b6 -> Prop:=λ_=>False
abbrev bE:=PEnds -> b6 -> Prop
structure Ex (W:Wd) (H:Hp) (W':Wd) (H':Hp):Prop where
 lF:∀ a,W.F a -> W'.F a
 kp:∀ a o,W.F a -> H a = some o -> H' a = some o
 im:∀ a o,o.imm = true -> H a = some o -> H' a = some o
section
variable {W W' W1 W2:Wd} {H H' H1 H2:Hp}
theorem Ex.refl:Ex W H W H:=⟨λ_ h=>h,λ_ _ _ h=>h,λ_ _ _ h=>h⟩
theorem Ex.trans (a:Ex W H W1 H1) (b:Ex W1 H1 W2 H2):Ex W H W2 H2:=⟨λx h=>b.lF x (a.lF x h),λx o h e=>b.kp x o (a.lF x h) (a.kp x o h e),λx o i e=>b.im x o i (a.im x o i e)⟩
theorem Go.ex (g:Go W H W' H') (w:Wok W H):Ex W H W' H':=⟨g.lF,λa o f e=>g.kp a o e (w.dj a f),λa o i e=>g.kp a o e (w.imm e i)⟩
theorem Ex.rep (x:Ex W H W' H') {G G':Addr -> Prop} (hF:∀ a,G a -> W.F a) (hG:∀ a,G a -> G' a) {v:V} {p:PV} (r:Rep G H v p):Rep G' H' v p:=r.mono hG λa o h e=>h.elim (λg=>x.kp a o (hF a g) e) λi=>x.im a o i e
end
structure Lnk (K:PySem.W.Frag) (mn lm:List Md) (rm:Md) (W0:Wd) (H0:Hp) (W:Wd) (H:Hp) (E:PEnds) (D:Ends):Prop where
 nx:∀ (env:b6) (W':Wd) (σ:St) (H':Hp),Rl K mn W0 H0 W' σ env H' -> Ex W H W' H' -> E.nx env -> D.nx σ H'
 rt:∀ (x:PV) (v:V) (W':Wd) (H':Hp),Go W0 H0 W' H' -> ResE H0 H0 W' H' rm v x -> E.rt x -> D.rt v H'
 bk:∀ (env:b6) (W':Wd) (σ:St) (H':Hp),Rl K lm W0 H0 W' σ env H' -> Ex W H W' H' -> E.bk env -> D.bk σ H'
 ct:∀ (env:b6) (W':Wd) (σ:St) (H':Hp),Rl K lm W0 H0 W' σ env H' -> Ex W H W' H' -> E.ct env -> D.ct σ H'
theorem Lnk.after {K:PySem.W.Frag} {mn lm:List Md} {rm:Md} {W0 W W1:Wd} {H0 H H1:Hp} {E:PEnds} {D:Ends} (l:Lnk K mn lm rm W0 H0 W H E D) (x:Ex W H W1 H1):Lnk K mn lm rm W0 H0 W1 H1 E D :=
 ⟨λe W' s H' r y=>l.nx e W' s H' r (x.trans y),l.rt,λe W' s H' r y=>l.bk e W' s H' r (x.trans y),λe W' s H' r y=>l.ct e W' s H' r (x.trans y)⟩
def DK (K:PySem.W.Frag) (md mn lm:List Md) (rm:Md) (p:bE):TS:=λD σ H=>∃ (env:b6) (W0:Wd) (H0:Hp) (W:Wd) (E:PEnds),Rl K md W0 H0 W σ env H /\ p E env /\ Lnk K mn lm rm W0 H0 W H E D
structure VS (X:Cx) (md mn lm:List Md) (rm:Md) (s:Stmt) (p:bE):Prop where
 h:PS X s (DK X.K md mn lm rm p)
structure VSs (X:Cx) (md mn lm:List Md) (rm:Md) (s:List Stmt) (p:bE):Prop where
 h:tL X s (DK X.K md mn lm rm p)
theorem PS.imp {X:Cx} {s:Stmt} {t t':TS} (h:PS X s t) (k:∀ D σ H,t' D σ H -> t D σ H):PS X s t':=λpins s σ H D I q=>h pins s σ H D I (k D σ H q)
theorem tL.imp {X:Cx} {s:List Stmt} {t t':TS} (h:tL X s t) (k:∀ D σ H,t' D σ H -> t D σ H):tL X s t':=λpins s σ H D I q=>h pins s σ H D I (k D σ H q)
def pNext:bE:=λE env=>E.nx env
def pSeq (p q:bE):bE:=λE env=>p { E with nx:=q E } env
def pIfS (c:dX) (a b:bE):bE:=λE env=>c env λk=>Br k (a E env) (b E env)
def pRet (a:aQ):bE:=λE env=>a env E.rt
def pSet (i:Nat) (a:aQ):bE:=λE env=>a env λx=>E.nx (gH env i (some x))
section
variable {X:Cx} {md m1 mn lm:List Md} {rm m:Md} {el:El} {s:Stmt} {ss th el':List Stmt} {p q:bE} {e c:Expr} {pe:aQ} {pc:dX} {pos:Pos} {i:Nat}
theorem aF:VSs X md md lm rm [] pNext:=⟨DU.imp λD σ H=>by
 rintro ⟨env,W0,H0,W,E,R,q,l⟩
 exact l.nx env W σ H R .refl q⟩
theorem a8 (h1:VS X md m1 lm rm s p) (h2:VSs X m1 mn lm rm ss q):VSs X md mn lm rm (s :: ss) (pSeq p q):=⟨(zH h1.h h2.h).imp λD σ H=>by
 rintro ⟨env,W0,H0,W,E,R,q,l⟩
 exact ⟨env,W0,H0,W,_,R,q,λe W' s H' r x z=>⟨e,W0,H0,W',E,r,z,l.after x⟩,l.rt,l.bk,l.ct⟩⟩
theorem aG (h1:VS X md mn lm rm s p):VSs X md mn lm rm [s] p:=⟨DV h1.h⟩
theorem fG (hc:VT X md c pc) (ha:VSs X md mn lm rm th p) (hb:VSs X md mn lm rm el' q):VS X md mn lm rm (.If c th el' pos) (pIfS pc p q):=⟨(RH hc.h ha.h hb.h).imp λD σ H=>by
 rintro ⟨env,W0,H0,W,E,R,q,l⟩
 refine ⟨env,W0,H0,W,_,R,q,λk W1 H1 g1 q1=>?_⟩
 cases k with
 | true=>rw [if_pos rfl];exact ⟨env,W0,H0,W1,E,R.step g1,q1,l.after (g1.ex R.ok)⟩
 | false=>rw [if_neg a0k];exact ⟨env,W0,H0,W1,E,R.step g1,q1,l.after (g1.ex R.ok)⟩⟩
theorem aS (he:VE X md e m pe) (hm:m.le rm = true):VS X md mn lm rm (.Return (some e) pos) (pRet pe):=⟨(C2 he.h).imp λD σ H=>by
 rintro ⟨env,W0,H0,W,E,R,q,l⟩
 exact ⟨env,W0,H0,W,_,R,q,λx v W1 H1 g1 r1 q1=>l.rt x v W1 H1 (R.go.trans g1) ((ResE.base R.go r1).le g1.ok hm) q1⟩⟩
theorem nO {x:Str} {p:Pos} (he:QE X (.Name x p) (dU i)) (hi:md.getD i .no = .o el) (hm:(Md.o el).le rm = true):VS X md mn lm rm (.Return (some (.Name x p)) pos) (pRet (pVar i)):=⟨(C2 he.h).imp λD σ H=>by
 rintro ⟨env,W0,H0,W,E,R,q,l⟩
 unfold pRet pVar at q
 rw [j7] at q
 cases e:env[i]? with
 | none=>rw [e] at q;exact q.elim
 | some o =>
  cases o with
  | none=>rw [e] at q;exact q.elim
  | some x =>
   rw [e] at q
   obtain ⟨v,s,r⟩:=R.slot i x e
   rw [hi] at r
   exact ⟨v,s,l.rt x v W H R.go (r.le R.ok hm) q⟩⟩
theorem WU {x:Str} {pos':Pos} (hN:X.N.Nodup) (hi:X.N[i]? = some x) (hx:EJ X.env.scope x) (hs:swapsWith e (some (.Name x pos')) pos.line X.env = pure false) (hf:X.fn x = true \/ X.env.scope.names.lookup x = some .local)
  (he:VE X md e m pe) (hm:fJ (md.set i m) = true) (hl:i < md.length):VS X md (md.set i m) lm rm (.Assign [.Name x pos'] e pos) (pSet i pe):=⟨(K9 hN hi hx he.h hs hf).imp λD σ H=>by
 rintro ⟨env,W0,H0,W,E,R,q,l⟩
 refine ⟨env,W0,H0,W,_,R,q,λx v W1 H1 g1 r1 q1=>?_⟩
 rw [d9] at q1
 exact l.nx _ W1 _ H1 (R.set g1 r1 hm hl) (g1.ex R.ok) q1⟩
theorem wU {K:PySem.W.Frag} {W0 W:Wd} {H0 H:Hp} {σ:St} {env:b6} (R:Rl K md W0 H0 W σ env H) (hm:md.getD i .no = .o el):∃ W2,Rl K (md.set i (.z el)) W0 H0 W2 σ env H /\ Ex W H W2 H:=by
 have hil:i < md.length:=by
  refine Nat.lt_of_not_le λh=>?_
  rw [a0g,List.getElem?_eq_none h] at hm
  cases hm
 by_cases hx:∃ x,env[i]? = some (some x)
 ·obtain ⟨x,ev⟩:=hx
  obtain ⟨a,o,sv,q⟩:=R.ownAt hm ev
  obtain ⟨W2,R2⟩:=R.freeze hm
  obtain ⟨w,r'⟩:=lR R.ok q q.new
  refine ⟨{ W with F:=λb=>W.F b \/ b = a },⟨R.ok0,⟨λb hb=>.inl (R.go.lF b hb),R.go.lS,λb hb=>?_,R.go.nS,R.go.kp,w,R.go.kk,R.go.kl⟩,R.len,λj y ej=>?_,R2.sep,R2.bws,R.kk⟩,⟨λb h=>.inl h,λ_ _ _ e=>e,λ_ _ _ e=>e⟩⟩
  ·rcases hb with hb | rfl
   ·exact R.go.nF b hb
   ·exact .inr q.new
  ·by_cases hij:i = j
   ·subst hij
    rw [ev] at ej;cases ej
    refine ⟨_,sv,?_⟩
    rw [cN,if_pos ⟨rfl,hil⟩]
    exact ⟨a,o,rfl,r'⟩
   ·obtain ⟨u,su,ru⟩:=R.slot j y ej
    refine ⟨u,su,?_⟩
    rw [cN,if_neg (λz=>hij z.1)]
    cases hmd:md.getD j .no with
    | no=>trivial
    | bw=>have:=fK R.bws (i:=i) (j:=j) (by rw [hm];rfl);rw [hmd] at this;cases this
    | p e'=>have:=fK R.bws (i:=i) (j:=j) (by rw [hm];rfl);rw [hmd] at this;cases this
    | c e'=>have:=fK R.bws (i:=i) (j:=j) (by rw [hm];rfl);rw [hmd] at this;cases this
    | v e'=>rw [hmd] at ru;exact Rep.weak ru λ_ g=>El.up (λ_ h=>.inl h) (λ_ z=>z) g
    | st=>rw [hmd] at ru;exact ru
    | scr=>rw [hmd] at ru;exact ru
    | o e' =>
     rw [hmd] at ru
     obtain ⟨b,ob,z1,qb⟩:=ru
     refine ⟨b,ob,z1,qb.new,λz=>?_,qb.nS,qb.at_,qb.its.mono (λ_ g=>El.up (λ_ h=>.inl h) (λ_ z=>z) g) λ_ _ _ e=>e⟩
     rcases z with z | z
     ·exact qb.nF z
     ·subst z z1
      exact R.sep i j _ _ _ hij (by rw [hm];rfl) (by rw [hmd];rfl) ev ej sv su
    | z e' =>
     rw [hmd] at ru
     obtain ⟨b,ob,z1,qb⟩:=ru
     exact ⟨b,ob,z1,qb.new,.inl qb.F,qb.at_,qb.its.mono (λ_ g=>El.up (λ_ h=>.inl h) (λ_ z=>z) g) λ_ _ _ e=>e⟩
 ·obtain ⟨W2,R2⟩:=R.freeze hm
  refine ⟨W,⟨R.ok0,R.go,R.len,λj y ej=>?_,R2.sep,R2.bws,R.kk⟩,.refl⟩
  have hij:¬ i = j:=λz=>by subst z;exact hx ⟨y,ej⟩
  rw [cN,if_neg (λz=>hij z.1)]
  exact R.slot j y ej
theorem sM (i:Nat) (el:El) (hi:md.getD i .no = .o el) (h:VS X (md.set i (.z el)) mn lm rm s p):VS X md mn lm rm s p:=⟨h.h.imp λD σ H=>by
 rintro ⟨env,W0,H0,W,E,R,q,l⟩
 obtain ⟨W2,R2,x⟩:=wU R hi
 exact ⟨env,W0,H0,W2,E,R2,q,l.after x⟩⟩
def i4 (a b:List Md):Bool:=decide (a.length = b.length) && (a.zip b).all (λp=>p.1.le p.2 && (!p.2.own || p.1.own)) && fJ b
theorem wA {a b:List Md} (h:i4 a b = true):(∀ i,(a.getD i .no).le (b.getD i .no) = true) /\ (∀ i,(b.getD i .no).own = true -> (a.getD i .no).own = true) /\ fJ b = true:=by
 unfold i4 at h
 rw [Bool.and_eq_true,Bool.and_eq_true,List.all_eq_true] at h
 have hl:a.length = b.length:=of_decide_eq_true h.1.1
 have key:∀ i,(hi:i < a.length) -> (a.getD i .no).le (b.getD i .no) = true /\ ((b.getD i .no).own = true -> (a.getD i .no).own = true):=λi hi=>by
  have hb:i < b.length:=by omega
  have:=h.1.2 (a[i],b[i]) (by
   have e:(a.zip b)[i]? = some (a[i],b[i]):=by
    rw [List.getElem?_zip_eq_some]
    exact ⟨a0b hi,a0b hb⟩
   exact List.mem_of_getElem? e)
  rw [Bool.and_eq_true,Bool.or_eq_true] at this
  rw [a0g,a0g,a0b hi,a0b hb]
  refine ⟨this.1,λz=>?_⟩
  rcases this.2 with q | q
  ·simp at q z;rw [z] at q;cases q
  ·exact q
 refine ⟨λi=>?_,λi=>?_,h.2⟩
 ·by_cases hi:i < a.length
  ·exact (key i hi).1
  ·rw [a0g,a0g,List.getElem?_eq_none (by omega),List.getElem?_eq_none (by omega)];rfl
 ·by_cases hi:i < a.length
  ·exact (key i hi).2
  ·rw [a0g,a0g,List.getElem?_eq_none (by omega),List.getElem?_eq_none (by omega)];intro z;exact z
theorem Rl.less {K:PySem.W.Frag} {W0 W:Wd} {H0 H:Hp} {σ:St} {env:b6} (R:Rl K md W0 H0 W σ env H) (h:i4 md m1 = true):Rl K m1 W0 H0 W σ env H:=R.le (wA h).1 (wA h).2.1 (wA h).2.2
theorem cS (h:i4 md m1 = true) (hs:VSs X m1 mn lm rm ss p):VSs X md mn lm rm ss p:=⟨hs.h.imp λD σ H=>by
 rintro ⟨env,W0,H0,W,E,R,q,l⟩
 exact ⟨env,W0,H0,W,E,R.less h,q,l⟩⟩
theorem M6 (h:i4 md m1 = true) (hs:VS X m1 mn lm rm s p):VS X md mn lm rm s p:=⟨hs.h.imp λD σ H=>by
 rintro ⟨env,W0,H0,W,E,R,q,l⟩
 exact ⟨env,W0,H0,W,E,R.less h,q,l⟩⟩
end
abbrev gN:=PV -> b6 -> (b6 -> Prop) -> Prop
abbrev pF:=List PV -> b6 -> (b6 -> Prop) -> Prop
def qW (K:PySem.W.Frag) (md mn:List Md) (el:El) (g:gN):TG:=λv σ H Q=>∃ (env:b6) (W0:Wd) (H0:Hp) (W:Wd) (x:PV) (R:b6 -> Prop),Rl K md W0 H0 W σ env H /\ Rep (el.G W.F H0) H v x /\ g x env R /\ ∀ env' σ',Rl K mn W0 H0 W σ' env' H -> R env' -> Q σ' H
def UB (K:PySem.W.Frag) (md mn:List Md) (el:El) (g:pF):ML:=λvs σ H Q=>∃ (env:b6) (W0:Wd) (H0:Hp) (W:Wd) (xs:List PV) (R:b6 -> Prop),Rl K md W0 H0 W σ env H /\ Reps (el.G W.F H0) H vs xs /\ g xs env R /\ ∀ env' σ',Rl K mn W0 H0 W σ' env' H -> R env' -> Q σ' H
structure VG (X:Cx) (md mn:List Md) (el:El) (tg:Expr) (g:gN):Prop where
 h:PG X tg (qW X.K md mn el g)
structure VGs (X:Cx) (md mn:List Md) (el:El) (tg:List Expr) (g:pF):Prop where
 h:QR X tg (UB X.K md mn el g)
theorem PG.imp {X:Cx} {e:Expr} {t t':TG} (h:PG X e t) (k:∀ v σ H Q,t' v σ H Q -> t v σ H Q):PG X e t':=λpins s σ H v u Q I r q=>h pins s σ H v u Q I r (k v σ H Q q)
theorem QR.imp {X:Cx} {e:List Expr} {t t':ML} (h:QR X e t) (k:∀ v σ H Q,t' v σ H Q -> t v σ H Q):QR X e t':=λpins s σ H v u Q I r q=>h pins s σ H v u Q I r (k v σ H Q q)
def pgName (i:Nat):gN:=λx env R=>R (gH env i (some x))
def pgNil:pF:=λxs env R=>match xs with
 | []=>R env
 | _=>False
def pgCons (g:gN) (u:pF):pF:=λxs env R=>match xs with
 | x :: r=>g x env λenv'=>u r env' R
 | []=>False
def pgTup (n:Nat) (g:pF):gN:=λx env R=>match x with
 | .tup xs=>xs.length = n /\ g xs env R
 | _=>False
section
variable {X:Cx} {md m1 mn:List Md} {el:El} {e:Expr} {es:List Expr} {pos:Pos} {i:Nat}
theorem QJ {x:Str} (hN:X.N.Nodup) (hi:X.N[i]? = some x) (hx:EJ X.env.scope x) (hf:X.fn x = true \/ X.env.scope.names.lookup x = some .local) (hm:fJ (md.set i (.v el)) = true) (hl:i < md.length):VG X md (md.set i (.v el)) el (.Name x pos) (pgName i):=⟨(pW hN hi hx hf).imp λv σ H Q=>by
 rintro ⟨env,W0,H0,W,x,R,Rr,r,q,k⟩
 unfold pgName at q
 rw [d9] at q
 exact k _ _ (Rr.set (Go.refl Rr.ok) (m:=.v el) r hm hl) q⟩
theorem bB:VGs X md md el [] pgNil:=⟨DR.imp λvs σ H Q=>by
 rintro ⟨env,W0,H0,W,xs,R,Rr,r,q,k⟩
 cases xs with
 | nil =>
  have:vs = []:=List.length_eq_zero_iff.mp r.len
  exact ⟨this,k env σ Rr q⟩
 | cons _ _=>exact q.elim⟩
theorem aD {g:gN} {u:pF} (h1:VG X md m1 el e g) (h2:VGs X m1 mn el es u) (hs:(assignEach (e :: es) X.env).map (·.2) = assign e X.env :: (assignEach es X.env).map (·.2):=by rfl):VGs X md mn el (e :: es) (pgCons g u):=⟨(rJ h1.h h2.h hs).imp λvs σ H Q=>by
 rintro ⟨env,W0,H0,W,xs,R,Rr,r,q,k⟩
 cases xs with
 | nil=>exact q.elim
 | cons x xr =>
  cases vs with
  | nil=>have:=r.len;simp at this
  | cons v vr =>
   exact ⟨v,vr,rfl,env,W0,H0,W,x,_,Rr,r.at_ 0 v x rfl rfl,q,λenv' σ' R' z=>⟨env',W0,H0,W,xr,R,R',⟨by have:=r.len;simpa using this,λi w y e1 e2=>r.at_ (i + 1) w y (by simpa using e1) (by simpa using e2)⟩,z,k⟩⟩⟩
theorem bR {k:Nat} {g:pF} {n:Nat} (hc:X.calm = true) (h:VGs X md mn el es g) (hn:(assignEach es X.env).length = n:=by rfl) (hst:(assignEach es X.env).findIdx? (·.1) = none:=by rfl):VG X md mn el (.Tuple es k pos) (pgTup n g):=⟨(K4 hc h.h hn hst).imp λv σ H Q=>by
 rintro ⟨env,W0,H0,W,x,R,Rr,r,q,k⟩
 cases x with
 | tup xs =>
  obtain ⟨a,vs,rfl,e,rs⟩:=r.ofTup
  exact ⟨a,vs,rfl,iM.of e,by rw [rs.len];exact q.1,env,W0,H0,W,xs,R,Rr,rs,q.2,k⟩
 | _=>exact q.elim⟩
def pAsg (a:aQ) (g:gN):bE:=λE env=>a env λx=>g x env E.nx
theorem kN {lm:List Md} {rm:Md} {pe:aQ} {g:gN} {tg:Expr} (he:VE X md e (.v el) pe) (hg:VG X md mn el tg g) (hs:swapsWithSole [tg] e pos.line X.env = pure false:=by rfl) (hw:swappedStores [tg] e X.env = pure none:=by rfl)
  (h1:(assignEach [tg] X.env).map (·.2) = [assign tg X.env]:=by rfl):VS X md mn lm rm (.Assign [tg] e pos) (pAsg pe g):=⟨(wK he.h hg.h hs hw h1).imp λD σ H=>by
 rintro ⟨env,W0,H0,W,E,R,q,l⟩
 refine ⟨env,W0,H0,W,_,R,q,λx v W1 H1 g1 r1 q1=>?_⟩
 exact ⟨env,W0,H0,W1,x,E.nx,R.step g1,r1,q1,λenv' σ' R' z=>l.nx env' W1 σ' H1 R' (g1.ex R.ok) z⟩⟩
end
structure Src (J:It) (el:El) (B:Hp) (W:Wd) (H:Hp) (items:List PV):Prop where
 go:∀ (i:Nat) (W2:Wd) (H2:Hp),Ex W H W2 H2 -> i < items.length -> J.go i H2
 stop:∀ (W2:Wd) (H2:Hp),Ex W H W2 H2 -> J.stop items.length H2
 yld:∀ (i:Nat) (W2:Wd) (H2:Hp) (v:V) (H3:Hp),Ex W H W2 H2 -> Wok W2 H2 -> i < items.length -> J.yld i H2 v H3 -> Go W2 H2 W2 H3 /\ ∃ x,items[i]? = some x /\ Rep (el.G W2.F B) H3 v x
abbrev lA:=b6 -> (List PV -> Prop) -> Prop
def uB (K:PySem.W.Frag) (md:List Md) (el:El) (p:lA):TI:=λσ H R=>∃ (env:b6) (W0:Wd) (H0:Hp) (W:Wd) (Q:List PV -> Prop),Rl K md W0 H0 W σ env H /\ p env Q /\ ∀ (items:List PV) (W':Wd) (H':Hp) (J:It),Go W H W' H' -> Src J el H0 W' H' items -> Q items -> R J H'
structure VI (X:Cx) (md:List Md) (el:El) (tg iter:Expr) (p:lA):Prop where
 h:PI X tg iter (uB X.K md el p)
theorem PI.imp {X:Cx} {tg iter:Expr} {t t':TI} (h:PI X tg iter t) (k:∀ σ H R,t' σ H R -> t σ H R):PI X tg iter t':=λpins s σ H R I q=>h pins s σ H R I (k σ H R q)
def piLst (a:aQ):lA:=λenv Q=>a env λx=>match x with
 | .lst xs=>Q xs
 | _=>False
def piTup (a:aQ):lA:=λenv Q=>a env λx=>match x with
 | .tup xs=>Q xs
 | _=>False
def c8 (lo:Int) (n:Nat):List PV:=(List.range n).map λ(i:Nat)=>PV.int (lo + i)
theorem bM (lo:Int) (n:Nat):(c8 lo n).length = n:=by simp [c8]
theorem u5 {lo:Int} {n i:Nat} (h:i < n):(c8 lo n)[i]? = some (.int (lo + i)):=by simp [c8,h]
def piRng1 (a:aQ):lA:=λenv Q=>a env λx=>match x with
 | .int j=>-(2 ^ 62) <= j /\ j < 2 ^ 62 /\ Q (c8 0 j.toNat)
 | _=>False
section
variable {X:Cx} {md:List Md} {el:El} {a b e tg:Expr} {pa pb pe:aQ} {p pos:Pos}
theorem A1 {K:PySem.W.Frag} {B:Hp} {W:Wd} {H:Hp} {l:Addr} {vs:List V} {xs:List PV} (hF:W.F l) (e:H l = some (.lst vs)) (r:Reps (el.G W.F B) H vs xs):Src (ZZ K l) el B W H xs where
 go:=λi W2 H2 x hi=>⟨vs,vs[i]'(by rw [r.len];exact hi),cT.of (x.kp l _ hF e),a0b _⟩
 stop:=λW2 H2 x=>⟨vs,cT.of (x.kp l _ hF e),by rw [r.len];exact Nat.le_refl _⟩
 yld:=λi W2 H2 v H3 x w hi y=>by
  obtain ⟨rfl,y⟩:=y
  have:=y vs (cT.of (x.kp l _ hF e))
  obtain ⟨z,ez,rz⟩:=r.getV this
  exact ⟨Go.refl w,z,ez,x.rep (λ_ g=>El.GF g) (λ_ g=>El.up x.lF (λ_ h=>h) g) rz⟩
theorem PQ {K:PySem.W.Frag} {B:Hp} {W:Wd} {H:Hp} {l:Addr} {vs:List V} {xs:List PV} (e:H l = some (.tup vs)) (r:Reps (el.G W.F B) H vs xs):Src (a00 K l) el B W H xs where
 go:=λi W2 H2 x hi=>⟨vs,vs[i]'(by rw [r.len];exact hi),iM.of (x.im l _ rfl e),a0b _⟩
 stop:=λW2 H2 x=>⟨vs,iM.of (x.im l _ rfl e),by rw [r.len];exact Nat.le_refl _⟩
 yld:=λi W2 H2 v H3 x w hi y=>by
  obtain ⟨rfl,y⟩:=y
  have:=y vs (iM.of (x.im l _ rfl e))
  obtain ⟨z,ez,rz⟩:=r.getV this
  exact ⟨Go.refl w,z,ez,x.rep (λ_ g=>El.GF g) (λ_ g=>El.up x.lF (λ_ h=>h) g) rz⟩
theorem PP {B:Hp} {W:Wd} {H:Hp} {lo:Int} {n:Nat}:Src (MG lo n) el B W H (c8 lo n) where
 go:=λi W2 H2 x hi=>by rw [bM] at hi;exact hi
 stop:=λW2 H2 x=>by rw [bM];exact Nat.le_refl n
 yld:=λi W2 H2 v H3 x w hi y=>by
  obtain ⟨rfl,rfl⟩:=y
  rw [bM] at hi
  exact ⟨Go.refl w,_,u5 hi,.int _⟩
theorem bS (h:VE X md e (.v el) pe):VI X md el tg e (piLst pe):=⟨(DS h.h).imp λσ H R=>by
 rintro ⟨env,W0,H0,W,Q,Rr,q,k⟩
 refine ⟨env,W0,H0,W,_,Rr,q,λx v W1 H1 g1 r1 q1=>?_⟩
 cases x with
 | lst xs =>
  obtain ⟨a,vs,rfl,g,e,rs⟩:=Rep.ofList r1
  exact ⟨a,rfl,⟨vs,cT.of e⟩,k xs W1 H1 _ g1 (A1 (El.GF g) e rs) q1⟩
 | _=>exact q1.elim⟩
theorem dW (h:VE X md e (.z el) pe):VI X md el tg e (piLst pe):=⟨(DS h.h).imp λσ H R=>by
 rintro ⟨env,W0,H0,W,Q,Rr,q,k⟩
 refine ⟨env,W0,H0,W,_,Rr,q,λx v W1 H1 g1 r1 q1=>?_⟩
 cases x with
 | lst xs =>
  obtain ⟨a,o,rfl,z⟩:=r1
  have z2:=z.its
  have z3:=z.at_
  cases z2 with
  | lst rs=>exact ⟨a,rfl,⟨_,cT.of z3⟩,k xs W1 H1 _ g1 (A1 z.F z3 rs) q1⟩
 | _=>exact q1.elim⟩
theorem WS (h:VE X md e (.v el) pe):VI X md el tg e (piTup pe):=⟨(V2 h.h).imp λσ H R=>by
 rintro ⟨env,W0,H0,W,Q,Rr,q,k⟩
 refine ⟨env,W0,H0,W,_,Rr,q,λx v W1 H1 g1 r1 q1=>?_⟩
 cases x with
 | tup xs =>
  obtain ⟨a,vs,rfl,e,rs⟩:=Rep.ofTup r1
  exact ⟨a,rfl,⟨vs,iM.of e⟩,k xs W1 H1 _ g1 (PQ e rs) q1⟩
 | _=>exact q1.elim⟩
theorem eT (hg:X.env.scope.names.lookup (Str.ofString "range") = some NameKind.globalImplicit) (hm:X.mg "range" = none) (ha:VE X md a .bw pa) (hs:starEach [a] X.env = [(false,eval a X.env)]:=by rfl):VI X md .fl tg (.Call (.Name "range" p) [a] [] pos) (piRng1 pa) :=
 ⟨(uO hg hm (a7 ha a9 hs).h hs).imp λσ H R=>by
 rintro ⟨env,W0,H0,W,Q,Rr,q,k⟩
 refine ⟨env,W0,H0,W,λxs=>match xs with | [.int j]=>-(2 ^ 62) <= j /\ j < 2 ^ 62 /\ Q (c8 0 j.toNat) | _=>False,Rr,?_,λxs vs W1 H1 g1 r1 q1=>?_⟩
 ·show pa env _
  unfold piRng1 at q
  refine (iff_of_eq (congrArg (pa env) (funext λx=>?_))).mp q
  cases x <;> rfl
 ·obtain ⟨v,x,rfl,rfl,r⟩:=r1.one
  cases x with
  | int j=>exact ⟨j,by rw [Rep.ofInt r],q1.1,q1.2.1,k _ W1 H1 _ g1 PP q1.2.2⟩
  | _=>exact q1.elim⟩
end
def mQ (g:gN) (b:bE) (E:PEnds):List PV -> b6 -> Prop
 | [],env=>E.nx env
 | x :: xs,env=>g x env λenv1=>b { E with nx:=mQ g b E xs,ct:=mQ g b E xs,bk:=E.nx } env1
def pFor (s:lA) (g:gN) (b:bE):bE:=λE env=>s env λitems=>mQ g b E items env
def C1 (c:dX) (b:bE):bE:=λE env=>∃ I:Nat -> b6 -> Prop,(∃ m,I m env) /\ ∀ m env,I m env ->
 c env λk=>Br k (∃ N:b6 -> Prop,(∀ env',N env' -> ∃ m',m' < m /\ I m' env') /\ b { E with nx:=N,ct:=N,bk:=E.nx } env) (E.nx env)
section
variable {X:Cx} {md m1 mn lm l2:List Md} {rm:Md} {el:El} {tg iter c:Expr} {body:List Stmt} {s:lA} {g:gN} {b:bE} {pc:dX} {pos:Pos}
theorem J3 {K:PySem.W.Frag} (hlm:fJ lm = true) {wi:TI} {σ:St} {H:Hp} {D:Ends} (h:DK K lm lm l2 rm (pFor s g b) D σ H):LN (uB K lm el s) (qW K lm m1 el g) (DK K m1 lm lm rm b) D σ H:=by
 obtain ⟨env,W0,H0,W,E,R,q,l⟩:=h
 refine ⟨env,W0,H0,W,_,R,q,λitems W1 H1 J g1 sr q1=>?_⟩
 refine ⟨λi m σ H=>m = items.length - i /\ i <= items.length /\ ∃ env W',Rl K lm W0 H0 W' σ env H /\ Ex W1 H1 W' H /\ mQ g b E (items.drop i) env,⟨items.length,by simp,Nat.zero_le _,env,W1,R.step g1,.refl,by simpa using q1⟩,?_⟩
 rintro i m σ2 H2 ⟨rfl,hi,env2,W2,R2,x2,q2⟩
 by_cases hlt:i < items.length
 ·rw [List.drop_eq_getElem_cons hlt] at q2
  refine .inr ⟨sr.go i W2 H2 x2 hlt,λσ' H'=>i + 1 <= items.length /\ ∃ env W',Rl K lm W0 H0 W' σ' env H' /\ Ex W1 H1 W' H' /\ mQ g b E (items.drop (i + 1)) env,λσ' H' z=>⟨items.length - (i + 1),by omega,rfl,z.1,z.2⟩,λv H3 y=>?_⟩
  obtain ⟨g3,x,ex,rx⟩:=sr.yld i W2 H2 v H3 x2 R2.ok hlt y
  rw [a0b hlt] at ex
  cases ex
  refine ⟨env2,W0,H0,W2,_,_,R2.step g3,rx,q2,λenv' σ' R' z=>⟨env',W0,H0,W2,_,R',z,?_,l.rt,?_,?_⟩⟩
  ·exact λenv4 W4 σ4 H4 R4 x4 z4=>⟨hlt,env4,W4,R4,(x2.trans (g3.ex R2.ok)).trans x4,z4⟩
  ·exact λenv4 W4 σ4 H4 R4 x4 z4=>l.nx env4 W4 σ4 H4 R4 ((((g1.ex R.ok).trans x2).trans (g3.ex R2.ok)).trans x4) z4
  ·exact λenv4 W4 σ4 H4 R4 x4 z4=>⟨hlt,env4,W4,R4,(x2.trans (g3.ex R2.ok)).trans x4,z4⟩
 ·have e:i = items.length:=by omega
  subst e
  rw [List.drop_length] at q2
  exact .inl ⟨sr.stop W2 H2 x2,l.nx env2 W2 σ2 H2 R2 ((g1.ex R.ok).trans x2) q2⟩
theorem dC (hp:PassesOwn (model X.prog X.w) X.A X.env X.xe) (hc:X.calm = true) (hlm:fJ lm = true) (hi:VI X lm el tg iter s) (hg:VG X lm m1 el tg g) (hb:VSs X m1 lm lm rm body b)
  (hs:∀ x,foldedSetIterable iter X.env x = pure x:=by intro _;rfl):VS X lm lm l2 rm (.For tg iter body [] pos) (pFor s g b):=⟨(K8 hp hc hi.h hg.h hb.h hs).imp λD σ H h=>J3 (wi:=uB X.K lm el s) hlm h⟩
theorem A9 (hp:PassesOwn (model X.prog X.w) X.A X.env X.xe) (hc:VT X lm c pc) (hb:VSs X lm lm lm rm body b):VS X lm lm l2 rm (.While c body [] pos) (C1 pc b):=⟨(KA hp hc.h hb.h).imp λD σ H h=>by
 obtain ⟨env,W0,H0,W,E,R,⟨I,⟨m,i0⟩,turn⟩,l⟩:=h
 refine ⟨λm σ2 H2=>∃ env W',Rl X.K lm W0 H0 W' σ2 env H2 /\ Ex W H W' H2 /\ I m env,⟨m,env,W,R,.refl,i0⟩,?_⟩
 rintro m σ2 H2 ⟨env2,W2,R2,x2,i2⟩
 refine ⟨env2,W0,H0,W2,_,R2,turn m env2 i2,λk W3 H3 g3 q3=>?_⟩
 cases k with
 | true =>
  rw [if_pos rfl]
  obtain ⟨N,hN,q3⟩:=q3
  refine ⟨λσ' H'=>∃ env W',Rl X.K lm W0 H0 W' σ' env H' /\ Ex W H W' H' /\ N env,λσ' H' z=>?_,env2,W0,H0,W3,_,R2.step g3,q3,?_,l.rt,?_,?_⟩
  ·obtain ⟨env',W',R',x',n'⟩:=z
   obtain ⟨m',hm,i'⟩:=hN env' n'
   exact ⟨m',hm,env',W',R',x',i'⟩
  ·exact λenv4 W4 σ4 H4 R4 x4 z4=>⟨env4,W4,R4,(x2.trans (g3.ex R2.ok)).trans x4,z4⟩
  ·exact λenv4 W4 σ4 H4 R4 x4 z4=>l.nx env4 W4 σ4 H4 R4 ((x2.trans (g3.ex R2.ok)).trans x4) z4
  ·exact λenv4 W4 σ4 H4 R4 x4 z4=>⟨env4,W4,R4,(x2.trans (g3.ex R2.ok)).trans x4,z4⟩
 | false =>
  rw [if_neg a0k]
  exact l.nx env2 W3 σ2 H3 (R2.step g3) (x2.trans (g3.ex R2.ok)) q3⟩
end
def a1F:Md -> Md
 | .bw=>.v .sh
 | m=>m
def lB:Md -> Bool
 | .bw=>true
 | .st=>true
 | .scr=>true
 | _=>false
def n5:Md -> Bool
 | .v .fl=>true
 | .v .sn=>true
 | .o .fl=>true
 | .o .sn=>true
 | .z .fl=>true
 | .z .sn=>true
 | .st=>true
 | _=>false
def M9 (K:PySem.W.Frag) (ms:List Md) (rm:Md) (p:PN):Sp:=λvs H Q _=>∃ (xs:List PV) (W:Wd) (R:PV -> Prop),W.K = K /\ Wok W H /\ ResEs H H W H ms vs xs /\ p xs R /\
 ∀ (x:PV) (v:V) (W':Wd) (H':Hp),Go W H W' H' -> ResE H H W' H' rm v x -> R x -> Q v H'
def cP (N:List Str) (xs:List PV):b6:=xs.map some ++ List.replicate (N.length - xs.length) none
def f9 (N:List Str) (ms:List Md):List Md:=ms.map a1F ++ List.replicate (N.length - ms.length) .no
def iI (rm:Md) (R:PV -> Prop):Prop:=match rm with
 | .v _=>R .non
 | _=>False
theorem ResEs.at {B H0 H:Hp} {W:Wd} {ms:List Md} {vs:List V} {xs:List PV} (r:ResEs B H0 W H ms vs xs) {i:Nat} {x:PV} (e:xs[i]? = some x):∃ m v,ms[i]? = some m /\ vs[i]? = some v /\ ResE B H0 W H m v x:=by
 induction r generalizing i with
 | nil=>simp at e
 | cons h _ ih =>
  cases i with
  | zero=>simp at e;subst e;exact ⟨_,_,rfl,rfl,h⟩
  | succ i=>simp at e;obtain ⟨m,v,e1,e2,q⟩:=ih e;exact ⟨m,v,by simpa using e1,by simpa using e2,q⟩
theorem ResE.arg {B H0 H B' H0':Hp} {W:Wd} {m:Md} {v:V} {x:PV} (r:ResE B H0 W H m v x) (h:lB m = true):ResE B' H0' W H m v x:=by
 cases m <;> first | exact r | cases h
theorem ResEs.arg {B H0 H B' H0':Hp} {W:Wd} {ms:List Md} {vs:List V} {xs:List PV} (r:ResEs B H0 W H ms vs xs) (h:ms.all lB = true):ResEs B' H0' W H ms vs xs:=by
 induction r with
 | nil=>exact .nil
 | cons q _ ih =>
  rw [List.all_cons,Bool.and_eq_true] at h
  exact .cons (q.arg h.1) (ih h.2)
def AT (W:Wd) (H:Hp):Wd:={ W with F:=λa=>(∃ o,H a = some o) /\ ¬ W.S a }
theorem CU {W:Wd} {H:Hp} (w:Wok W H):Wok (AT W H) H:=⟨λ_ h=>h.1,w.sS,λ_ h=>h.2⟩
theorem Rep.alloc {W:Wd} {H:Hp} {v:V} {x:PV} (r:Rep (λa=>¬ W.S a) H v x):Rep (AT W H).F H v x:=by
 induction r with
 | non=>exact .non
 | bl b=>exact .bl b
 | int i=>exact .int i
 | str x=>exact .str x
 | ty n=>exact .ty n
 | set e=>exact .set e
 | lst g e l _ ih=>exact .lst ⟨⟨_,e⟩,g⟩ e l ih
 | tup e l _ ih=>exact .tup e l ih
 | dic g e l1 l _ ih=>exact .dic ⟨⟨_,e⟩,g⟩ e l1 l ih
theorem L7 {K:PySem.W.Frag} {N:List Str} {ms:List Md} {vs:List V} {xs:List PV} {W:Wd} {H:Hp} (hk:W.K = K) (w:Wok W H) (r:ResEs H H W H ms vs xs) (hm:ms.all lB = true):Rl K (f9 N ms) (AT W H) H (AT W H) (start N vs) (cP N xs) H:=by
 have hlen:=r.len
 have getm:∀ i m,ms[i]? = some m -> (f9 N ms).getD i .no = a1F m:=λi m e=>by
  have hi:=(a0i.mp e).1
  unfold f9
  rw [a0g,List.getElem?_append_left (by simpa using hi),a0h,e];rfl
 have none_:∀ i,ms.length <= i -> (f9 N ms).getD i .no = .no:=λi hi=>by
  unfold f9
  rw [a0g,List.getElem?_append_right (by simpa using hi),List.getElem?_replicate]
  split <;> rfl
 have nown:∀ i,((f9 N ms).getD i .no).own = false:=λi=>by
  cases e:ms[i]? with
  | none=>rw [none_ i (List.getElem?_eq_none_iff.mp e)];rfl
  | some m =>
   rw [getm i m e]
   have:=List.all_eq_true.mp hm m (List.mem_of_getElem? e)
   cases m <;> first | rfl | cases this
 refine ⟨CU w,Go.refl (CU w),?_,λi x e=>?_,λi j x y a hij oi=>(by rw [nown i] at oi;cases oi),?_,hk⟩
 ·simp [start,cP,hlen.1]
 ·unfold cP at e
  by_cases hi:i < xs.length
  ·rw [List.getElem?_append_left (by simpa using hi),a0h] at e
   cases ex:xs[i]? with
   | none=>rw [ex] at e;cases e
   | some y =>
    rw [ex] at e
    cases e
    obtain ⟨m,v,e1,e2,q⟩:=r.at ex
    refine ⟨v,?_,?_⟩
    ·unfold start
     rw [List.getElem?_append_left (by simpa [hlen.1] using hi),a0h,e2];rfl
    ·rw [getm i m e1]
     have:=List.all_eq_true.mp hm m (List.mem_of_getElem? e1)
     cases m with
     | bw=>exact Rep.alloc q
     | st=>exact q
     | scr=>exact q
     | _=>cases this
  ·rw [List.getElem?_append_right (by simpa using hi),List.getElem?_replicate] at e
   split at e <;> cases e
 ·unfold fJ
  rw [Bool.or_eq_true,List.all_eq_true,List.all_eq_true]
  refine .inr λm h=>?_
  unfold f9 at h
  rcases List.mem_append.mp h with z | z
  ·obtain ⟨m',h1,rfl⟩:=List.mem_map.mp z
   have:=List.all_eq_true.mp hm m' h1
   cases m' <;> first | rfl | cases this
  ·rw [(List.mem_replicate.mp z).2];rfl
theorem zT {W W1:Wd} {H H1:Hp} {rm:Md} {v:V} {x:PV} (w:Wok W H) (hr:n5 rm = true) (g:Go (AT W H) H W1 H1) (r:ResE H H W1 H1 rm v x) :
  ∃ W',Go W H W' H1 /\ ResE H H W' H1 rm v x:=by
 refine ⟨{ W1 with F:=λa=>W.F a \/ (W1.F a /\ H a = none) },⟨λ_ h=>.inl h,g.lS,λa h=>h.elim .inl λz=>.inr z.2,g.nS,g.kp,⟨λa h=>?_,g.ok.sS,λa h=>?_⟩,g.kk,g.kl⟩,?_⟩
 ·rcases h with h | h
  ·obtain ⟨o,e⟩:=w.fF a h
   exact ⟨o,g.kp a o e (w.dj a h)⟩
  ·exact g.ok.fF a h.1
 ·rcases h with h | h
  ·obtain ⟨o,e⟩:=w.fF a h
   exact g.nSS e (w.dj a h)
  ·exact g.ok.dj a h.1
 ·have up:∀ {e:El} {a:Addr},e ≠ .sh -> e.G W1.F H a -> e.G (λa=>W.F a \/ (W1.F a /\ H a = none)) H a:=fun {e a} he q=>by
   cases e with
   | fl=>exact q
   | sn=>exact ⟨.inr q,q.2⟩
   | sh=>exact absurd rfl he
  have own:∀ {e:El},e ≠ .sh -> ResE H H W1 H1 (.o e) v x -> ResE H H { W1 with F:=λa=>W.F a \/ (W1.F a /\ H a = none) } H1 (.o e) v x:=λhe q=>by
   obtain ⟨a,o,rfl,q⟩:=q
   exact ⟨a,o,rfl,q.new,λz=>z.elim (λz=>w.offF q.new z) λz=>q.nF z.1,q.nS,q.at_,q.its.mono (λ_ g=>up he g) λ_ _ _ e=>e⟩
  have frz:∀ {e:El},e ≠ .sh -> ResE H H W1 H1 (.z e) v x -> ResE H H { W1 with F:=λa=>W.F a \/ (W1.F a /\ H a = none) } H1 (.z e) v x:=λhe q=>by
   obtain ⟨a,o,rfl,q⟩:=q
   exact ⟨a,o,rfl,q.new,.inr ⟨q.F,q.new⟩,q.at_,q.its.mono (λ_ g=>up he g) λ_ _ _ e=>e⟩
  cases rm with
  | v e =>
   cases e with
   | fl=>exact r
   | sn=>exact Rep.weak r λ_ g=>up (by intro z;cases z) g
   | sh=>cases hr
  | o e =>
   cases e with
   | fl=>exact own (by intro z;cases z) r
   | sn=>exact own (by intro z;cases z) r
   | sh=>cases hr
  | z e =>
   cases e with
   | fl=>exact frz (by intro z;cases z) r
   | sn=>exact frz (by intro z;cases z) r
   | sh=>cases hr
  | st=>exact r
  | _=>cases hr
theorem QH {P:Program} {w:World} {K:PySem.W.Frag} {mg:Str -> Option Value} {base:Heap} {x:Str} {st:Stmt} {N ps:List Str} {k:Nat} {ms mn:List Md} {rm:Md} {p:bE} {d:PN} (hd:∀ xs R,d xs R -> p { nx:=λ_=>iI rm R,rt:=R } (cP N xs)) (D:Df K mg x st) (S:FnScope N ps (aA st))
  (hb:∀ (kV doc pm:Value) (an:Option Addr) (cdv ct:Value) (us:List Value),us.length = ps.length -> bindArgs (PySem.W.fnOf x x (cK st) (bI st) (aA st) .none kV doc pm an cdv ct) ⟨us,[]⟩ = pure (ps.zip us))
  (hm:ms.all lB = true) (hr:n5 rm = true)
  (hlen:ms.length = ps.length) (hbody:∀ (f:Addr) (cdv:Value) (A:Around) (outer:List Env) (s:Shared) (H:Hp) (E:XK),Room k (A.deeper (envOfC x (aA st) s.heap.objs.size f cdv)) ->
   VSs (cI iU P w K mg base N x (aA st) f cdv A outer s H E).nox (f9 N ms) mn [] rm (bI st) p) :
  Cal P w K mg base (k + 1) x ps (M9 K ms rm d):=by
 refine D.ok S hb (λvs H Q E h=>?_) (λf cdv A outer s H vs Q E hr' h=>?_)
 ·obtain ⟨xs,W,R,_,_,r,_⟩:=h
  have:=r.len
  omega
 ·obtain ⟨xs,W,R,hk,wk,r,q,kk⟩:=h
  have q:=hd xs R q
  refine ⟨_,(hbody f cdv A outer s H E hr').h,cP N xs,AT W H,H,AT W H,{ nx:=λ_=>iI rm R,rt:=R },L7 hk wk r hm,q,?_,?_,λ_ _ _ _ _ _ z=>z.elim,λ_ _ _ _ _ _ z=>z.elim⟩
  ·intro env W' σ H' Rr _ z
   have z':iI rm R:=z
   unfold iI at z'
   cases rm with
   | v e =>
    obtain ⟨W2,g2,r2⟩:=zT (rm:=.v e) wk hr Rr.go (v:=.non) (x:=.non) .non
    exact kk .non .non W2 H' g2 r2 z'
   | _=>exact z'.elim
  ·intro y v W' H' g r1 z
   obtain ⟨W2,g2,r2⟩:=zT wk hr g r1
   exact kk y v W2 H' g2 r2 z
theorem ResE.ret {B H1 H2:Hp} {W0 W1 W2:Wd} {rm:Md} {v:V} {x:PV} (g:Go W0 B W1 H1) (hr:n5 rm = true) (r:ResE H1 H1 W2 H2 rm v x):ResE B H1 W2 H2 rm v x:=by
 have up:∀ {e:El} {a:Addr},e.G W2.F H1 a -> e.G W2.F B a:=λq=>El.up (λ_ h=>h) (λ_ z=>g.free z) q
 cases rm with
 | v e=>exact Rep.weak r λ_ q=>up q
 | o e=>obtain ⟨a,o,rfl,q⟩:=r;exact ⟨a,o,rfl,q.new,q.nF,q.nS,q.at_,q.its.mono (λ_ q=>up q) λ_ _ _ e=>e⟩
 | z e=>obtain ⟨a,o,rfl,q⟩:=r;exact ⟨a,o,rfl,g.free q.new,q.F,q.at_,q.its.mono (λ_ q=>up q) λ_ _ _ e=>e⟩
 | st=>exact r
 | _=>cases hr
section
variable {X:Cx} {md:List Md} {e:Expr} {es:List Expr} {pt:kP} {p pos:Pos} {k:Nat} {x:Str} {ps:List Str} {ms:List Md} {rm:Md} {pn:PN}
theorem WO (C:Cal X.prog X.w X.K X.mg X.base k x ps (M9 X.K ms rm pn)) (hr:Room k X.A) (hm:ms.all lB = true) (hrm:n5 rm = true) (ha:VA X md (e :: es) ms pt) (hg:X.env.scope.names.lookup x = some .globalImplicit)
  (hdb:(x == ("__debug__" : Str)) = false) (he:starEach (e :: es) X.env = (false,eval e X.env) :: starEach es X.env:=by rfl) (hpl:(backTo pos (starEach es X.env)).any (·.1) = false:=by rfl) :
  VE X md (.Call (.Name x p) (e :: es) [] pos) rm (pCl pn pt):=⟨(UT C hr ha.h hg hdb he hpl).imp λσ H K=>by
 rintro ⟨env,W0,H0,W,Q,R,q,k⟩
 refine ⟨env,W0,H0,W,_,R,q,λxs vs W1 H1 g1 r1 q1=>?_⟩
 refine ⟨xs,W1,Q,g1.kk.trans R.kk,g1.ok,by rw [List.append_nil];exact r1.arg hm,q1,λy v W2 H2 g2 r2 q2=>?_⟩
 exact k y v W2 H2 (g1.trans g2) (ResE.base g1 (ResE.ret (R.go.trans g1) hrm r2)) q2⟩
end
structure SimM (r:V -> List V -> Hp -> VK -> Prop) (ms:List Md) (el:El) (pm:PV -> List PV -> (PV -> Prop) -> Prop):Prop where
 h:∀ (B Hs:Hp) (W:Wd) (H:Hp) (a:Addr) (o:HO) (x:PV) (vs:List V) (ys:List PV) (R:PV -> Prop) (K:VK),Wok W H -> H a = some o -> ¬ W.F a -> ¬ W.S a -> Body (el.G W.F B) H o x -> ResEs B Hs W H ms vs ys -> pm x ys R ->
  (∀ (o':HO) (x':PV) (v:V),o'.imm = false -> Body (el.G W.F B) H o' x' -> R x' -> K v (bD H a o')) -> r (.ref a) vs H K
theorem wL {K:PySem.W.Frag} {md:List Md} {W0 W:Wd} {H0 H:Hp} {σ:St} {env:b6} {i:Nat} {el:El} {a:Addr} {o o':HO} {x:PV} (q:OwnL el H0 H0 W H a o x):Ex W H W (bD H a o'):=⟨λ_ h=>h,λb u f e=>by rw [aE (λz=>by subst z;exact q.nF f)];exact e,λb u im e=>by
 rw [aE (λz=>?_)];exact e
 subst z
 have:=q.its
 rw [q.at_] at e;cases e
 cases this <;> cases im⟩
section
variable {X:Cx} {md lm:List Md} {rm:Md} {e o:Expr} {es:List Expr} {pt:kP} {pe pj:aQ} {el:El} {i:Nat} {T id:String} {r:V -> List V -> Hp -> VK -> Prop} {ms:List Md} {pm:PV -> List PV -> (PV -> Prop) -> Prop} {name:Str} {apos cpos pos p:Pos}
theorem UR {K:PySem.W.Frag} {H:Hp} {a:Addr} {o:HO} {x:PV} {G:Addr -> Prop} (b:Body G H o x) (e:H a = some o) (hT:(∃ xs,x = .lst xs /\ T = "list") \/ ∃ ks xs,x = .dic ks xs /\ T = "dict"):ZX K T (.ref a) H:=by
 rcases hT with ⟨xs,rfl,rfl⟩ | ⟨ks,xs,rfl,rfl⟩
 ·cases b with
  | lst h=>exact .inl ⟨rfl,_,cT.of e⟩
 ·cases b with
  | dic l h=>exact .inr (.inr (.inl ⟨rfl,.inl ⟨_,e⟩⟩))
def tyP (T:String) (x:PV):Prop:=match x with
 | .lst _=>T = "list"
 | .dic _ _=>T = "dict"
 | _=>False
def pMethT (T:String) (i:Nat) (pm:PV -> List PV -> (PV -> Prop) -> Prop) (t:kP):bE:=λE env=>match l8 env i with
 | some (some x)=>tyP T x /\ t env λys=>pm x ys λx'=>E.nx (gH env i (some x'))
 | _=>False
theorem WJ {x:PV} (h:tyP T x):(∃ xs,x = .lst xs /\ T = "list") \/ ∃ ks xs,x = .dic ks xs /\ T = "dict" := by
 cases x <;> first | exact .inl ⟨_,rfl,h⟩ | exact .inr ⟨_,_,rfl,h⟩ | exact (show False from h).elim
theorem l6 (pa:PlainAttrs T) (slot:Slot T name id) (hty:typeOf (.builtin id) = pure (.type "method_descriptor")) (hm:QM X id r) (hs:SimM r ms el pm) (ho:QE X o (dU i)) (hi:md.getD i .no = .o el) (ha:VA X md (e :: es) ms pt)
  (hsw:swapsWith (.Call (.Attribute o name apos) (e :: es) [] cpos) none pos.line X.env = pure false:=by rfl)
  (hbase:attributeBase o name X.env (eval o X.env) = eval o X.env:=by rfl)
  (hfew:((backTo cpos (starEach (e :: es) X.env)).all (λx=>!x.1) && (backToKw cpos (keywordEach [] X.env)).all (λx=>x.1.isSome)
   && decide ((e :: es).length + ([]:List Keyword).length + (if ([]:List Keyword).isEmpty then 0 else 1) < 30)) = true:=by rfl)
  (hline:(apos.endLine == cpos.line) = true:=by rfl) (hse:starEach (e :: es) X.env = (false,eval e X.env) :: starEach es X.env:=by rfl) (hplain:(backTo cpos (starEach es X.env)).any (·.1) = false:=by rfl) :
  VS X md md lm rm (.Expr (.Call (.Attribute o name apos) (e :: es) [] cpos) pos) (pMethT T i pm pt):=⟨(OU (RE pa slot hty hm.h ho.h ha.h hbase hfew hline hse hplain) hsw).imp λD σ H=>by
 rintro ⟨env,W0,H0,W,E,R,q,l⟩
 unfold pMethT at q
 rw [j7] at q
 cases ev:env[i]? with
 | none=>rw [ev] at q;exact q.elim
 | some ox =>
  cases ox with
  | none=>rw [ev] at q;exact q.elim
  | some x =>
   rw [ev] at q
   obtain ⟨a,ob,sv,oq⟩:=R.ownAt hi ev
   refine ⟨.ref a,sv,UR oq.its oq.at_ (WJ q.1),env,W0,H0,W,_,R,q.2,λys vs W1 H1 g1 r1 q1=>?_⟩
   have R1:=R.step g1
   obtain ⟨a1,o1,sv1,oq1⟩:=R1.ownAt hi ev
   rw [sv] at sv1;cases sv1
   refine hs.h H0 H W1 H1 a o1 x vs ys _ _ g1.ok oq1.at_ oq1.nF oq1.nS oq1.its r1 q1 λo' x' v im b z=>?_
   rw [d9] at z
   exact l.nx _ W1 σ _ (R1.put hi ev sv b im) ((g1.ex R.ok).trans (wL (K:=X.K) (md:=md) (W0:=W0) (σ:=σ) (env:=env) (i:=i) oq1)) z⟩
def pmAppend:PV -> List PV -> (PV -> Prop) -> Prop:=λx ys R=>match x,ys with
 | .lst xs,[y]=>xs.length < sizeLine /\ R (.lst (xs ++ [y]))
 | _,_=>False
theorem dN:SimM wR [.v el] el pmAppend:=⟨λB Hs W H a o x vs ys R K w e nF nS b r q k=>by
 obtain ⟨v,y,rfl,rfl,r1⟩:=r.one
 cases b with
 | lst h=>exact ⟨a,_,v,rfl,rfl,e,by rw [h.len];exact q.1,k _ _ _ rfl (.lst (h.append (.cons r1 .nil))) q.2⟩
 | dic l h=>exact q.elim⟩
def pPut (i:Nat) (pe pj:aQ):bE:=λE env=>pe env λy=>match l8 env i with
 | some (some (.lst xs))=>pj env λj=>(match j with
  | .int k=>(match sN xs.length k with
   | some n=>E.nx (gH env i (some (.lst (xs.set n y))))
   | none=>False)
  | _=>False)
 | _=>False
theorem WT {j:Expr} (ho:QE X o (dU i)) (hi:md.getD i .no = .o el) (he:VE X md e (.v el) pe) (hj:VE X md j .bw pj)
  (ha:∀ v,assign (.Subscript o j p) X.env v = (do
   let ov <- holding [v] (eval o X.env)
   let iv <- holding [v,ov] (eval j X.env)
   standAt p
   holding [v,ov,iv] (setItem ov iv v)
   release [v,ov,iv] []):=by intro _;rfl)
  (hs:swapsWithSole [.Subscript o j p] e pos.line X.env = pure false:=by rfl) (hw:swappedStores [.Subscript o j p] e X.env = pure none:=by rfl)
  (h1:(assignEach [.Subscript o j p] X.env).map (·.2) = [assign (.Subscript o j p) X.env]:=by rfl):VS X md md lm rm (.Assign [.Subscript o j p] e pos) (pPut i pe pj):=⟨(wK he.h (wI ho.h hj.h nD ha) hs hw h1).imp λD σ H=>by
 rintro ⟨env,W0,H0,W,E,R,q,l⟩
 refine ⟨env,W0,H0,W,_,R,q,λy v W1 H1 g1 r1 q1=>?_⟩
 have R1:=R.step g1
 rw [j7] at q1
 cases ev:env[i]? with
 | none=>rw [ev] at q1;exact q1.elim
 | some ox =>
  cases ox with
  | none=>rw [ev] at q1;exact q1.elim
  | some x =>
   rw [ev] at q1
   cases x with
   | lst xs =>
    obtain ⟨a,ob,sv,oq⟩:=R1.ownAt hi ev
    refine ⟨.ref a,sv,env,W0,H0,W1,_,R1,q1,λjv u W2 H2 g2 r2 q2=>?_⟩
    have R2:=R1.step g2
    obtain ⟨a2,o2,sv2,oq2⟩:=R2.ownAt hi ev
    rw [sv] at sv2;cases sv2
    cases jv with
    | int k =>
     dsimp only at q2
     cases hn:sN xs.length k with
     | none=>rw [hn] at q2;exact q2.elim
     | some n =>
      rw [hn] at q2
      have b:=oq2.its
      have oq3:=oq2
      have hat:=oq2.at_
      generalize o2 = oo at b hat oq3
      cases b with
      | @lst us _ h =>
       have r1':Rep (el.G W2.F H0) H2 v y:=ResE.go (m:=.v el) r1 g1.ok g2
       refine ⟨a,us,k,n,rfl,Rep.ofInt r2,hat,by rw [h.len];exact hn,?_⟩
       have q2:E.nx (gH env i (some (PV.lst (xs.set n y)))):=q2
       rw [d9] at q2
       exact l.nx _ W2 σ _ (R2.put hi ev sv (.lst (h.set r1' n)) rfl) (((g1.trans g2).ex R.ok).trans (wL (K:=X.K) (md:=md) (W0:=W0) (σ:=σ) (env:=env) (i:=i) oq3)) q2
    | _=>exact q2.elim
   | _=>exact q1.elim⟩
end
def a08:Md -> Md
 | .o e=>.c e
 | .v e=>.v e
 | .z e=>.z e
 | .c e=>.c e
 | .st=>.st
 | .scr=>.scr
 | _=>.no
def eQ (n:Nat) (cap:List Nat) (md:List Md):List Md:=List.replicate n .no ++ cap.map λi=>a08 (md.getD i .no)
abbrev jn:Option (Option PV) -> Option PV
 | some o=>o
 | none=>none
def oC (n:Nat) (cap:List Nat) (env:b6):b6:=List.replicate n none ++ cap.map λi=>jn (l8 env i)
def jG (md:List Md):Bool:=md.all λm=>match m with
 | .o _=>false
 | .bw=>false
 | .p _=>false
 | _=>true
theorem HV {md:List Md} (h:jG md = true) (i:Nat):(∀ e,md.getD i .no ≠ .o e) /\ md.getD i .no ≠ .bw /\ ∀ e,md.getD i .no ≠ .p e:=by
 unfold jG at h
 rw [List.all_eq_true] at h
 rw [a0g]
 cases e:md[i]? with
 | none=>exact ⟨λ_ z=>(by cases z),λz=>(by cases z),λ_ z=>(by cases z)⟩
 | some m =>
  have:=h m (List.mem_of_getElem? e)
  cases m <;> first | (cases this;done) | exact ⟨λ_ z=>(by cases z),λz=>(by cases z),λ_ z=>(by cases z)⟩
section
variable {K:PySem.W.Frag} {md:List Md} {W W0 W1 W2:Wd} {H H0 H1 H2:Hp} {σ:St} {env:b6} {a:Addr}
theorem Wok.tmp (w:Wok W H) (nF:¬ W.F a) (nS:¬ W.S a) {o':HO}:Wok W (bD H a o'):=⟨λb hb=>by
 rw [aE (λz=>by subst z;exact nF hb)];exact w.fF b hb,λb hb=>by
 obtain ⟨x1,x2,x3,e1,e2⟩:=w.sS b hb
 exact ⟨x1,x2,x3,by rw [aE (λz=>by subst z;exact nS hb)];exact e1,e2⟩,w.dj⟩
theorem Go.tmp (g:Go W H W2 H2) (ha:H a = none) (nF:¬ W2.F a) (nS:¬ W2.S a) {o':HO}:Go W H W2 (bD H2 a o') :=
 ⟨g.lF,g.lS,g.nF,g.nS,λb o e s=>by rw [aE (λz=>by subst z;rw [ha] at e;cases e)];exact g.kp b o e s,g.ok.tmp nF nS,g.kk,g.kl⟩
theorem Rl.tmp (R:Rl K md W0 H0 W σ env H) (hb:jG md = true) (h0:H0 a = none) (nF:¬ W.F a) (nS:¬ W.S a) (nL:¬ W.L a) {o o':HO} (e:H a = some o) (hi:o.imm = false) (hz:∀ u q,o ≠ .frz u q):Rl K md W0 H0 W σ env (bD H a o'):=by
 have ni:∀ b u,H b = some u -> u.imm = true -> b ≠ a:=λb u e2 hu z=>by subst z;rw [e] at e2;cases e2;rw [hi] at hu;cases hu
 have nf:∀ b,W.F b -> b ≠ a:=λb f z=>by subst z;exact nF f
 have keep:∀ {G:Addr -> Prop} {u:V} {y:PV},(∀ a,G a -> W.F a) -> Rep G H u y -> Rep G (bD H a o') u y:=λhG r=>r.mono (λ_ h=>h) λb u h e=>by
  rw [aE (h.elim (λg=>nf b (hG b g)) (ni b u e))];exact e
 have keepB:∀ {G:Addr -> Prop} {u:HO} {y:PV},(∀ a,G a -> W.F a) -> Body G H u y -> Body G (bD H a o') u y:=λhG r=>r.mono (λ_ h=>h) λb u h e=>by
  rw [aE (h.elim (λg=>nf b (hG b g)) (ni b u e))];exact e
 refine ⟨R.ok0,R.go.tmp h0 nF nS,R.len,λj y ej=>?_,R.sep,R.bws,R.kk⟩
 obtain ⟨u,su,ru⟩:=R.slot j y ej
 refine ⟨u,su,?_⟩
 obtain ⟨b1,b2,b3⟩:=HV hb j
 cases hmd:md.getD j .no with
 | no=>trivial
 | bw=>exact absurd hmd b2
 | p e'=>exact absurd hmd (b3 e')
 | o e'=>exact absurd hmd (b1 e')
 | v e'=>rw [hmd] at ru;exact keep (λ_ g=>El.GF g) ru
 | st=>rw [hmd] at ru;exact ru
 | scr =>
  rw [hmd] at ru
  obtain ⟨b,ns,e1,e2,z⟩:=ru
  refine ⟨b,ns,e1,e2,?_⟩
  rcases z with ⟨oo,z⟩ | z
  ·refine .inl ⟨oo,?_⟩
   rw [aE (λy=>?_)];exact z
   subst y
   rw [e] at z;cases z;exact hz _ _ rfl
  ·exact .inr z
 | z e' =>
  rw [hmd] at ru;obtain ⟨b,ob,z1,qb⟩:=ru
  exact ⟨b,ob,z1,qb.new,qb.F,by rw [aE (nf b qb.F)];exact qb.at_,keepB (λ_ g=>El.GF g) qb.its⟩
 | c e' =>
  rw [hmd] at ru;obtain ⟨b,ob,z1,l,s,h,bd⟩:=ru
  exact ⟨b,ob,z1,l,s,by rw [aE (λz=>by subst z;exact nL l)];exact h,keepB (λ_ g=>El.GF g) bd⟩
end
theorem yN {α:Type} (n:Nat) (cap:List Nat) (f:Nat -> α) (d0 d:α) (i:Nat):(List.replicate n d0 ++ cap.map f).getD i d = if i < n then d0 else match cap[i - n]? with | some c=>f c | none=>d:=by
 rw [a0g]
 by_cases h:i < n
 ·rw [if_pos h,List.getElem?_append_left (by simpa using h),List.getElem?_replicate,if_pos h];rfl
 ·rw [if_neg h,List.getElem?_append_right (by simpa using h),List.length_replicate,a0h]
  cases cap[i - n]? <;> rfl
theorem C9 {K:PySem.W.Frag} {md:List Md} {W0 W:Wd} {H0 H:Hp} {σ:St} {env:b6} {n:Nat} {cap:List Nat} (R:Rl K md W0 H0 W σ env H) (L:Addr -> Prop) (hL:∀ a o,H a = some o -> L a):Rl K (eQ n cap md) { W0 with L:=L } H0 { W with L:=L } (BG n cap σ) (oC n cap env) H:=by
 have nown:∀ i,((eQ n cap md).getD i .no).own = false:=λi=>by
  unfold eQ
  rw [yN]
  split
  ·rfl
  ·cases cap[i - n]? with
   | none=>rfl
   | some c=>dsimp only;cases md.getD c .no <;> rfl
 refine ⟨⟨R.ok0.fF,R.ok0.sS,R.ok0.dj⟩,⟨R.go.lF,R.go.lS,R.go.nF,R.go.nS,R.go.kp,⟨R.go.ok.fF,R.go.ok.sS,R.go.ok.dj⟩,R.go.kk,rfl⟩,by simp [BG,oC],λi x e=>?_,λi j x y a hij oi=>(by rw [nown i] at oi;cases oi),?_,R.kk⟩
 ·unfold oC at e
  by_cases hi:i < n
  ·rw [List.getElem?_append_left (by simpa using hi),List.getElem?_replicate] at e
   split at e <;> cases e
  ·rw [List.getElem?_append_right (by simpa using hi),List.length_replicate,a0h] at e
   cases hc:cap[i - n]? with
   | none=>rw [hc] at e;cases e
   | some c =>
    rw [hc] at e
    have e':jn (l8 env c) = some x:=Option.some.inj e
    rw [j7] at e'
    have ev:env[c]? = some (some x):=by
     cases q:env[c]? with
     | none=>rw [q] at e';cases e'
     | some o=>rw [q] at e';exact congrArg some e'
    obtain ⟨v,sv,r⟩:=R.slot c x ev
    refine ⟨v,?_,?_⟩
    ·unfold BG
     rw [List.getElem?_append_right (by simpa using hi),List.length_replicate,a0h,hc,Option.map_some,a0g,sv];rfl
    ·unfold eQ
     rw [yN,if_neg hi,hc]
     dsimp only
     cases hm:md.getD c .no with
     | o e=>rw [hm] at r;obtain ⟨a,o,rfl,q⟩:=r;exact ⟨a,o,rfl,hL a o q.at_,q.nS,q.at_,q.its⟩
     | v e=>rw [hm] at r;exact r
     | z e=>rw [hm] at r;obtain ⟨a,o,rfl,q⟩:=r;exact ⟨a,o,rfl,q.new,q.F,q.at_,q.its⟩
     | c e=>rw [hm] at r;obtain ⟨a,o,rfl,_,q2,q3,q4⟩:=r;exact ⟨a,o,rfl,hL a o q3,q2,q3,q4⟩
     | st=>rw [hm] at r;exact r
     | scr=>rw [hm] at r;exact r
     | _=>trivial
 ·unfold fJ
  rw [Bool.or_eq_true,List.all_eq_true,List.all_eq_true]
  refine .inr λm hm=>?_
  unfold eQ at hm
  rcases List.mem_append.mp hm with z | z
  ·rw [(List.mem_replicate.mp z).2];rfl
  ·obtain ⟨c,_,rfl⟩:=List.mem_map.mp z
   cases md.getD c .no <;> rfl
def fA (g:gN) (tt:dX) (te:aQ) (Q:PV -> Prop):List PV -> List PV -> b6 -> Prop
 | [],acc,_=>Q (.lst acc)
 | x :: xs,acc,env=>g x env λenv1=>tt env1 λk=>Br k (te env1 λv=>fA g tt te Q xs (acc ++ [v]) env1) (fA g tt te Q xs acc env1)
def pLc (s:lA) (g:gN) (tt:dX) (te:aQ) (cp:b6 -> b6):aQ:=λenv Q=>s env λitems=>items.length <= sizeLine /\ fA g tt te Q items [] (cp env)
def pTrue:dX:=λ_ Q=>Q true
structure VTs (X:Cx) (md:List Md) (ifs:List Expr) (p:dX):Prop where
 h:HA X ifs (oW X.K md p)
theorem HA.imp {X:Cx} {e:List Expr} {t t':TT} (h:HA X e t) (k:∀ σ H K,t' σ H K -> t σ H K):HA X e t':=λpins s σ H Q I q=>h pins s σ H Q I (k σ H Q q)
theorem bY {X:Cx} {md:List Md}:VTs X md [] pTrue:=⟨OV.imp λσ H K=>by
 rintro ⟨env,W0,H0,W,Q,R,q,k⟩
 exact k true W H (Go.refl R.ok) q⟩
theorem gW {X:Cx} {md:List Md} {c:Expr} {p:dX} (h:VT X md c p):VTs X md [c] p:=⟨OW h.h⟩
theorem DG {K:PySem.W.Frag} {md mb:List Md} {el eli:El} {s:lA} {g:gN} {tt:dX} {te:aQ} {n:Nat} {cap:List Nat} {σ:St} {H:Hp} {Q:VK} {cp:b6 -> b6} (hcp:∀ env,cp env = oC n cap env) (hle:i4 mb (eQ n cap md) = true) (hbl:jG mb = true)
  (h:dQ K md (.o el) (pLc s g tt te cp) σ H Q):a10 (uB K md eli s) (qW K (eQ n cap md) mb eli g) (oW K mb tt) (dQ K mb (.v el) te) n cap σ H Q:=by
 obtain ⟨env,W0,H0,W,Q',R,q,k⟩:=h
 refine ⟨env,W0,H0,W,_,R,q,λitems W1 H1 J g1 sr q1=>?_⟩
 intro acc hacc
 obtain ⟨hsz,q1⟩:=q1
 rw [hcp] at q1
 have h0acc:H0 acc = none:=R.go.free (g1.free hacc)
 have R1:=R.step g1
 have Rb:=C9 (n:=n) (cap:=cap) R1 (λa=>∃ o,H1 a = some o) (λa o e=>⟨o,e⟩)
 generalize hW1b:({ W1 with L:=λa=>∃ o,H1 a = some o }:Wd) = W1b at Rb
 generalize hW0b:({ W0 with L:=λa=>∃ o,H1 a = some o }:Wd) = W0b at Rb
 have f1:W1b.F = W1.F:=by rw [<- hW1b]
 have s1:W1b.S = W1.S:=by rw [<- hW1b]
 have l1:¬ W1b.L acc:=by rw [<- hW1b];rintro ⟨o,e⟩;rw [hacc] at e;cases e
 have okb:Wok W1b H1:=Rb.ok
 have nF1:¬ W1b.F acc:=λz=>okb.offF hacc z
 have nS1:¬ W1b.S acc:=λz=>okb.offS hacc z
 have gl:Go W1b H1 W1b (bD H1 acc (.lst [])):=Go.laid okb hacc
 have exW:∀ {Wb:Wd} {Hb:Hp},Go W1b H1 Wb Hb -> Ex W1 H1 Wb Hb:=λgb=>by
  have x:=gb.ex okb
  exact ⟨λa h=>x.lF a (by rw [f1];exact h),λa o h e=>x.kp a o (by rw [f1];exact h) e,x.im⟩
 refine ⟨λi m σb Hb=>m = items.length - i /\ i <= items.length /\ ∃ (envb:b6) (Wb:Wd) (vs:List V) (accx:List PV),Rl K (eQ n cap md) W0b H0 Wb σb envb Hb /\ Go W1b H1 Wb Hb /\ Hb acc = some (.lst vs) /\ ¬ Wb.F acc /\ ¬ Wb.S acc /\ Reps (el.G Wb.F H0) Hb vs accx /\ accx.length <= i /\ fA g tt te Q' (items.drop i) accx envb,
  ⟨items.length,by simp,Nat.zero_le _,oC n cap env,W1b,[],[],Rb.step gl,gl,b5,nF1,nS1,.nil,Nat.zero_le _,by simpa using q1⟩,?_⟩
 rintro i m σb Hb ⟨rfl,hi,envb,Wb,vs,accx,Rr,gb,hat,nF,nS,rs,hal,qb⟩
 by_cases hlt:i < items.length
 ·rw [List.drop_eq_getElem_cons hlt] at qb
  refine .inr ⟨sr.go i Wb Hb (exW gb) hlt,λσ' H'=>i + 1 <= items.length /\ ∃ (envb:b6) (Wb:Wd) (vs:List V) (accx:List PV),Rl K (eQ n cap md) W0b H0 Wb σ' envb H' /\ Go W1b H1 Wb H' /\ H' acc = some (.lst vs) /\ ¬ Wb.F acc /\ ¬ Wb.S acc /\ Reps (el.G Wb.F H0) H' vs accx /\ accx.length <= i + 1 /\ fA g tt te Q' (items.drop (i + 1)) accx envb,
   λσ' H' z=>⟨items.length - (i + 1),by omega,rfl,z.1,z.2⟩,λv H3 y=>?_⟩
  obtain ⟨g3,x,ex,rx⟩:=sr.yld i Wb Hb v H3 (exW gb) Rr.ok hlt y
  rw [a0b hlt] at ex
  cases ex
  refine ⟨envb,W0b,H0,Wb,_,_,Rr.step g3,rx,qb,λenv' σ' R' z=>?_⟩
  refine ⟨env',W0b,H0,Wb,_,R',z,λkk W4 H4 g4 q4=>?_⟩
  have g34:=g3.trans g4
  have hat4:=g34.kp acc _ hat nS
  have nF4:=g34.nFF hat nF
  have nS4:=g34.nSS hat nS
  have rs4:Reps (el.G W4.F H0) H4 vs accx:=g34.reps Rr.ok (λ_ h=>El.nS Rr.ok h) (λ_ h=>El.up g34.lF (λ_ z=>z) h) rs
  cases kk with
  | false =>
   dsimp only
   rw [if_neg a0k]
   exact ⟨hlt,env',W4,vs,accx,(R'.step g4).less hle,gb.trans g34,hat4,nF4,nS4,rs4,by omega,q4⟩
  | true =>
   dsimp only
   rw [if_pos rfl]
   refine ⟨env',W0b,H0,W4,_,R'.step g4,q4,λw u W5 H5 g5 r5 q5=>?_⟩
   have hat5:=g5.kp acc _ hat4 nS4
   have nF5:=g5.nFF hat4 nF4
   have nS5:=g5.nSS hat4 nS4
   have rs5:Reps (el.G W5.F H0) H5 vs accx:=g5.reps g4.ok (λ_ h=>El.nS g4.ok h) (λ_ h=>El.up g5.lF (λ_ z=>z) h) rs4
   have gb5:=gb.trans (g34.trans g5)
   have nL5:¬ W5.L acc:=by rw [gb5.kl];exact l1
   refine ⟨vs,hat5,?_,hlt,env',W5,vs ++ [u],accx ++ [w],?_,gb5.tmp hacc nF5 nS5,b5,nF5,nS5,?_,?_,q5⟩
   ·have:=rs5.len;omega
   ·exact (((R'.step g4).step g5).tmp hbl h0acc nF5 nS5 nL5 hat5 rfl (λ_ _ z=>by cases z)).less hle
   ·have:=rs5.append (.cons r5 .nil)
    refine this.mono (λ_ h=>h) λb o hh e=>?_
    rw [aE (λz=>?_)];exact e
    subst z
    rcases hh with hh | hh
    ·exact nF5 (El.GF hh)
    ·rw [hat5] at e;cases e;cases hh
   ·simp;omega
 ·have e:i = items.length:=by omega
  subst e
  rw [List.drop_length] at qb
  refine .inl ⟨sr.stop Wb Hb (exW gb),?_⟩
  have gf:Go W H { Wb with L:=W.L } Hb:=by
   have a:=g1
   refine ⟨λb h=>gb.lF b (by rw [f1];exact a.lF b h),λb h=>gb.lS b (by rw [s1];exact a.lS b h),λb h=>?_,λb h=>?_,λb o e s=>?_,⟨gb.ok.fF,gb.ok.sS,gb.ok.dj⟩,?_,rfl⟩
   ·rcases gb.nF b h with z | z
    ·exact a.nF b (by rw [<- f1];exact z)
    ·exact .inr (a.free z)
   ·rcases gb.nS b h with z | z
    ·exact a.nS b (by rw [<- s1];exact z)
    ·exact .inr (a.free z)
   ·refine gb.kp b o (a.kp b o e s) ?_
    rw [s1];exact a.nSS e s
   ·show Wb.K = W.K
    rw [gb.kk,<- hW1b];exact a.kk
  exact k (.lst accx) (.ref acc) _ Hb gf ⟨acc,_,rfl,g1.free hacc,nF,nS,hat,.lst rs⟩ qb
section
variable {X:Cx} {elt target iter:Expr} {ifs:List Expr} {scope:Scope} {pos:Pos} {N':List Str} {n:Nat} {cap:List Nat} {md mb:List Md} {el eli:El} {s:lA} {g:gN} {tt:dX} {te:aQ}
theorem ZJ {cp:b6 -> b6} (hcp:∀ env,cp env = oC n cap env) (hc:X.calm = true) (S:LcOk X.N X.env.scope scope N' n cap) (hle:i4 mb (eQ n cap md) = true) (hbl:jG mb = true) (hi:VI X md eli target iter s) (hg:∀ C s H fp,VG (aM X N' scope C s H fp) (eQ n cap md) mb eli target g)
  (ht:∀ C s H fp,VTs (aM X N' scope C s H fp) mb ifs tt) (he:∀ C s H fp,VE (aM X N' scope C s H fp) mb elt (.v el) te) (hs:∀ x,foldedSetIterable iter X.env x = pure x:=by intro _;rfl) :
  VE X md (.ListComp elt [⟨target,iter,ifs,0⟩] scope pos) (.o el) (pLc s g tt te cp) :=
 ⟨(YI hc S hi.h (λC s H fp=>(hg C s H fp).h) (λC s H fp=>(ht C s H fp).h) (λC s H fp=>(he C s H fp).h) hs).imp λσ H Q h=>DG hcp hle hbl h⟩
end
theorem Cal.imp {P:Program} {w:World} {K:PySem.W.Frag} {mg:Str -> Option Value} {base:Heap} {k:Nat} {x:Str} {ps:List Str} {sp sp':Sp} (C:Cal P w K mg base k x ps sp) (h:∀ vs H Q E,sp' vs H Q E -> sp vs H Q E):Cal P w K mg base k x ps sp':=by
 obtain ⟨f,fd,a,b,c,l,d⟩:=C.ex
 exact ⟨f,fd,a,b,c,l,d.imp h⟩
def DO:PN:=λxs R=>match xs with
 | [.st,.int m]=>0 < m /\ m < 2 ^ 250 /\ ∀ r:Int,0 <= r -> r < m -> R (.int r)
 | _=>False
def C0:PN:=λxs R=>match xs with
 | [.scr _,.int k]=>0 <= k /\ k < 1000000 /\ R .st
 | _=>False
theorem Go.state {W:Wd} {H:Hp} {p:Addr} {a b c:Int} (w:Wok W H) (hs:W.S p) (ok:StOk a b c):Go W H W (bD H p (ME a b c)) where
 lF:=λ_ h=>h
 lS:=λ_ h=>h
 nF:=λ_ h=>.inl h
 nS:=λ_ h=>.inl h
 kp:=λq o e s=>by rw [aE (λz=>by subst z;exact s hs)];exact e
 ok:=⟨λq f=>by rw [aE (λz=>by subst z;exact w.dj q f hs)];exact w.fF q f,λq f=>by
  by_cases h:q = p
  ·subst h;exact ⟨a,b,c,b5,ok⟩
  ·obtain ⟨x1,x2,x3,e,z⟩:=w.sS q f
   exact ⟨x1,x2,x3,by rw [aE h];exact e,z⟩,w.dj⟩
 kk:=rfl
 kl:=rfl
section
variable {P:Program} {w:World} {K:PySem.W.Frag} {mg:Str -> Option Value} {base:Heap} {k:Nat} {x:Str} {ps:List Str}
theorem IC (C:Cal P w K mg base k x ps LG):Cal P w K mg base k x ps (M9 K [.st,.bw] (.v .fl) DO):=C.imp λvs H Q E h=>by
 obtain ⟨xs,W,R,hk,wk,r,q,kk⟩:=h
 obtain ⟨v,x,u,y,rfl,rfl,r1,r2⟩:=r.two
 obtain ⟨p,rfl,rfl,hs⟩:=r1
 unfold DO at q
 cases y with
 | int m =>
  obtain ⟨a,b,c,e,ok⟩:=wk.sS p hs
  rw [Rep.ofInt r2]
  exact ⟨p,m,a,b,c,rfl,e,ok,q.1,q.2.1,λr a' b' c' h0 h1 ok'=>kk _ _ W _ (Go.state wk hs ok') (.int _) (q.2.2 r h0 h1)⟩
 | _=>exact q.elim
theorem F2 (C:Cal P w K mg base k x ps (E4 K)):Cal P w K mg base k x ps (M9 K [.scr,.bw] .st C0):=C.imp λvs H Q E h=>by
 obtain ⟨xs,W,R,hk,wk,r,q,kk⟩:=h
 obtain ⟨v,x,u,y,rfl,rfl,r1,r2⟩:=r.two
 obtain ⟨p,ns,rfl,rfl,hs⟩:=r1
 unfold C0 at q
 cases y with
 | int m =>
  rw [Rep.ofInt r2]
  rw [hk] at hs
  refine ⟨p,m,ns,rfl,hs.sq,q.1,q.2.1,λs a b c hn ok=>?_⟩
  have g0:Go W H W (bD H s (ME a b c)):=Go.laid wk hn
  refine kk .st (.ref s) { W with S:=λb=>W.S b \/ b = s } _ ⟨λ_ h=>h,λ_ h=>.inl h,λ_ h=>.inl h,λb h=>h.elim .inl λz=>.inr (by rw [z];exact hn),λb o e hb=>g0.kp b o e hb,⟨g0.ok.fF,λz h=>?_,λb f h=>?_⟩,rfl,rfl⟩ ⟨s,rfl,rfl,.inr rfl⟩ q.2.2
  ·rcases h with h | h
   ·exact g0.ok.sS z h
   ·subst h;exact ⟨a,b,c,b5,ok⟩
  ·rcases h with h | h
   ·exact wk.dj b f h
   ·subst h;exact wk.offF hn f
 | _=>exact q.elim
def x8 (K:PySem.W.Frag):Sp:=λvs H Q _=>∃ (a:Addr) (ns:List Int),vs = [.ref a] /\ ScrAt K H a ns /\ ns.length <= 63 /\ ∀ H',Q (.bl true) H'
theorem L9 {H:Hp} {a:Addr} {ns:List Int} (h:cT K H a (ns.map V.int)) (o:MI H):ScrAt K H a ns:=by
 rcases h with (h | h) | h
 ·rcases o a with z | ⟨u,q,z⟩ | z <;> (rw [z] at h;cases h)
 ·exact .inl h
 ·exact .inr h
theorem MY {p:PN} (C:Cal P w K mg base k x ps (M9 K [.scr] (.v .fl) p)) (h:∀ ns:List Int,ns.length <= 63 -> p [.scr ns] λr=>r = .bl true):Cal P w K mg base k x ps (x8 K):=C.imp λvs H Q E z=>by
 obtain ⟨a,ns,rfl,hs,hl,q⟩:=z
 refine ⟨[.scr ns],⟨K,λ_=>False,λ_=>False,λ_=>False⟩,_,rfl,⟨λ_ z=>z.elim,λ_ z=>z.elim,λ_ z=>z.elim⟩,.cons ⟨a,ns,rfl,rfl,hs⟩ .nil,h ns hl,λx v W' H' _ r e=>?_⟩
 subst e
 rw [Rep.ofBl r]
 exact q H'
end
section
variable {X:Cx} {md:List Md} {el:El} {i:Nat} {tg:Expr}
theorem M4 (h:QG X tg (jI i)) (hm:fJ (md.set i (.v el)) = true) (hl:i < md.length):VG X md (md.set i (.v el)) el tg (pgName i):=⟨h.h.imp λv σ H Q=>by
 rintro ⟨env,W0,H0,W,x,R,Rr,r,q,k⟩
 unfold pgName at q
 rw [d9] at q
 exact k _ _ (Rr.set (Go.refl Rr.ok) (m:=.v el) r hm hl) q⟩
end
def pEqI:P2:=pI0 λi j=>.bl (decide (i = j))
def pNeI:P2:=pI0 λi j=>.bl (!decide (i = j))
theorem yA {i j:Int}:decide (V.int i = V.int j) = decide (i = j):=by
 by_cases h:i = j
 ·subst h;simp
 ·rw [decide_eq_false h,decide_eq_false (λz=>h (V.int.inj z))]
theorem wX:SimOp a0S (.v .fl) pEqI:=⟨λB W H x y px py Q K w rx ry q k=>by
 cases px with
 | int i=>cases py with
  | int j=>refine ⟨by rw [rx.ofInt,ry.ofInt];rfl,?_⟩;rw [rx.ofInt,ry.ofInt,yA];exact k.atom w (.bl _) q
  | _=>exact q.elim
 | _=>exact q.elim⟩
theorem nG:SimOp a0U (.v .fl) pNeI:=⟨λB W H x y px py Q K w rx ry q k=>by
 cases px with
 | int i=>cases py with
  | int j=>refine ⟨by rw [rx.ofInt,ry.ofInt];rfl,?_⟩;rw [rx.ofInt,ry.ofInt,yA];exact k.atom w (.bl _) q
  | _=>exact q.elim
 | _=>exact q.elim⟩
def pAddI:P2:=pI0 λi j=>.int (i + j)
def pSubI:P2:=pI0 λi j=>.int (i - j)
def pMulI:P2:=pI sO λi j=>.int (i * j)
def pPowI:P2:=pI sP λi j=>.int (i ^ j.toNat)
def pLtI:P2:=pI0 λi j=>.bl (decide (i < j))
def pLeI:P2:=pI0 λi j=>.bl (decide (i <= j))
def pGtI:P2:=pI0 λi j=>.bl (decide (j < i))
def pNegI:PV -> (PV -> Prop) -> Prop:=pU λi=>.int (-i)
section
variable {X:Cx} {md:List Md} {a:Expr} {pa:aQ} {pos:Pos}
theorem jD (ha:VE X md a .bw pa):VE X md (.UnaryOp .USub a pos) (.v .fl) (pUn pNegI pa):=ZK E1 (λB W H x px Q K w r q k=>by
 cases px with
 | int i=>exact ⟨i,r.ofInt,k.atom w (.int _) q⟩
 | _=>exact q.elim) ha
theorem fL:SimOp (tF λi j=>.int (i + j)) (.v .fl) pAddI:=LA
theorem oE:SimOp (tF λi j=>.int (i - j)) (.v .fl) pSubI:=LA
theorem PH:SimOp (rI sO λi j=>.int (i * j)) (.v .fl) pMulI:=RN
theorem sD:SimOp (rI sP λi j=>.int (i ^ j.toNat)) (.v .fl) pPowI:=RN
theorem a1H:SimOp (tF λi j=>.bl (decide (i < j))) (.v .fl) pLtI:=CA
theorem a1G:SimOp (tF λi j=>.bl (decide (i <= j))) (.v .fl) pLeI:=CA
theorem L8:SimOp (tF λi j=>.bl (decide (j < i))) (.v .fl) pGtI:=CA
end
theorem FO {G:Addr -> Prop} {H:Hp} (m:Nat):Reps G H (oU m) (c8 0 m):=by
 have:oU m = ((List.range m).map λ(i:Nat)=>(i:Int)).map V.int:=by simp [oU]
 have h2:c8 0 m = ((List.range m).map λ(i:Nat)=>(i:Int)).map PV.int:=by simp [c8]
 rw [this,h2];exact kZ _
def pListR (a:aQ):aQ:=λenv Q=>a env λx=>match x with
 | .int j=>0 <= j /\ j <= 1000 /\ Q (.lst (c8 0 j.toNat))
 | _=>False
section
variable {X:Cx} {md:List Md} {a:Expr} {pa:aQ} {p1 p2 pos1 pos2:Pos}
theorem LY (hc:X.calm = true) (hg:X.env.scope.names.lookup ("list" : Str) = some .globalImplicit) (hm:X.mg "list" = none) (hg2:X.env.scope.names.lookup ("range" : Str) = some .globalImplicit) (hm2:X.mg "range" = none) (ha:VE X md a .bw pa)
  (he:starEach [a] X.env = (false,eval a X.env) :: starEach [] X.env:=by rfl) (hpl:(backTo pos2 (starEach [] X.env)).any (·.1) = false:=by rfl)
  (he1:starEach [.Call (.Name "range" p2) [a] [] pos2] X.env = (false,eval (.Call (.Name "range" p2) [a] [] pos2) X.env) :: starEach [] X.env:=by rfl) (hpl1:(backTo pos1 (starEach [] X.env)).any (·.1) = false:=by rfl) :
  VE X md (.Call (.Name "list" p1) [.Call (.Name "range" p2) [a] [] pos2] [] pos1) (.o .fl) (pListR pa) :=
 ⟨(fT (MV hc) hg hm MU (eW (fT MW hg2 hm2 I0 (eW ha.h j8 he) (by decide) (by decide) he hpl) j8 he1) (by decide) (by decide) he1 hpl1).imp λσ H K=>by
  rintro ⟨env,W0,H0,W,Q,R,q,k⟩
  refine ⟨env,W0,H0,W,_,R,q,λx v W1 H1 g1 r1 q1=>?_⟩
  cases x with
  | int j =>
   have hv:=Rep.ofInt r1
   subst hv
   refine ⟨j,rfl,λp hp=>⟨p,j,rfl,b5,⟨q1.1,q1.2.1⟩,λl hl=>?_⟩⟩
   have g2:Go W1 H1 W1 (bD H1 p (.rng 0 j)):=Go.laid g1.ok hp
   exact (k.after (g1.trans g2)).newL g2.ok hl (FO _) q1.2.2
  | _=>exact q1.elim⟩
end
open PySem
def vJ (xs:Array Nat):Prop:=xs.toList.Pairwise (· < ·)
theorem vJ.lt {xs:Array Nat} (h:vJ xs) {i k:Nat} {a b:Nat} (hik:i < k) (ha:xs[i]? = some a) (hb:xs[k]? = some b):a < b:=by
 unfold vJ at h
 rw [List.pairwise_iff_getElem] at h
 rw [<- Array.getElem?_toList] at ha hb
 obtain ⟨h1,rfl⟩:=a0i.mp ha
 obtain ⟨h2,rfl⟩:=a0i.mp hb
 exact h i k h1 h2 hik
theorem qF (xs:Array Nat) (j:Nat) (hr:vJ xs):∀ (fuel lo hi:Nat),lo <= hi -> hi <= xs.size -> hi - lo <= fuel -> (∀ i a,i < lo -> xs[i]? = some a -> a < j) -> (∀ i a,hi <= i -> xs[i]? = some a -> j <= a) ->
  SetTable.below.go xs j fuel lo hi <= xs.size /\ (∀ i a,i < SetTable.below.go xs j fuel lo hi -> xs[i]? = some a -> a < j) /\ ∀ i a,SetTable.below.go xs j fuel lo hi <= i -> xs[i]? = some a -> j <= a
 | 0,lo,hi,h1,h2,h3,h4,h5=>by
  have:lo = hi:=by omega
  subst this
  rw [SetTable.below.go]
  exact ⟨h2,h4,h5⟩
 | fuel + 1,lo,hi,h1,h2,h3,h4,h5=>by
  rw [SetTable.below.go]
  by_cases hlt:lo < hi
  ·rw [if_pos hlt]
   dsimp only
   have hm:(lo + hi) / 2 < xs.size:=by omega
   have hg:xs.getD ((lo + hi) / 2) j = xs[(lo + hi) / 2]:=by simp [Array.getD,hm]
   rw [hg]
   by_cases hc:xs[(lo + hi) / 2] < j
   ·rw [if_pos hc]
    refine qF xs j hr fuel ((lo + hi) / 2 + 1) hi (by omega) h2 (by omega) (λi a hi' ha=>?_) h5
    by_cases hi2:i = (lo + hi) / 2
    ·subst hi2
     rw [Array.getElem?_eq_getElem hm] at ha
     cases ha;exact hc
    ·exact Nat.lt_trans (hr.lt (by omega:i < (lo + hi) / 2) ha (Array.getElem?_eq_getElem hm)) hc
   ·rw [if_neg hc]
    refine qF xs j hr fuel lo ((lo + hi) / 2) (by omega) (by omega) (by omega) h4 (λi a hi' ha=>?_)
    by_cases hi2:i = (lo + hi) / 2
    ·subst hi2
     rw [Array.getElem?_eq_getElem hm] at ha
     cases ha;omega
    ·have:=hr.lt (by omega:(lo + hi) / 2 < i) (Array.getElem?_eq_getElem hm) ha
     omega
  ·rw [if_neg hlt]
   have:lo = hi:=by omega
   subst this
   exact ⟨h2,h4,h5⟩
theorem qH {xs:Array Nat} (hr:vJ xs) (j:Nat):SetTable.below xs j <= xs.size /\ (∀ i a,i < SetTable.below xs j -> xs[i]? = some a -> a < j) /\ ∀ i a,SetTable.below xs j <= i -> xs[i]? = some a -> j <= a :=
 qF xs j hr xs.size 0 xs.size (Nat.zero_le _) (Nat.le_refl _) (by omega) (λi a h=>by omega) λi a h ha=>by
  have:=(Array.getElem?_eq_some_iff.mp ha).1
  omega
theorem qI {xs:Array Nat} (hr:vJ xs):SetTable.below xs 0 = 0:=by
 obtain ⟨h1,h2,_⟩:=qH hr 0
 refine Nat.eq_zero_of_not_pos λh=>?_
 have:=h2 0 xs[0] h (Array.getElem?_eq_getElem (by omega))
 omega
theorem qG {xs:Array Nat} (hr:vJ xs) {i j:Nat} (h:xs[i]? = some j):SetTable.below xs (j + 1) = i + 1:=by
 obtain ⟨h1,h2,h3⟩:=qH hr (j + 1)
 have hi:i < xs.size:=(Array.getElem?_eq_some_iff.mp h).1
 refine Nat.le_antisymm (Nat.le_of_not_lt λhlt=>?_) (Nat.le_of_not_lt λhlt=>?_)
 ·have hs:i + 1 < xs.size:=by omega
  have a1:=h2 (i + 1) _ hlt (Array.getElem?_eq_getElem hs)
  have a2:=hr.lt (Nat.lt_succ_self i) h (Array.getElem?_eq_getElem hs)
  omega
 ·have:=h3 i j (by omega) h
  omega
theorem C8 {xs:Array Nat} (hr:vJ xs) {j:Nat} (hj:xs[SetTable.below xs j]? ≠ some j):vJ (SetTable.insertAt xs (SetTable.below xs j) j):=by
 obtain ⟨h1,h2,h3⟩:=qH hr j
 unfold vJ SetTable.insertAt
 have e1:(xs.extract 0 (SetTable.below xs j)).toList = xs.toList.take (SetTable.below xs j):=by simp
 have e2:(xs.extract (SetTable.below xs j) xs.size).toList = xs.toList.drop (SetTable.below xs j):=by
  simp [Array.toList_extract]
  apply List.take_of_length_le
  simp
 rw [Array.toList_append,Array.toList_push,e1,e2]
 have hp:xs.toList.Pairwise (· < ·):=hr
 have ha:∀ a ∈ xs.toList.take (SetTable.below xs j),a < j:=λa ha=>by
  obtain ⟨i,hi,rfl⟩:=List.getElem_of_mem ha
  rw [List.length_take] at hi
  refine h2 i _ (by omega) ?_
  rw [List.getElem_take,<- Array.getElem?_toList]
  exact a0b _
 have hb:∀ b ∈ xs.toList.drop (SetTable.below xs j),j < b:=λb hb=>by
  obtain ⟨i,hi,rfl⟩:=List.getElem_of_mem hb
  rw [List.length_drop] at hi
  rw [List.getElem_drop]
  have hlt:SetTable.below xs j + i < xs.toList.length:=by omega
  have g:xs[SetTable.below xs j + i]? = some (xs.toList[SetTable.below xs j + i]):=by rw [<- Array.getElem?_toList];exact a0b _
  have a1:=h3 _ _ (Nat.le_add_right _ _) g
  refine Nat.lt_of_le_of_ne a1 λz=>?_
  cases i with
  | zero=>exact hj ((show xs[SetTable.below xs j]? = _ from g).trans (congrArg some z.symm))
  | succ i =>
   have hs:SetTable.below xs j < xs.size:=by simp at hlt;omega
   have a2:=h3 _ _ (Nat.le_refl _) (Array.getElem?_eq_getElem hs)
   have a3:=hr.lt (by omega:SetTable.below xs j < SetTable.below xs j + (i + 1)) (Array.getElem?_eq_getElem hs) g
   omega
 rw [List.pairwise_append,List.pairwise_append]
 refine ⟨⟨hp.sublist (List.take_sublist _ _),by simp,λa h b hb'=>by simp at hb';subst hb';exact ha a h⟩,hp.sublist (List.drop_sublist _ _),λa h b hb'=>?_⟩
 rcases List.mem_append.mp h with z | z
 ·exact Nat.lt_trans (ha a z) (hb b hb')
 ·simp at z;subst z;exact hb b hb'
def HB (bt:Bool) (t:SetTable):Prop:=bt = true \/ (t.led = true /\ (t.plain = true -> vJ t.place))
theorem zY {t:SetTable} {j:Nat} (h:∀ i,t.slot j ≠ .live i):t.place[SetTable.below t.place j]? ≠ some j:=λe=>by
 refine h (SetTable.below t.place j) ?_
 unfold SetTable.slot
 dsimp only
 rw [if_pos (by rw [e];simp)]
theorem rN {t:SetTable} {f:Nat -> Int} {h:Int}:∀ (fuel:Nat) (p:SetTable.Probe) (j:Nat) (d:Option Nat),SetTable.probe.go t f h fuel p = some (.empty j d) -> (∀ x,p.dummy = some x -> ∀ i,t.slot x ≠ .live i) ->
  (∀ i,t.slot j ≠ .live i) /\ ∀ x,d = some x -> ∀ i,t.slot x ≠ .live i
 | 0,p,j,d,e,_=>by rw [SetTable.probe.go] at e;cases e
 | fuel + 1,p,j,d,e,hp=>by
  rw [SetTable.probe.go] at e
  cases hs:t.slot p.j with
  | empty =>
   rw [hs] at e
   simp only [Option.some.injEq,SetTable.Met.empty.injEq] at e
   obtain ⟨e1,e2⟩:=e
   subst e1 e2
   exact ⟨λi z=>(by rw [hs] at z;cases z),hp⟩
  | dummy =>
   rw [hs] at e
   refine rN fuel _ j d e λx hx i=>?_
   have:(t.advance { p with dummy:=some p.j }).dummy = some p.j:=by
    unfold SetTable.advance
    split <;> rfl
   rw [this] at hx
   cases hx
   rw [hs];intro z;cases z
  | live k =>
   rw [hs] at e
   dsimp only at e
   split at e
   ·cases e
   ·refine rN fuel _ j d e λx hx=>hp x ?_
    have:(t.advance p).dummy = p.dummy:=by
     unfold SetTable.advance
     split <;> rfl
    rw [this] at hx;exact hx
theorem vX {t:SetTable} {h:Int} {j:Nat} {b:Bool} (e:t.freeSlot h = some (j,b)):t.place[SetTable.below t.place j]? ≠ some j:=by
 unfold SetTable.freeSlot at e
 split at e
 ·rename_i j' d hp
  have:=rN _ _ _ _ (show SetTable.probe.go t _ h _ _ = _ from hp) (λx hx=>by cases hx)
  simp only [Option.some.injEq,Prod.mk.injEq] at e
  obtain ⟨e1,e2⟩:=e
  cases d with
  | none=>simp at e1;subst e1;exact zY this.1
  | some x=>simp at e1;subst e1;exact zY (this.2 _ rfl)
 ·cases e
theorem FV {bt:Bool} {t:SetTable} {es:Array (Int × Value)} {h:Int} {x:Value} (hw:HB bt t):HB bt (layNew t es h x).2.1:=by
 rcases hw with hw | ⟨hl,hp⟩
 ·exact .inl hw
 ·refine .inr ?_
  unfold layNew
  cases e:t.freeSlot h with
  | none=>exact ⟨hl,λz=>by cases z⟩
  | some q =>
   obtain ⟨j,b⟩:=q
   dsimp only
   unfold SetTable.orStandIn
   split
   ·exact ⟨hl,λz=>C8 (hp z) (vX e)⟩
   ·exact ⟨hl,λz=>by cases z⟩
theorem yP {mask finger moves:Nat} {led plain:Bool} {hs:Array Int} {t:SetTable} {o:Array Nat} (e:SetTable.laid mask finger moves led plain hs = some (t,o)):t.led = led /\ t.plain = plain /\ vJ t.place:=by
 unfold SetTable.laid at e
 cases h:SetTable.layClean mask hs with
 | none=>rw [h] at e;cases e
 | some owner =>
  rw [h] at e
  simp only [Option.pure_def,Option.bind_eq_bind,Option.bind_some,Option.some.injEq,Prod.mk.injEq] at e
  obtain ⟨e1,e2⟩:=e
  subst e1
  refine ⟨rfl,rfl,?_⟩
  unfold vJ
  dsimp only
  show ((_:List Nat)).Pairwise _
  rw [List.pairwise_map]
  rw [List.pairwise_filterMap]
  refine List.pairwise_lt_range.imp fun {a b} hab x hx y hy=>?_
  simp only [Option.map_eq_some_iff] at hx hy
  obtain ⟨_,_,rfl⟩:=hx
  obtain ⟨_,_,rfl⟩:=hy
  exact hab
theorem zQ {bt:Bool} {t:SetTable} {es:Array (Int × Value)} {n:Nat} (hw:HB bt t):HB bt (relayAll t es n).2.1:=by
 rcases hw with hw | ⟨hl,hp⟩
 ·exact .inl hw
 ·refine .inr ?_
  unfold relayAll
  cases e:t.relaid (es.map (·.1)) n with
  | none=>exact ⟨hl,λz=>by cases z⟩
  | some q =>
   obtain ⟨t',order⟩:=q
   dsimp only
   obtain ⟨a1,a2,a3⟩:=yP (show SetTable.laid _ _ _ _ _ _ = _ from e)
   split
   ·exact ⟨a1.trans hl,λ_=>a3⟩
   ·exact ⟨hl,λz=>by cases z⟩
def c7:Value -> Int
 | .int k _=>k
 | _=>0
def bC (P:Program) (w:World) (a:Addr) (S:Int -> Bool) (n:Nat) (h:Heap):Prop :=
 ∃ o es ep t,h.get? a = some o /\ o.ExactSet /\ o.data = .set es ep t /\ ElemsOf (intKind P w) es.toList /\ (∀ k,S k = true ↔ ∃ e ∈ es.toList,(intKind P w).is k e.2 = true) /\ es.size < scanBound /\ t.fits es.size = true /\ es.size = n /\
  HB (w.params.followText "set-order") t /\ (es.toList.map λe=>c7 e.2).Nodup
section
variable {prog:Program} {w:World} {A:Around} {E:Value -> Shared -> Prop} {s:Shared}
theorem bW {k:Int} {v:Value} (h:(intKind prog w).is k v = true):∃ t,v = .int k t:=Value.isInt_shape (k:=k) (v:=v) h
theorem tM {g:Bool -> Sem Unit} (hg:∀ (b:Bool) (s₁:Shared) (Q':Unit -> Shared -> Prop),Q' () s₁ -> wpAny (model prog w) A (g b) Q' E s₁)
  {a:Addr} {o:Obj} {es:Array (Int × Value)} {ep:Nat} {t:SetTable} (ho:s.heap.get? a = some o) (hex:o.ExactSet) (hd:o.data = .set es ep t)
  {es1:Array (Int × Value)} {t2:SetTable} {S':Int -> Bool} (hel1:ElemsOf (intKind prog w) es1.toList) (hmem1:∀ k',S' k' = true ↔ ∃ e ∈ es1.toList,(intKind prog w).is k' e.2 = true)
  (hb1:es1.size < scanBound) (hf2:t2.fits es1.size = true) (hw2:HB (w.params.followText "set-order") t2) (hnd:(es1.toList.map λe=>c7 e.2).Nodup) {wasDummy:Bool} {R:Option Bool -> Shared -> Prop}
  (h:∀ h',Heap.SameBut a s.heap h' -> bC prog w a S' es1.size h' -> R (some true) { s with heap:=h' }) :
  wpAny (model prog w) A (do
    storeSet a es1 t2
    if (!wasDummy && t2.tooFull) = true then do
      g (relayAll t2 es1 (SetTable.grown es1.size)).2.2
      storeSet a (relayAll t2 es1 (SetTable.grown es1.size)).1 (relayAll t2 es1 (SetTable.grown es1.size)).2.1
      pure (some true)
     else pure (some true)) R E s:=by
 refine a0a (wpAny_storeSet_of ho hd ?_ (fits_of_scanBound hb1))
 obtain ⟨ho1,hS1⟩:=SetOf_store (knd:=intKind prog w) ho hex hd hel1 hmem1 hb1 hf2
 have hsb1:=Heap.SameBut.update s.heap a (Obj.putSet es1 t2)
 split
 ·have hp:=relayAll_perm t2 es1 (SetTable.grown es1.size)
  have hfr:=relayAll_fits t2 es1 (SetTable.grown es1.size)
  have hwr:HB (w.params.followText "set-order") (relayAll t2 es1 (SetTable.grown es1.size)).2.1:=zQ hw2
  generalize hRl:relayAll t2 es1 (SetTable.grown es1.size) = Rl at hp hfr hwr ⊢
  obtain ⟨es2,t3,gave2⟩:=Rl
  dsimp only at hp hfr hwr ⊢
  have hel2:ElemsOf (intKind prog w) es2.toList:=hel1.perm hp
  have hmem2:∀ k',S' k' = true ↔ ∃ e ∈ es2.toList,(intKind prog w).is k' e.2 = true:=λk'=>(hmem1 k').trans ⟨λ⟨e,he,q⟩=>⟨e,hp.mem_iff.mpr he,q⟩,λ⟨e,he,q⟩=>⟨e,hp.mem_iff.mp he,q⟩⟩
  have hsz:es2.size = es1.size:=by rw [<- a0l,hp.length_eq,a0l]
  have hb2:es2.size < scanBound:=by rw [hsz];exact hb1
  refine a0a (hg _ _ _ ?_)
  refine a0a (wpAny_storeSet_of ho1 rfl ?_ (fits_of_scanBound hb2))
  obtain ⟨ho2,_⟩:=SetOf_store (knd:=intKind prog w) ho1 hex rfl hel2 hmem2 hb2 hfr
  exact a0d (h _ (hsb1.trans (Heap.SameBut.update _ a _)) ⟨_,es2,_,t3,ho2,hex,rfl,hel2,hmem2,hb2,hfr,hsz,hwr,(hp.map _).nodup_iff.mpr hnd⟩)
 ·exact a0d (h _ hsb1 ⟨_,es1,_,t2,ho1,hex,rfl,hel1,hmem1,hb1,hf2,rfl,hw2,hnd⟩)
theorem k3 {a:Addr} {S:Int -> Bool} {n:Nat} {k:Int} {x:Value} {Q:Bool -> Shared -> Prop} (hkey:(intKind prog w).is k x = true) (hsc:x.scannable = true) (hS:bC prog w a S n s.heap)
  (hroom:n + 1 < scanBound)
  (h:∀ h',Heap.SameBut a s.heap h' -> bC prog w a (λk'=>S k' || decide (k' = k)) (if S k then n else n + 1) h' -> Q (!S k) { s with heap:=h' }) :
  wpAny (model prog w) A (setAddHashed a x ((intKind prog w).hash k)) Q E s:=by
 obtain ⟨o,es,ep,t,ho,hex,hd,hel,hmem,hb,hf,hn,hwk,hnd⟩:=hS
 have hb1:es.size + 1 < scanBound:=by rw [hn];exact hroom
 unfold setAddHashed setAddHashedIn
 refine wpAny_holding (a0a (wpAny_setState_of ho hd hf ?_))
 dsimp only
 rw [byScan_of hsc hb hel]
 simp only [↓reduceIte]
 unfold setAddByScan
 refine a0a ?_
 refine a0a (wpAny_rule ?_)
 refine a0a (wpAny_setScan_of hkey ho hd hf hel ?_)
 cases hr:List.findIdx? (λe=>(intKind prog w).is k e.2) es.toList with
 | some j =>
  dsimp only
  obtain ⟨hj,hpj,_⟩:=List.findIdx?_eq_some_iff_getElem.mp hr
  have hSk:S k = true:=(hmem k).mpr ⟨es.toList[j],List.getElem_mem hj,hpj⟩
  refine a0d (a0d ?_)
  have e:s = { s with heap:=s.heap }:=by cases s;rfl
  have:=h s.heap (Heap.SameBut.refl a s.heap) ⟨o,es,ep,t,ho,hex,hd,hel,λk'=>by
   rw [Bool.or_eq_true,decide_eq_true_eq,<- hmem k']
   exact ⟨λhk=>hk.elim id (λe=>e ▸ hSk),.inl⟩,hb,hf,by rw [hSk];exact hn,hwk,hnd⟩
  rw [hSk] at this;rw [e];exact this
 | none =>
  dsimp only
  have hSk:S k = false:=by
   cases hk:S k with
   | false=>rfl
   | true=>obtain ⟨e,he,hp⟩:=(hmem k).mp hk;have:=List.findIdx?_eq_none_iff.mp hr e he;rw [hp] at this;exact Bool.noConfusion this
  have hgw:∀ (b:Bool) {s₁:Shared} {Q':Unit -> Shared -> Prop},Q' () s₁ -> wpAny (model prog w) A (match b with | true=>rule "set.scan.the-table-gave-way" | false=>pure ()) Q' E s₁ :=
   λb s₁ Q' hq=>by cases b <;> first | exact a0d hq | exact wpAny_rule hq
  have hperm:=layNew_perm t es ((intKind prog w).hash k) x
  have hfits:=layNew_fits t es ((intKind prog w).hash k) x
  have hwk1:HB (w.params.followText "set-order") (layNew t es ((intKind prog w).hash k) x).2.1:=FV hwk
  generalize hL:layNew t es ((intKind prog w).hash k) x = L at hperm hfits hwk1 ⊢
  obtain ⟨es1,t1,wasDummy,gave⟩:=L
  dsimp only at hperm hfits hwk1 ⊢
  rw [Array.toList_push] at hperm
  have hel1:ElemsOf (intKind prog w) es1.toList:=(hel.push hkey hsc).perm hperm
  have hmem1:∀ k',(S k' || decide (k' = k)) = true ↔ ∃ e ∈ es1.toList,(intKind prog w).is k' e.2 = true:=mem_push_iff hkey hmem hperm
  have hb1':es1.size < scanBound:=by rw [<- a0l,hperm.length_eq,List.length_append,a0l];simpa using hb1
  have hnd1:(es1.toList.map λe=>c7 e.2).Nodup:=by
   rw [(hperm.map λe=>c7 e.2).nodup_iff,List.map_append,List.nodup_append]
   refine ⟨hnd,by simp,λa ha b hb'=>?_⟩
   simp only [a0f,List.map_nil,List.mem_singleton] at hb'
   subst hb'
   obtain ⟨tx,rfl⟩:=bW hkey
   obtain ⟨e,he,rfl⟩:=List.mem_map.mp ha
   obtain ⟨⟨k2,hk2,_⟩,_⟩:=hel e he
   obtain ⟨t2,e2⟩:=bW hk2
   rw [e2]
   intro z
   have z':k2 = k:=z
   subst z'
   have:=(hmem k2).mpr ⟨e,he,hk2⟩
   rw [hSk] at this;cases this
  refine a0a (hgw _ ?_)
  have hsz1:es1.size = n + 1:=by rw [<- a0l,hperm.length_eq,List.length_append,a0l,hn];rfl
  have hend:∀ h',Heap.SameBut a s.heap h' -> bC prog w a (λk'=>S k' || decide (k' = k)) es1.size h' -> Q true { s with heap:=h' }:=by
   intro h' hsb hS';have:=h h' hsb;rw [hSk] at this;rw [hsz1] at hS';exact this hS'
  split
  ·refine a0a ?_
   rw [hashByValue_scannable 8 hsc]
   refine a0d ?_
   refine tM ?_ ho hex hd hel1 hmem1 hb1' ?_ ?_ hnd1 ?_
   ·intro b s₁ Q' hq;cases b <;> first | exact a0d hq | exact wpAny_rule hq
   ·split
    ·exact hfits
    ·exact SetTable.fits_plain_off hfits
   ·split
    ·exact hwk1
    ·exact hwk1.imp id λz=>⟨z.1,λq=>by cases q⟩
   ·intro h' hsb hS';dsimp only;exact a0d (hend h' hsb hS')
  ·refine a0a (a0d ?_)
   simp only [↓reduceIte]
   refine tM ?_ ho hex hd hel1 hmem1 hb1' hfits hwk1 hnd1 ?_
   ·intro b s₁ Q' hq;cases b <;> first | exact a0d hq | exact wpAny_rule hq
   ·intro h' hsb hS';dsimp only;exact a0d (hend h' hsb hS')
theorem JR {Q:Value -> Shared -> Prop}
  (h:∀ o:Obj,bC prog w s.heap.objs.size (λ_=>false) 0 (s.heap.push o) -> Q (.ref s.heap.objs.size) { s with heap:=s.heap.push o }) :
  wpAny (model prog w) A (newSet (.type "set")) Q E s:=by
 unfold newSet setsByText
 refine a0a (a0a (wpAny_askSetting (a0d ?_)))
 dsimp only
 simp only [newObj]
 refine a0a (wpAny_alloc (a0d (h _ ⟨_,#[],0,_,Heap.get?_push_size _ rfl,⟨rfl,rfl,rfl⟩,rfl,λe he=>by simp at he,λk=>by simp,by decide,by rfl,rfl,?_,by simp⟩)))
 show HB (w.params.followText "set-order") (SetTable.fresh 0 0 (!w.params.followText "set-order"))
 cases w.params.followText "set-order" with
 | true=>exact .inl rfl
 | false=>exact .inr ⟨rfl,λ_=>List.Pairwise.nil⟩
end
open PySem
theorem aK:Slot "set_iterator" "__next__" "set_iterator.__next__" :=
 .of (owner := "set_iterator") (n := "__next__") (by rw [typeLookup_type,builtinLookup_eq_fast];kernel_rfl) (by decide +kernel) (by decide +kernel) (by decide +kernel)
  (by first | exact .inl (by decide +kernel) | exact .inr (by decide +kernel)) (by rw [isSubtype_type];kernel_rfl)
theorem cE:entryFor table "set_iterator.__next__" = some Builtin.«set_iterator.__next__»:=entryFor_of_fast (by kernel_rfl)
theorem cJ (a:Value):argsOk "set_iterator.__next__" ⟨[a],[]⟩:=by unfold argsOk;kernel_rfl
theorem qN:entryFor table "set.__iter__" = some Builtin.«frozenset.__iter__»:=entryFor_alias (id' := "frozenset.__iter__") (by kernel_rfl) rfl (by decide +kernel) (by kernel_rfl)
section
variable {prog:Program} {w:World} {A:Around} {E:Value -> Shared -> Prop} {s:Shared}
theorem kS {it:Addr} {o:Obj} {vs:Array Value} {Q:Array Value -> Shared -> Prop} (ho:s.heap.get? it = some o) (hd:o.data = .fields vs) (h:Q vs s):wpAny (model prog w) A (fieldsOf (.ref it)) Q E s:=by
 unfold fieldsOf
 refine a0a (wpAny_load ho ?_)
 rw [hd]
 exact a0d h
structure SetAt (h:Heap) (a:Addr) (es:Array (Int × Value)) (ep:Nat) (t:SetTable):Prop where
 ex:∃ o,h.get? a = some o /\ o.ExactSet /\ o.data = .set es ep t
 fit:t.fits es.size = true
theorem SetAt.state {a:Addr} {es:Array (Int × Value)} {ep:Nat} {t:SetTable} {Q:(Array (Int × Value) × Nat × SetTable) -> Shared -> Prop} (x:SetAt s.heap a es ep t) (h:Q (es,ep,t) s):wpAny (model prog w) A (setState a) Q E s:=by
 obtain ⟨o,ho,_,hd⟩:=x.ex
 exact wpAny_setState_of ho hd x.fit h
theorem SetAt.keeps {h h':Heap} {a:Addr} {es:Array (Int × Value)} {ep:Nat} {t:SetTable} (x:SetAt h a es ep t) (k:∀ o,h.get? a = some o -> h'.get? a = some o):SetAt h' a es ep t:=by
 obtain ⟨o,ho,q⟩:=x.ex
 exact ⟨⟨o,k o ho,q⟩,x.fit⟩
def xO (first:Value) (i:Nat) (a:Addr) (n ep:Nat):Obj:={ cls:=.type "set_iterator",data:=.fields #[first,.int i 0,.ref a,.int n 0,.int ep 0] }
theorem nE {it a:Addr} {es:Array (Int × Value)} {ep slot nx i:Nat} {t:SetTable} {x:Value} {Q:Option Value -> Shared -> Prop} (ho:s.heap.get? it = some (xO (.int slot 0) i a es.size ep)) (hS:SetAt s.heap a es ep t)
  (hn:∀ (E':Value -> Shared -> Prop) (Q:Option (Value × Nat) -> Shared -> Prop),Q (some (x,nx)) s -> wpAny (model prog w) A.in1 (setNext a slot i ep) Q E' s)
  (hQ:∀ h',Heap.SameBut it s.heap h' -> h'.get? it = some (xO (.int nx 0) (i + 1) a es.size ep) -> Q (some x) { s with heap:=h' }):wpAny (model prog w) A (pyNext (.ref it)) Q E s:=by
 unfold pyNext
 have hT:s.TypeIs (.ref it) "set_iterator" := ⟨_,ho,rfl⟩
 refine a0a (wpAny_attempt (wpAny_callSpecial?_slot (name:=Str.ofString "__next__") hT aK
  (wpAny_call_entry aK hT cE ?_ (cJ _))))
 unfold Builtin.«set_iterator.__next__»
 show wpAny _ A.in1 (fieldsOf (.ref it) >>= _) _ _ s
 refine a0a (kS ho rfl ?_)
 show wpAny _ A.in1 (setEntries a >>= _) _ _ s
 unfold setEntries
 refine a0a (a0a (hS.state (a0d ?_)))
 dsimp only
 rw [if_neg (by simp)]
 show wpAny _ A.in1 (setNext a _ _ _ >>= _) _ _ s
 refine a0a (hn _ _ ?_)
 dsimp only
 refine a0a (wpAny_setField ho rfl (by simp) ?_)
 have ho1:=Heap.get?_update_self (Obj.mapFields (·.setIfInBounds 0 (rawInt nx))) ho (Obj.isFreed_of_fields (Obj.data_mapFields (o:=xO (.int slot 0) i a es.size ep) rfl _))
 refine a0a (wpAny_setField ho1 (Obj.data_mapFields (o:=xO (.int slot 0) i a es.size ep) rfl _) (by simp) ?_)
 have ho2:=Heap.get?_update_self (Obj.mapFields (·.setIfInBounds 1 (rawInt (i + 1)))) ho1 (Obj.isFreed_of_fields (Obj.data_mapFields (Obj.data_mapFields (o:=xO (.int slot 0) i a es.size ep) rfl _) _))
 exact a0d ⟨x,rfl,a0d (hQ _ ((Heap.SameBut.update ..).trans (Heap.SameBut.update ..)) (ho2.trans rfl))⟩
theorem sC {it:Addr} {s0:Shared} {Q:Option Value -> Shared -> Prop} (hh:A.handled = none) (hQ:∀ h',(∀ b o,s.heap.get? b = some o -> h'.get? b = some o) -> Q none { s with heap:=h' }) :
  wpAny (model prog w) A.in1 (newExc (.type "StopIteration") [] >>= λe=>raiseNew e) (λ(fin:Fin) s'=>∃ v,fin = .done (.ret v) /\ wpAny (model prog w) A (pure (some v)) Q E s')
   (λe s'=>wpAny (model prog w) A (do if <- isInstance e (.type "StopIteration") then pure none else throw e) Q E s') s:=by
 refine a0a ?_
 simp only [newExc,newTuple]
 refine a0a (wpAny_newObj_type ?_ (by size_fits))
 refine a0a (m:=firstArgMember _ _) (wpAny_of_eq (a:=Value.none) (by first | rfl | (simp only [firstArgMember];rfl)) ?_)
 refine wpAny_newObj_type ?_ (by size_fits)
 simp only [raiseNew]
 refine a0a (wpAny_handled ?_)
 rw [show A.in1.handled = none from hh]
 refine a0a (a0d (wpAny_throw ?_))
 refine a0a (wpAny_isInstance (T := "StopIteration") (b:=true) ⟨_,Heap.get?_push_size _ rfl,rfl⟩ isSubtype_stop ?_)
 exact a0d (hQ _ λb o e=>a0e _ (a0e _ e))
theorem p8 {it a:Addr} {es:Array (Int × Value)} {ep slot i:Nat} {t:SetTable} {Q:Option Value -> Shared -> Prop} (hh:A.handled = none) (ho:s.heap.get? it = some (xO (.int slot 0) i a es.size ep)) (hS:SetAt s.heap a es ep t)
  (hn:∀ (E':Value -> Shared -> Prop) (Q:Option (Value × Nat) -> Shared -> Prop),Q none s -> wpAny (model prog w) A.in1 (setNext a slot i ep) Q E' s)
  (hQ:∀ h',(∀ b o,b ≠ it -> s.heap.get? b = some o -> h'.get? b = some o) -> Q none { s with heap:=h' }):wpAny (model prog w) A (pyNext (.ref it)) Q E s:=by
 unfold pyNext
 have hT:s.TypeIs (.ref it) "set_iterator" := ⟨_,ho,rfl⟩
 refine a0a (wpAny_attempt (wpAny_callSpecial?_slot (name:=Str.ofString "__next__") hT aK
  (wpAny_call_entry aK hT cE ?_ (cJ _))))
 unfold Builtin.«set_iterator.__next__»
 show wpAny _ A.in1 (fieldsOf (.ref it) >>= _) _ _ s
 refine a0a (kS ho rfl ?_)
 show wpAny _ A.in1 (setEntries a >>= _) _ _ s
 unfold setEntries
 refine a0a (a0a (hS.state (a0d ?_)))
 dsimp only
 rw [if_neg (by simp)]
 show wpAny _ A.in1 (setNext a _ _ _ >>= _) _ _ s
 refine a0a (hn _ _ ?_)
 dsimp only
 refine a0a (wpAny_setField ho rfl (by simp) ?_)
 refine sC (it:=it) (s0:=s) hh λh' k=>hQ h' λb o hb e=>k b o ((Heap.get?_update_other _ _ (Ne.symm hb)).trans e)
theorem tH {it a tp:Addr} {es:Array (Int × Value)} {ep i pl:Nat} {t:SetTable} {hx:Int} {x:Value} {ps:Array Value} {tk:Tok} {Q:Option Value -> Shared -> Prop} (ho:s.heap.get? it = some (xO (.ref tp) i a es.size ep)) (hS:SetAt s.heap a es ep t)
  (htp:∃ o n,s.heap.get? tp = some o /\ o.data = .seq ps n) (hp:ps[i]? = some (.int pl tk)) (hx':es[pl]? = some (hx,x))
  (hQ:∀ h',Heap.SameBut it s.heap h' -> h'.get? it = some (xO (.ref tp) (i + 1) a es.size ep) -> Q (some x) { s with heap:=h' }):wpAny (model prog w) A (pyNext (.ref it)) Q E s:=by
 unfold pyNext
 have hT:s.TypeIs (.ref it) "set_iterator" := ⟨_,ho,rfl⟩
 refine a0a (wpAny_attempt (wpAny_callSpecial?_slot (name:=Str.ofString "__next__") hT aK
  (wpAny_call_entry aK hT cE ?_ (cJ _))))
 unfold Builtin.«set_iterator.__next__»
 show wpAny _ A.in1 (fieldsOf (.ref it) >>= _) _ _ s
 refine a0a (kS ho rfl ?_)
 show wpAny _ A.in1 (setEntries a >>= _) _ _ s
 unfold setEntries
 refine a0a (a0a (hS.state (a0d ?_)))
 dsimp only
 rw [if_neg (by simp)]
 obtain ⟨otp,ntp,h1,h2⟩:=htp
 show wpAny _ A.in1 (seqItems? (.ref tp) >>= _) _ _ s
 refine a0a (wpAny_seqItems h1 h2 ?_)
 simp only [Int.toNat_natCast,hp]
 show wpAny _ A.in1 (setNextDrawn a _ _ >>= _) _ _ s
 unfold setNextDrawn
 refine a0a (a0a (hS.state ?_))
 dsimp only
 rw [if_neg (by simp)]
 simp only [Int.toNat_natCast,hx']
 refine a0d ?_
 refine a0a (wpAny_setField ho rfl (by simp) ?_)
 have ho1:=Heap.get?_update_self (Obj.mapFields (·.setIfInBounds 1 (rawInt (i + 1)))) ho (Obj.isFreed_of_fields (Obj.data_mapFields (o:=xO (.ref tp) i a es.size ep) rfl _))
 exact a0d ⟨x,rfl,a0d (hQ _ (Heap.SameBut.update ..) (ho1.trans rfl))⟩
theorem wW {it a tp:Addr} {es:Array (Int × Value)} {ep i:Nat} {t:SetTable} {ps:Array Value} {Q:Option Value -> Shared -> Prop} (hh:A.handled = none) (ho:s.heap.get? it = some (xO (.ref tp) i a es.size ep)) (hS:SetAt s.heap a es ep t)
  (htp:∃ o n,s.heap.get? tp = some o /\ o.data = .seq ps n) (hp:ps[i]? = none)
  (hQ:∀ h',(∀ b o,b ≠ it -> s.heap.get? b = some o -> h'.get? b = some o) -> Q none { s with heap:=h' }):wpAny (model prog w) A (pyNext (.ref it)) Q E s:=by
 unfold pyNext
 have hT:s.TypeIs (.ref it) "set_iterator" := ⟨_,ho,rfl⟩
 refine a0a (wpAny_attempt (wpAny_callSpecial?_slot (name:=Str.ofString "__next__") hT aK
  (wpAny_call_entry aK hT cE ?_ (cJ _))))
 unfold Builtin.«set_iterator.__next__»
 show wpAny _ A.in1 (fieldsOf (.ref it) >>= _) _ _ s
 refine a0a (kS ho rfl ?_)
 show wpAny _ A.in1 (setEntries a >>= _) _ _ s
 unfold setEntries
 refine a0a (a0a (hS.state (a0d ?_)))
 dsimp only
 rw [if_neg (by simp)]
 obtain ⟨otp,ntp,h1,h2⟩:=htp
 show wpAny _ A.in1 (seqItems? (.ref tp) >>= _) _ _ s
 refine a0a (wpAny_seqItems h1 h2 ?_)
 simp only [Int.toNat_natCast,hp]
 refine a0a (wpAny_setField ho rfl (by simp) ?_)
 have ho1:=Heap.get?_update_self (Obj.mapFields (·.setIfInBounds 0 (rawInt 0))) ho (Obj.isFreed_of_fields (Obj.data_mapFields (o:=xO (.ref tp) i a es.size ep) rfl _))
 refine a0a (wpAny_setField ho1 (Obj.data_mapFields (o:=xO (.ref tp) i a es.size ep) rfl _) (by simp) ?_)
 refine sC (it:=it) (s0:=s) hh λh' k=>hQ h' λb o hb e=>k b o ((Heap.get?_update_other _ _ (Ne.symm hb)).trans ((Heap.get?_update_other _ _ (Ne.symm hb)).trans e))
end
open PySem
theorem fZ {α:Type}:∀ {l:List α} {i:Nat} (h:i < l.length),(l[i] :: l.eraseIdx i).Perm l
 | x :: xs,0,h=>.refl _
 | x :: xs,i + 1,h=>by
  have:=fZ (l:=xs) (i:=i) (by simpa using h)
  simp only [List.getElem_cons_succ,List.eraseIdx_cons_succ]
  exact (List.Perm.swap _ _ _).trans (this.cons x)
section
variable {prog:Program} {w:World} {A:Around} {E:Value -> Shared -> Prop} {s:Shared}
theorem fP {Q:Bool -> Shared -> Prop} (h:Q (w.params.followText "set-order") s):wpAny (model prog w) A setsByText Q E s:=by
 unfold setsByText
 exact a0a (wpAny_askSetting (a0d h))
theorem lG {a:Addr} {es:Array (Int × Value)} {ep slot i:Nat} {t:SetTable} {Q:Option (Value × Nat) -> Shared -> Prop} (hS:SetAt s.heap a es ep t) (hb:w.params.followText "set-order" = false) (hd:(!t.plain && decide (es.size > 1)) = false) (hl:t.led = true)
  (h:Q (match es[SetTable.below t.place slot]?,t.place[SetTable.below t.place slot]? with | some (_,x),some j=>some (x,j + 1) | _,_=>none) s):wpAny (model prog w) A (setNext a slot i ep) Q E s:=by
 unfold setNext
 refine a0a (hS.state ?_)
 dsimp only
 refine a0a (fP ?_)
 rw [hb]
 rw [if_neg a0k]
 rw [if_neg (by show ¬ ((!t.plain && decide (es.size > 1)) = true);rw [hd];exact a0k)]
 refine a0a ?_
 show wpAny _ _ (if (!t.led && !es.isEmpty) = true then unsupported "set:maker-not-led" else pure ()) _ _ _
 rw [if_neg (by rw [hl];simp)]
 exact a0d (a0d h)
theorem n9 {a:Addr} {es:Array (Int × Value)} {ep slot i:Nat} {t:SetTable} {Q:Option (Value × Nat) -> Shared -> Prop} (hS:SetAt s.heap a es ep t) (hb:w.params.followText "set-order" = true)
  (h:Q (((pickOrder (w.params.setOrder a ep) es)[i]?).map λe=>(e.2,slot)) s):wpAny (model prog w) A (setNext a slot i ep) Q E s:=by
 unfold setNext
 refine a0a (hS.state ?_)
 dsimp only
 refine a0a (fP ?_)
 rw [hb]
 rw [if_pos rfl,if_neg (by simp)]
 unfold setWalk
 refine a0a (a0a (hS.state ?_))
 dsimp only
 refine a0a (fP ?_)
 rw [hb]
 rw [if_pos rfl]
 refine a0a (wpAny_askSetting (a0d (a0d h)))
theorem xG {src:Source} {n:Nat} {Q:Nat -> Shared -> Prop} (hn:n ≠ 0) (h:∀ (i:Nat) (d:Drawn),i < n -> Q i { s with drawn:=d }):wpAny (model prog w) A (choose src n) Q E s:=λΓ p hΓ=>by
 show Sem.wp _ Γ (.choose src n .pure) _ _ p s
 rw [Sem.wp]
 exact ⟨hn,h _ _ (Nat.mod_lt _ (Nat.pos_of_ne_zero hn))⟩
theorem mH {α:Type}:∀ (n:Nat) (xs:List α) {Q:List α -> Shared -> Prop} {s:Shared},xs.length = n -> (∀ (ys:List α) (d:Drawn),ys.Perm xs -> Q ys { s with drawn:=d }) -> wpAny (model prog w) A (drawOrder n xs) Q E s
 | 0,xs,Q,s,hl,h=>by
  have:xs = []:=List.length_eq_zero_iff.mp hl
  subst this
  unfold drawOrder
  exact a0d (h [] s.drawn (.refl _))
 | n + 1,[],Q,s,hl,h=>by cases hl
 | n + 1,x :: xs,Q,s,hl,h=>by
  unfold drawOrder
  refine a0a (xG (by simp) λi d hi=>?_)
  have e:(x :: xs)[i]? = some (x :: xs)[i]:=a0b hi
  rw [e]
  refine a0a (mH n _ (by rw [List.length_eraseIdx_of_lt hi,hl];rfl) λys d' hp=>a0d (h _ d' ?_))
  exact (hp.cons _).trans (fZ hi)
end
theorem DT {α:Type} (next:Nat -> Nat):∀ (fuel k:Nat) (k9:List α) (out:Array α),k9.length = fuel -> (pickOrder.go next fuel k k9 out).toList.Perm (out.toList ++ k9)
 | 0,k,k9,out,h=>by
  have:k9 = []:=List.length_eq_zero_iff.mp h
  subst this
  rw [pickOrder.go];simp
 | fuel + 1,k,k9,out,h=>by
  rw [pickOrder.go]
  have hi:next k % k9.length < k9.length:=Nat.mod_lt _ (by omega)
  rw [a0b hi]
  dsimp only
  refine (DT next fuel (k + 1) _ _ (by rw [List.length_eraseIdx_of_lt hi];omega)).trans ?_
  rw [Array.toList_push,List.append_assoc]
  exact List.Perm.append_left _ (by simpa using fZ hi)
theorem dR {α:Type} (next:Nat -> Nat) (xs:Array α):(pickOrder next xs).toList.Perm xs.toList:=by
 unfold pickOrder
 simpa using DT next xs.size 0 xs.toList #[] (by simp)
def i6 (t:SetTable) (i:Nat):Nat:=if i = 0 then 0 else t.place.getD (i - 1) 0 + 1
inductive WMode (w:World) (a:Addr) (es:Array (Int × Value)) (ep:Nat) (t:SetTable) (vs:List Value):(Nat -> Value) -> Heap -> Prop where
 | plain {h:Heap}:w.params.followText "set-order" = false -> (!t.plain && decide (es.size > 1)) = false -> t.led = true -> vJ t.place -> vs = es.toList.map (·.2) -> WMode w a es ep t vs (λi=>.int (i6 t i) 0) h
 | text {h:Heap}:w.params.followText "set-order" = true -> vs = (pickOrder (w.params.setOrder a ep) es).toList.map (·.2) -> WMode w a es ep t vs (λ_=>.int 0 0) h
 | drawn {h:Heap} {tp:Addr} {o:Obj} {m:Nat} {ks:List Nat}:h.get? tp = some o -> o.data = .seq (ks.map λ(k:Nat)=>Value.int k 0).toArray m -> ks.length = es.size -> vs = ks.map (λk=>(es.getD k (0,.none)).2) -> (∀ k ∈ ks,k < es.size) -> WMode w a es ep t vs (λ_=>.ref tp) h
theorem WMode.keeps {w:World} {a:Addr} {es:Array (Int × Value)} {ep:Nat} {t:SetTable} {vs:List Value} {f:Nat -> Value} {h h':Heap} (m:WMode w a es ep t vs f h) (k:∀ tp o,f 0 = .ref tp -> h.get? tp = some o -> h'.get? tp = some o):WMode w a es ep t vs f h':=by
 cases m with
 | plain a1 a2 a3 a4 a5=>exact .plain a1 a2 a3 a4 a5
 | text a1 a2=>exact .text a1 a2
 | drawn a1 a2 a3 a4 a5=>exact .drawn (k _ _ rfl a1) a2 a3 a4 a5
structure WSt (w:World) (I a:Addr) (es:Array (Int × Value)) (ep:Nat) (t:SetTable) (vs:List Value) (f:Nat -> Value) (i:Nat) (h:Heap):Prop where
 set:SetAt h a es ep t
 ne:a ≠ I
 ne2:∀ tp,f 0 = .ref tp -> tp ≠ I
 mode:WMode w a es ep t vs f h
 it:h.get? I = some (xO (f i) i a es.size ep)
theorem WMode.len {w:World} {a:Addr} {es:Array (Int × Value)} {ep:Nat} {t:SetTable} {vs:List Value} {f:Nat -> Value} {h:Heap} (m:WMode w a es ep t vs f h):vs.length = es.size:=by
 cases m with
 | plain a1 a2 a3 a4 a5=>rw [a5];simp
 | text a1 a2=>rw [a2,a0c,(dR _ _).length_eq,a0l]
 | drawn a1 a2 a3 a4 a5=>rw [a4,a0c,a3]
section
variable {prog:Program} {w:World} {A:Around} {E:Value -> Shared -> Prop} {s:Shared} {I a:Addr} {es:Array (Int × Value)} {ep:Nat} {t:SetTable} {vs:List Value} {f:Nat -> Value}
theorem WSt.item {i:Nat} {x:Value} {Q:Option Value -> Shared -> Prop} (st:WSt w I a es ep t vs f i s.heap) (hx:vs[i]? = some x)
  (hQ:∀ h',Heap.SameBut I s.heap h' -> WSt w I a es ep t vs f (i + 1) h' -> Q (some x) { s with heap:=h' }):wpAny (model prog w) A (pyNext (.ref I)) Q E s:=by
 have next:∀ h',Heap.SameBut I s.heap h' -> h'.get? I = some (xO (f (i + 1)) (i + 1) a es.size ep) -> WSt w I a es ep t vs f (i + 1) h':=λh' sb e =>
  ⟨st.set.keeps λo ho=>(sb.2 a st.ne).trans ho,st.ne,st.ne2,st.mode.keeps λtp o e ho=>(sb.2 tp (st.ne2 tp e)).trans ho,e⟩
 have hi:i < es.size:=by rw [<- st.mode.len];exact (a0i.mp hx).1
 cases m:st.mode with
 | plain a1 a2 a3 a4 a5 =>
  rw [a5,a0h] at hx
  have hes:es.toList[i]? = some es[i]:=by rw [Array.getElem?_toList];exact Array.getElem?_eq_getElem hi
  rw [hes] at hx
  have hx:es[i].2 = x:=Option.some.inj hx
  have hps:t.place.size = es.size:=by
   have:=st.set.fit
   simp only [SetTable.fits,Bool.and_eq_true,beq_iff_eq] at this
   exact this.1
  have hbe:SetTable.below t.place (i6 t i) = i:=by
   unfold i6
   by_cases h0:i = 0
   ·subst h0;rw [if_pos rfl];exact qI a4
   ·rw [if_neg h0]
    have hj:t.place[i - 1]? = some (t.place.getD (i - 1) 0):=by
     have:i - 1 < t.place.size:=by omega
     simp [Array.getD,this]
    rw [qG a4 hj];omega
  have hsl:i6 t (i + 1) = t.place[i]'(by omega) + 1:=by
   unfold i6
   rw [if_neg (by omega)]
   have:i < t.place.size:=by omega
   simp [Array.getD,this]
  refine nE (nx:=i6 t (i + 1)) (x:=x) st.it st.set (λE' Q' q=>lG st.set a1 a2 a3 ?_) λh' sb e=>hQ h' sb (next h' sb e)
  rw [hbe,Array.getElem?_eq_getElem hi,Array.getElem?_eq_getElem (by omega:i < t.place.size)]
  dsimp only
  rw [<- hsl,hx];exact q
 | text a1 a2 =>
  rw [a2,a0h] at hx
  refine nE (nx:=0) (x:=x) st.it st.set (λE' Q' q=>n9 st.set a1 ?_) λh' sb e=>hQ h' sb (next h' sb e)
  rw [<- Array.getElem?_toList]
  cases hp:(pickOrder (w.params.setOrder a ep) es).toList[i]? with
  | none=>rw [hp] at hx;cases hx
  | some y=>rw [hp] at hx;cases hx;exact q
 | @drawn _ tp o mm ks a1 a2 a3 a4 a5 =>
  rw [a4,a0h] at hx
  cases hk:ks[i]? with
  | none=>rw [hk] at hx;cases hx
  | some k =>
   rw [hk] at hx
   have hx:(es.getD k (0,.none)).2 = x:=Option.some.inj hx
   have hkl:=a5 k (List.mem_of_getElem? hk)
   refine tH (pl:=k) (tk:=0) (hx:=es[k].1) (x:=x) st.it st.set ⟨o,mm,a1,a2⟩ ?_ ?_ λh' sb e=>hQ h' sb (next h' sb e)
   ·rw [List.getElem?_toArray,a0h,hk];rfl
   ·rw [Array.getElem?_eq_getElem hkl]
    rw [<- hx]
    simp [Array.getD,hkl]
theorem WSt.done {Q:Option Value -> Shared -> Prop} (hh:A.handled = none) (st:WSt w I a es ep t vs f vs.length s.heap)
  (hQ:∀ h',(∀ b o,b ≠ I -> s.heap.get? b = some o -> h'.get? b = some o) -> Q none { s with heap:=h' }):wpAny (model prog w) A (pyNext (.ref I)) Q E s:=by
 have hl:=st.mode.len
 have hit:=st.it
 have hset:=st.set
 cases m:st.mode with
 | plain a1 a2 a3 a4 a5 =>
  have hps:t.place.size = es.size:=by
   have:=st.set.fit
   simp only [SetTable.fits,Bool.and_eq_true,beq_iff_eq] at this
   exact this.1
  have hbe:es[SetTable.below t.place (i6 t vs.length)]? = none:=by
   have:SetTable.below t.place (i6 t vs.length) = vs.length:=by
    unfold i6
    by_cases h0:vs.length = 0
    ·rw [if_pos h0,h0];exact qI a4
    ·rw [if_neg h0]
     have hj:t.place[vs.length - 1]? = some (t.place.getD (vs.length - 1) 0):=by
      have:vs.length - 1 < t.place.size:=by omega
      simp [Array.getD,this]
     rw [qG a4 hj];omega
   rw [this];exact Array.getElem?_eq_none (by omega)
  refine p8 hh hit hset (λE' Q' q=>lG hset a1 a2 a3 ?_) hQ
  rw [hbe];exact q
 | text a1 a2 =>
  refine p8 hh hit hset (λE' Q' q=>n9 hset a1 ?_) hQ
  rw [Array.getElem?_eq_none (by rw [<- a0l,(dR _ _).length_eq,a0l];omega)]
  exact q
 | @drawn _ tp o mm ks a1 a2 a3 a4 a5 =>
  refine wW hh hit hset ⟨o,mm,a1,a2⟩ ?_ hQ
  rw [List.getElem?_toArray,a0h,List.getElem?_eq_none (by omega)];rfl
end
open PySem PyProof.Rows
theorem gU:Slot "set_iterator" "__iter__" "set_iterator.__iter__" :=
 .of (owner := "set_iterator") (n := "__iter__") (by rw [typeLookup_type,builtinLookup_eq_fast];kernel_rfl) (by decide +kernel) (by decide +kernel) (by decide +kernel)
  (by first | exact .inl (by decide +kernel) | exact .inr (by decide +kernel)) (by rw [isSubtype_type];kernel_rfl)
theorem lO:entryFor table "set_iterator.__iter__" = some Builtin.«dict_keyiterator.__iter__»:=entryFor_alias (id' := "dict_keyiterator.__iter__") (by kernel_rfl) rfl (by decide +kernel) (by kernel_rfl)
theorem mF (a:Value):argsOk "set_iterator.__iter__" ⟨[a],[]⟩:=by unfold argsOk;kernel_rfl
theorem wZ:Slot "set" "__len__" "set.__len__" :=
 .of (owner := "set") (n := "__len__") (by rw [typeLookup_type,builtinLookup_eq_fast];kernel_rfl) (by decide +kernel) (by decide +kernel) (by decide +kernel)
  (by first | exact .inl (by decide +kernel) | exact .inr (by decide +kernel)) (by rw [isSubtype_type];kernel_rfl)
theorem oV:∀ {vs:List Value},(∀ v ∈ vs,∃ t,v = .int (c7 v) t) -> IntsAre vs (vs.map c7)
 | [],_=>.nil
 | v :: vs,h=>by
  obtain ⟨t,e⟩:=h v a0m
  have ih:=oV λu hu=>h u (a0j _ hu)
  rw [a0f]
  generalize c7 v = k at e ⊢
  subst e
  exact .cons _ _ ih
section
variable {prog:Program} {w:World} {A:Around} {E:Value -> Shared -> Prop} {s:Shared} {I a:Addr} {es:Array (Int × Value)} {ep:Nat} {t:SetTable} {vs:List Value} {f:Nat -> Value}
theorem FQ {Q:Value -> Shared -> Prop} {x:Value} {i n:Nat} (ho:s.heap.get? I = some (xO x i a n ep)) (h:Q (.ref I) s):wpAny (model prog w) A (pyIter (.ref I)) Q E s:=by
 have hT:s.TypeIs (.ref I) "set_iterator" := ⟨_,ho,rfl⟩
 refine wpAny_pyIter_slot hT gU (wpAny_call_entry gU hT lO ?_ (mF _))
 show wpAny _ _ (ret (.ref I)) _ _ s
 exact a0d ⟨_,rfl, "set_iterator",_,hT,aK.lookup,h⟩
def BA (I a:Addr) (f:Nat -> Value):List Addr:=I :: a :: (match f 0 with | .ref tp=>[tp] | _=>[])
theorem GM (hh:A.handled = none):WalksS prog w A I (BA I a f) [I] (λg g'=>g' = g) vs.length (λi v=>vs[i]? = some v) (λi s=>WSt w I a es ep t vs f i s.heap) where
 sub:=λb hb=>by simp at hb;subst hb;simp [BA]
 grefl:=λ_=>rfl
 gtrans:=λ_ _ _ h1 h2=>h2.trans h1
 frame:=λi s h' tk st _ k=>⟨st.set.keeps λo=>k a (by simp [BA]) o,st.ne,st.ne2,st.mode.keeps λtp o e=>k tp (by simp [BA,e]) o,k I (by simp [BA]) _ st.it⟩
 item:=λi s Q E hi st h=>st.item (a0b hi) λh' sb st'=>h _ _ (a0b hi) st' ⟨λb o hb e=>(sb.2 b (by simpa using hb)).trans e,rfl,rfl,rfl,Nat.le_refl _⟩
 done:=λs Q E st h=>st.done hh λh' k=>h _ ⟨λb o hb e=>k b o (by simpa using hb) e,rfl,rfl,rfl,Nat.le_refl _⟩
 self:=λi s Q E st h=>FQ st.it h
theorem JB {S:Int -> Bool} {n:Nat} {Q:Value -> Shared -> Prop} (hX:bC prog w a S n s.heap)
  (h:∀ (I:Addr) (es:Array (Int × Value)) (ep:Nat) (t:SetTable) (vs:List Value) (f:Nat -> Value) (s':Shared),s'.gens = s.gens -> s'.os = s.os -> s'.toks = s.toks -> s.heap.objs.size <= I -> (∀ tp,f 0 = .ref tp -> s.heap.objs.size <= tp /\ tp < I) -> I < s'.heap.objs.size -> (∀ b o,s.heap.get? b = some o -> s'.heap.get? b = some o) -> WSt w I a es ep t vs f 0 s'.heap ->
   vs.Perm (es.toList.map (·.2)) -> ElemsOf (intKind prog w) es.toList -> (∀ k,S k = true ↔ ∃ e ∈ es.toList,(intKind prog w).is k e.2 = true) -> (es.toList.map λe=>c7 e.2).Nodup -> es.size = n -> Q (.ref I) s'):wpAny (model prog w) A (pyIter (.ref a)) Q E s:=by
 obtain ⟨o,es,ep,t,ho,hex,hd,hel,hmem,hb,hf,hn,hwk,hnd⟩:=hX
 have hS:SetAt s.heap a es ep t:=⟨⟨o,ho,hex,hd⟩,hf⟩
 have hT:s.TypeIs (.ref a) "set" := ⟨o,ho,hex.1⟩
 refine wpAny_pyIter_slot hT F.slot_set_iter (wpAny_call_entry F.slot_set_iter hT qN ?_ (F.args_set_iter_1 _))
 unfold Builtin.«frozenset.__iter__»
 show wpAny _ A.in1 (Builtin.Frozenset.sizeOf a >>= _) _ _ s
 unfold Builtin.Frozenset.sizeOf setEntries
 refine a0a (a0a (a0a (hS.state (a0d (a0d ?_)))))
 dsimp only
 refine a0a ?_
 unfold setDrawn
 refine a0a (hS.state ?_)
 dsimp only
 refine a0a (fP (a0d ?_))
 show wpAny _ _ (if (!w.params.followText "set-order" && (!t.plain && decide (es.size > 1))) = true then _ else _) _ _ _
 have fin:∀ (s1:Shared) (x:Value),s1.gens = s.gens -> s1.os = s.os -> s1.toks = s.toks -> s.heap.objs.size <= s1.heap.objs.size -> (∀ b o,s.heap.get? b = some o -> s1.heap.get? b = some o) -> ∀ (vs:List Value) (f:Nat -> Value),f 0 = x -> (∀ tp,f 0 = .ref tp -> s.heap.objs.size <= tp /\ tp < s1.heap.objs.size) ->
   (∀ h',(∀ b o,s1.heap.get? b = some o -> h'.get? b = some o) -> WMode w a es ep t vs f h') -> vs.Perm (es.toList.map (·.2)) ->
   wpAny (model prog w) A.in1 (setEpoch a >>= λe=>newFields "set_iterator" [x,rawInt 0,.ref a,rawInt es.size,rawInt e] >>= λr=>ret r) (λ(fin:Fin) s'=>∃ v,fin = .done (.ret v) /\ ∃ T' r,s'.TypeIs v T' /\ typeLookup (.type T') "__next__" = pure (some r) /\ Q v s') E s1:=by
  intro s1 x g1 g2 g3 g4 g5 vs f hf0 htp hm hp
  have hS1:=hS.keeps λo=>g5 a o
  unfold setEpoch
  refine a0a (a0a (hS1.state (a0d ?_)))
  dsimp only
  refine a0a (wpAny_newObj_type ?_)
  have hI:(s1.heap.push (xO x 0 a es.size ep)).get? s1.heap.objs.size = some (xO x 0 a es.size ep):=Heap.get?_push_size _ rfl
  refine a0d ⟨_,rfl, "set_iterator",_,⟨_,hI,rfl⟩,aK.lookup,?_⟩
  refine h s1.heap.objs.size es ep t vs f { s1 with heap:=s1.heap.push (xO x 0 a es.size ep) } g1 g2 g3 g4 htp (by show _ < (s1.heap.push _).objs.size;rw [Heap.size_push];exact Nat.lt_succ_self _) (λb o e=>a0e _ (g5 b o e)) ⟨hS1.keeps λo e=>a0e _ e,?_,λtp e=>Nat.ne_of_lt (htp tp e).2,hm _ λb o e=>a0e _ e,?_⟩ hp hel hmem hnd hn
  ·exact Nat.ne_of_lt (Nat.lt_of_lt_of_le (a0n ho) g4)
  ·rw [hf0];exact hI
 by_cases hc:(!w.params.followText "set-order" && (!t.plain && decide (es.size > 1))) = true
 ·rw [if_pos hc]
  refine a0a (mH es.size _ (by simp) λks d hp=>?_)
  have hkl:ks.length = es.size:=by rw [hp.length_eq];simp
  unfold newTuple
  refine a0a (wpAny_newObj_type ?_ (by show (List.map (λ(i:Nat)=>rawInt i) ks).toArray.size <= sizeLine;rw [List.size_toArray,a0c,hkl];exact Nat.le_trans (Nat.le_of_lt hb) (by decide)))
  have hkm:∀ k ∈ ks,k < es.size:=λk hk=>by simpa using hp.mem_iff.mp hk
  refine fin _ (.ref s.heap.objs.size) rfl rfl rfl (by show _ <= (s.heap.push _).objs.size;rw [Heap.size_push];exact Nat.le_succ _) (λb o e=>a0e _ e) (ks.map λk=>(es.getD k (0,.none)).2) (λ_=>.ref s.heap.objs.size) rfl (λtp e=>?_) (λh' k=>?_) ?_
  ·cases e
   exact ⟨Nat.le_refl _,by show _ < (s.heap.push _).objs.size;rw [Heap.size_push];exact Nat.lt_succ_self _⟩
  ·exact .drawn (k _ _ (Heap.get?_push_size _ rfl)) rfl hkl rfl hkm
  ·have:(List.range es.size).map (λk=>(es.getD k (0,.none)).2) = es.toList.map (·.2):=by
    refine List.ext_getElem (by simp) λi h1 h2=>?_
    have hi:i < es.size:=by simpa using h1
    simp [Array.getD,hi]
   rw [<- this]
   exact hp.map _
 ·rw [if_neg hc]
  refine a0a (a0d ?_)
  have e:s = { s with heap:=s.heap }:=by cases s;rfl
  cases hbt:w.params.followText "set-order" with
  | true =>
   refine fin s (rawInt 0) rfl rfl rfl (Nat.le_refl _) (λ_ _ e=>e) ((pickOrder (w.params.setOrder a ep) es).toList.map (·.2)) (λ_=>.int 0 0) rfl (λtp e=>by cases e) (λh' k=>.text hbt rfl) ((dR _ _).map _)
  | false =>
   have hc':(!t.plain && decide (es.size > 1)) = false:=by
    cases hq:(!t.plain && decide (es.size > 1)) with
    | false=>rfl
    | true=>rw [hbt,hq] at hc;exact absurd rfl hc
   rcases hwk with z | ⟨hled,hris⟩
   ·rw [hbt] at z;cases z
   ·have hr:vJ t.place:=by
     cases hp:t.plain with
     | true=>exact hris hp
     | false =>
      rw [hp] at hc'
      have hsz:¬ es.size > 1:=by simpa using hc'
      have hps:t.place.size = es.size:=by
       have:=hf
       simp only [SetTable.fits,Bool.and_eq_true,beq_iff_eq] at this
       exact this.1
      unfold vJ
      have:t.place.toList.length <= 1:=by rw [a0l];omega
      match hl:t.place.toList,this with
      | [],_=>exact .nil
      | [x],_=>simp
    refine fin s (rawInt 0) rfl rfl rfl (Nat.le_refl _) (λ_ _ e=>e) (es.toList.map (·.2)) (λi=>.int (i6 t i) 0) rfl (λtp e=>by cases e) (λh' k=>.plain hbt hc' hled hr rfl) (.refl _)
theorem y8 {S:Int -> Bool} {n:Nat} {Q:List Value -> Shared -> Prop} (hh:A.handled = none) (hX:bC prog w a S n s.heap)
  (h:∀ (us:List Value) (ks:List Int) (s':Shared),s'.gens = s.gens -> s'.os = s.os -> s.toks <= s'.toks -> (∀ b o,s.heap.get? b = some o -> s'.heap.get? b = some o) -> IntsAre us ks -> ks.Nodup -> (∀ k,S k = true ↔ k ∈ ks) -> ks.length = n -> s.heap.objs.size <= s'.heap.objs.size -> Q us s'):wpAny (model prog w) A (collect (.ref a)) Q E s:=by
 have hX0:=hX
 obtain ⟨o,es,ep,t,ho,hex,hd,hel,hmem,hb,hf,hn,hwk,hnd⟩:=hX
 have hSI:s.heap.objs.size ≠ a:=Ne.symm (Nat.ne_of_lt (a0n ho))
 have hk1:∀ b o,s.heap.get? b = some o -> (s.heap.push { cls:=.type "list",data:=.seq ([]:List Value).toArray }).get? b = some o:=λb o e=>a0e _ e
 unfold collect
 refine a0a (wpAny_runValue (codeAny_builtin F.entry_proto_collect ?_))
 rw [Around.under_plainId F.plain_proto_collect _]
 show wpAny _ A.in1 (newList [] >>= λl=>again (.builtin "list.__iadd__" ⟨[l,.ref a],[]⟩)) _ _ s
 refine a0a (wpAny_newObj_type ?_)
 refine a0d ⟨plainId_quiet F.plain_list_iadd _,codeAny_builtin F.entry_list_iadd ?_⟩
 rw [Around.under_plainId F.plain_list_iadd _]
 show wpAny _ A.in1 (Builtin.List.listExtendWith (.ref s.heap.objs.size) (.ref a) (.ref s.heap.objs.size)) _ _ _
 unfold Builtin.List.listExtendWith
 have hT1:({ s with heap:=s.heap.push { cls:=.type "list",data:=.seq ([]:List Value).toArray } }:Shared).TypeIs (.ref a) "set" := ⟨o,hk1 a o ho,hex.1⟩
 refine a0a (wpAny_typeOf hT1 ?_)
 have h1:Builtin.List.listSameRef (.ref s.heap.objs.size) (.ref a) = false:=by simp [Builtin.List.listSameRef,hSI]
 have h2:(Value.type "set" == Value.type "list") = false:=by decide
 have h3:(Value.type "set" == Value.type "tuple") = false:=by decide
 simp only [h1,h2,h3,Bool.or_false,Bool.false_eq_true,if_false]
 have hX1:bC prog w a S n (s.heap.push { cls:=.type "list",data:=.seq ([]:List Value).toArray }):=⟨o,es,ep,t,hk1 a o ho,hex,hd,hel,hmem,hb,hf,hn,hwk,hnd⟩
 refine a0a (JB (s:={ s with heap:=s.heap.push { cls:=.type "list",data:=.seq ([]:List Value).toArray } }) hX1 λI es2 ep2 t2 vs f s2 g1 g2 g3 g4 g5 g6 g7 st hperm hel2 hmem2 hnd2 hn2=>?_)
 refine a0a (wpAny_holding ?_)
 unfold Builtin.List.listLengthHint
 have hT2:s2.TypeIs (.ref a) "set" := ⟨o,g7 a o (hk1 a o ho),hex.1⟩
 refine a0a (wpAny_specialOf hT2 wZ.lookup ?_)
 wp_delta
 refine a0a (wpAny_isInstance (T := "set") (b:=true) hT2 (by rw [isSubtype_type];kernel_rfl) ?_)
 show wpAny _ A.in1 (typeOf (Value.ref a) >>= _) _ _ _
 refine a0a (wpAny_typeOf hT2 ?_)
 refine a0d ?_
 rw [if_pos (by decide)]
 refine a0a (wpAny_rule ?_)
 have hS₁:s2.heap.get? s.heap.objs.size = some { cls:=.type "list",data:=.seq ([]:List Value).toArray }:=g7 _ _ (Heap.get?_push_size _ rfl)
 refine a0a ?_
 show wpAny _ A.in1 (updateSeq s.heap.objs.size (·.push .none) >>= λ_=>updateSeq s.heap.objs.size (·.pop)) _ _ _
 refine a0a (wpAny_updateSeq hS₁ rfl ?_)
 have hS₂:=Heap.get?_update_self (Obj.mapSeq (·.push Value.none)) hS₁ rfl
 refine wpAny_updateSeq hS₂ rfl ?_
 have hS₃:=Heap.get?_update_self (Obj.mapSeq (·.pop)) hS₂ rfl
 have hlt:s.heap.objs.size < (s.heap.push { cls:=.type "list",data:=.seq ([]:List Value).toArray }).objs.size:=by rw [Heap.size_push];exact Nat.lt_succ_self _
 have oth:∀ b o,b ≠ s.heap.objs.size -> s2.heap.get? b = some o ->
   ((s2.heap.update s.heap.objs.size (Obj.mapSeq (·.push Value.none))).update s.heap.objs.size (Obj.mapSeq (·.pop))).get? b = some o :=
  λb o hb e=>(Heap.get?_update_other _ _ (Ne.symm hb)).trans ((Heap.get?_update_other _ _ (Ne.symm hb)).trans e)
 have hSf:s.heap.objs.size ∉ BA I a f:=by
  unfold BA
  intro hm
  rcases List.mem_cons.mp hm with z | z
  ·exact Nat.ne_of_lt (Nat.lt_of_lt_of_le hlt g4) z
  ·rcases List.mem_cons.mp z with z | z
   ·exact hSI z
   ·cases hf0:f 0 with
    | ref tp =>
     rw [hf0] at z
     have:s.heap.objs.size = tp:=by simpa using z
     exact Nat.ne_of_lt (Nat.lt_of_lt_of_le hlt (g5 tp hf0).1) this
    | _=>rw [hf0] at z;cases z
 have hvl:vs.length = n:=by rw [hperm.length_eq,a0c,a0l,hn2]
 have hbn:n < scanBound:=by rw [<- hn];exact hb
 have W:=GM (prog:=prog) (w:=w) (A:=A.in1) (I:=I) (a:=a) (es:=es2) (ep:=ep2) (t:=t2) (vs:=vs) (f:=f) hh
 refine a0d ⟨plainId_quiet F.plain_extend_loop _,codeAny_extend_loopS W (by rw [hvl];exact Nat.le_trans (Nat.le_of_lt hbn) (by decide)) _ hSf _ vs.length 0 _ _ _ rfl (Nat.zero_le _)
  (W.frame 0 s2 _ s2.toks st (Nat.le_refl _) λb hb o e=>oth b o (λz=>hSf (z ▸ hb)) e) hS₃ (ItemsOf.nil _) λs' acc' c' hm hS' hacc=>?_⟩
 show wpAny _ A (load s.heap.objs.size >>= _) _ _ s'
 refine a0a (wpAny_load hS' ?_)
 refine a0d (h acc'.toList (vs.map c7) s' (hm.gens.trans g1) (hm.os.trans g2) (Nat.le_trans (Nat.le_of_eq g3.symm) hm.toks) (λb o e=>?_) ?_ ?_ (λk=>?_) (by rw [a0c,hvl]) (Nat.le_of_lt (a0n hS')))
 ·have hb':b < s.heap.objs.size:=a0n e
  refine hm.heap b o (λz=>?_) (oth b o (Nat.ne_of_lt hb') (g7 b o (hk1 b o e)))
  rcases List.mem_cons.mp z with z | z
  ·exact Nat.ne_of_lt hb' z
  ·have:b = I:=by simpa using z
   exact Nat.ne_of_lt (Nat.lt_of_lt_of_le (Nat.lt_trans hb' hlt) g4) this
 ·have hav:acc'.toList = vs:=by
   refine List.ext_getElem? λi=>?_
   by_cases hi:i < acc'.size
   ·have:=hacc.2 i acc'[i] (Array.getElem?_eq_getElem hi)
    rw [this,Array.getElem?_toList];exact Array.getElem?_eq_getElem hi
   ·rw [List.getElem?_eq_none (by rw [a0l];omega),List.getElem?_eq_none (by have:=hacc.1;omega)]
  rw [hav]
  have all:∀ v ∈ vs,∃ t,v = .int (c7 v) t:=λv hv=>by
   obtain ⟨e,he,rfl⟩:=List.mem_map.mp (hperm.mem_iff.mp hv)
   obtain ⟨⟨k,hk,_⟩,_⟩:=hel2 e he
   obtain ⟨tk,e2⟩:=bW hk
   rw [e2];exact ⟨tk,rfl⟩
  exact oV all
 ·have:(vs.map c7).Perm (es2.toList.map λe=>c7 e.2):=by
   have:=hperm.map c7
   rwa [List.map_map] at this
  exact this.nodup_iff.mpr hnd2
 ·rw [hmem2 k]
  constructor
  ·rintro ⟨e,he,hk⟩
   obtain ⟨tk,e2⟩:=bW hk
   exact List.mem_map.mpr ⟨e.2,hperm.mem_iff.mpr (List.mem_map.mpr ⟨e,he,rfl⟩),by rw [e2];rfl⟩
  ·intro hk
   obtain ⟨v,hv,rfl⟩:=List.mem_map.mp hk
   obtain ⟨e,he,rfl⟩:=List.mem_map.mp (hperm.mem_iff.mp hv)
   obtain ⟨⟨k,hk,_⟩,_⟩:=hel2 e he
   obtain ⟨tk,e2⟩:=bW hk
   refine ⟨e,he,?_⟩
   rw [e2] at hk ⊢;exact hk
theorem CC {S:Int -> Bool} {n:Nat} {Q:Value -> Shared -> Prop} (hh:A.handled = none) (hX:bC prog w a S n s.heap) (h64:n < 64)
  (h:∀ (out:Array Value) (ns:List Int) (l:Addr) (m:Nat) (s':Shared),s'.gens = s.gens -> s'.os = s.os -> s.toks <= s'.toks -> (∀ b o,s.heap.get? b = some o -> s'.heap.get? b = some o) -> s.heap.objs.size <= l -> s'.heap.get? l = some { cls:=.type "list",data:=.seq out m } -> IntsAre out.toList ns -> ns.Pairwise (· < ·) -> (∀ k,S k = true ↔ k ∈ ns) -> ns.length = n -> Q (.ref l) s') :
  wpAny (model prog w) A (call (.builtin "sorted") [.ref a]) Q E s:=by
 refine Calls.call_function_entry kind_sorted plain_sorted entry_sorted (args_sorted1 _) ?_
 unfold Builtin.«sorted»
 refine a0a (m:=checkCount "sorted" 1 1 _) (a0d ?_)
 refine a0a (y8 hh hX λus ks s1 g1 g2 g3 g4 hI hnd hmem hkn hsz=>?_)
 have hul:us.length = n:=by rw [<- hkn];exact hI.length
 refine a0a (wpAny_newObj_type ?_ ?_)
 ·have hoL:(s1.heap.push (seqObj "list" us.toArray 0)).get? s1.heap.objs.size = some (seqObj "list" us.toArray 0):=Heap.get?_push_size _ rfl
  refine a0a (wpAny_holding (wpAny_call_entry slot_list_sort ⟨_,hoL,rfl⟩ entry_list_sort (list_sort_tree hoL hI (by omega) λout ns' a1 a2 a3=>⟨_,rfl,?_⟩) (args_list_sort _)))
  have e1:=Heap.get?_update_self (Obj.mapSeq λ_=>#[]) hoL rfl
  have e2:=a0e (seqObj "list" #[] 0) (a0e (seqObj "tuple" us.toArray 0) e1)
  have e3:=Heap.get?_update_self (Obj.mapSeq λ_=>out) e2 rfl
  have hlt:ks.Nodup -> ns'.Pairwise (· < ·):=λhn=>by
   have hn':ns'.Nodup:=a2.nodup_iff.mpr hn
   exact (a3.and hn').imp fun {x y} ⟨h1,h2⟩=>by omega
  refine a0d ⟨_,rfl,h out ns' s1.heap.objs.size _ _ g1 g2 g3 (λb o e=>?_) hsz (e3.trans rfl) a1 (hlt hnd) (λk=>(hmem k).trans a2.mem_iff.symm) (a2.length_eq.trans hkn)⟩
  have hb:b ≠ s1.heap.objs.size:=Nat.ne_of_lt (a0n (g4 b o e))
  unfold sortedHeap
  refine (Heap.get?_update_other _ _ (Ne.symm hb)).trans (a0e _ (a0e _ ((Heap.get?_update_other _ _ (Ne.symm hb)).trans (a0e _ (g4 b o e)))))
 ·show us.toArray.size <= sizeLine
  rw [List.size_toArray,hul];exact Nat.le_trans (Nat.le_of_lt h64) (by decide)
end
def d3 (P:Program) (w:World) (a:Addr) (S:Int -> Bool) (n:Nat):HO:=.ext (bC P w a S n)
theorem bC.mono {P:Program} {w:World} {a:Addr} {S:Int -> Bool} {n:Nat} {h1 h2:Heap} (x:bC P w a S n h1) (k:∀ o,h1.get? a = some o -> h2.get? a = some o):bC P w a S n h2:=by
 obtain ⟨o,es,ep,t,ho,r⟩:=x
 exact ⟨o,es,ep,t,k o ho,r⟩
theorem bC.ok {P:Program} {w:World} {H:Hp} {h:Heap} {a:Addr} {S:Int -> Bool} {n:Nat} (x:bC P w a S n h):cF P w H h a (d3 P w a S n):=by
 refine ⟨x,?_,λh1 h2 x1 k=>x1.mono k⟩
 obtain ⟨o,es,ep,t,ho,r⟩:=x
 exact ⟨o,ho⟩
section
variable {X:Cx}
theorem Inv.laidS {pins:List (Addr × Obj)} {σ:St} {H:Hp} {s s':Shared} {a:Addr} {o:HO} (I:Inv X pins σ H s) (hos:s'.os = s.os) (hg:s'.gens = s.gens) (k:∀ b u,s.heap.get? b = some u -> s'.heap.get? b = some u) (hp:s.heap.objs.size <= a) (new:cF X.prog X.w (bD H a o) s'.heap a o):Inv X pins σ (bD H a o) s' :=
 I.call' (s':=s') (ch:=[]) hos (Un.laid k hp (I.hok.fresh hp)) (I.hok.laid k hp new) (by rw [hg];exact ⟨I.bare.1,λ_ _ e=>e⟩) (by simp)
def zP (P:Program) (w:World):List V -> Hp -> VK -> Prop:=λxs H Q=>∃ a S n,xs = [.ref a] /\ H a = some (d3 P w a S n) /\ n < 64 /\
 ∀ (l:Addr) (ms:List Int),H l = none -> ms.Pairwise (· < ·) -> (∀ k,S k = true ↔ k ∈ ms) -> Q (.ref l) (bD H l (.lst (List.map V.int ms)))
theorem tW (hc:X.calm = true):dD X (.builtin "sorted") (zP X.prog X.w):=by
 intro pins s σ H xs us Q I r h
 obtain ⟨p,S,n,rfl,hp,h64,q⟩:=h
 obtain ⟨u,rfl,ru⟩:=gV r
 cases ru
 obtain ⟨hX,_,_⟩ : bC X.prog X.w p S n s.heap /\ (∃ o,s.heap.get? p = some o) /\ (∀ h1 h2:Heap,bC X.prog X.w p S n h1 -> (∀ o,h1.get? p = some o -> h2.get? p = some o) -> bC X.prog X.w p S n h2):=I.hok p _ hp
 refine CC (I.ok.hd hc) hX h64 λout ns l m s' g1 g2 g3 g4 g5 g6 hI hlt hmem hl=>?_
 refine ⟨.ref l,bD H l (.lst (List.map V.int ns)),I.laidS g2 g1 g4 g5 ⟨?_,out.toList,m,l4 hI,by simpa using g6⟩,rfl,q l ns (I.hok.fresh g5) hlt hmem⟩
 rw [a0c,hl]
 exact Nat.le_trans (Nat.le_of_lt h64) (by decide)
end
def eF (p0:Pos) (target:Expr) (ifs:List Expr) (act:Sem Unit) (e:Expr) (d:Nat) (it acc:Value) (env:Env):Sem Fin:=do
 standAt p0
 match <- pyNext it with
 | none=>pure (.done .next)
 | some v =>
  letOwnedTupleGo target it v
  assign target env v
  let mut ok:=true
  for c in ifs do
   if ok then ok <- isTrue c env (eval c env)
  if ok then
   act
  again (.compLoop e d it acc env)
def PB (Y:Cx) (m:Sem Unit) (t:TS):Prop:=∀ (pins:List (Addr × Obj)) (s:Shared) (σ:St) (H:Hp) (D:Ends),Inv Y pins σ H s -> t D σ H ->
 wpAny (model Y.prog Y.w) Y.A m (λ_ s'=>∃ σ' H',Inv Y pins σ' H' s' /\ D.nx σ' H') (λ_ _=>False) s
def GG (tt:TT) (ta:TS):TS:=λD σ H=>tt σ H λb H1=>if b = true then ta D σ H1 else D.nx σ H1
inductive CompKind:Expr -> Prop where
 | list (elt:Expr) (gens:List Comprehension) (scope:Scope) (pos:Pos):CompKind (.ListComp elt gens scope pos)
 | set (elt:Expr) (gens:List Comprehension) (scope:Scope) (pos:Pos):CompKind (.SetComp elt gens scope pos)
 | dict (k v:Expr) (gens:List Comprehension) (scope:Scope) (pos:Pos):CompKind (.DictComp k v gens scope pos)
theorem F7 {prog:Program} {w:World} {A:Around} {R:Result -> Shared -> Prop} {s:Shared} {e:Expr} {d:Nat} {it acc:Value} {env:Env} {p0:Pos} {target:Expr} {ifs:List Expr} {act:Sem Unit} (heq:compTurn e d it acc env = eF p0 target ifs act e d it acc env) (hk:CompKind e) (I:Nat -> Shared -> Prop)
  (turn:∀ n s,I n s -> wpAny (model prog w) A (pyNext it) (λr s1=>match r with
   | none=>R (.ok .next) s1
   | some v=>wpAny (model prog w) A (letOwnedTupleGo target it v) (λ_ s2=>wpAny (model prog w) A (assign target env v) (λ_ s3 =>
     wpAny (model prog w) A (forIn ifs true λc r=>if r = true then do let ok <- isTrue c env (eval c env);pure (ForInStep.yield ok) else pure (ForInStep.yield r)) (λok s4 =>
      if ok = true then wpAny (model prog w) A act (λ_ s5=>∃ m,m < n /\ I m s5) (λ_ _=>False) s4
      else ∃ m,m < n /\ I m s4) (λ_ _=>False) s3) (λ_ _=>False) s2) (λ_ _=>False) s1) (λ_ _=>False) s)
  (n:Nat) (h:I n s):codeAny (model prog w) A (.compLoop e d it acc env) R s:=by
 refine codeAny_loop (by cases hk <;> rfl) I (λn s hI=>?_) n h
 have go:wpAny (model prog w) A ((compTurn e d it acc env).onRaise λx=>do noteFrame x env;theTreesLotGoes x) (λfin s'=>match fin with | .done f=>R (.ok f) s' | .again c'=>c' = .compLoop e d it acc env /\ ∃ m,m < n /\ I m s') (λe s'=>R (.error e) s') s:=?_
 ·cases hk <;> exact go
 refine wpAny_noted (env:=env) (m:=compTurn e d it acc env) ?_
 rw [heq]
 unfold eF
 refine a0a (wpAny_standAt (a0a (wpAny_mono (turn n s hI) (λr s1 h1=>?_) λ_ _ z=>z.elim)))
 cases r with
 | none=>exact a0d h1
 | some v =>
  refine a0a (wpAny_mono h1 (λ_ s2 h2=>?_) λ_ _ z=>z.elim)
  refine a0a (wpAny_mono h2 (λ_ s3 h3=>?_) λ_ _ z=>z.elim)
  refine a0a (wpAny_mono h3 (λok s4 h4=>?_) λ_ _ z=>z.elim)
  cases ok with
  | false=>exact a0d ⟨rfl,h4⟩
  | true=>exact a0a (wpAny_mono h4 (λ_ s5 h5=>a0d ⟨rfl,h5⟩) λ_ _ z=>z.elim)
theorem qM {Y:Cx} {e:Expr} (hk:CompKind e) (hc:Y.calm = true) (hx:Y.xe = λ_ _=>False) {d:Nat} {acc:Value} {p0:Pos} {target:Expr} {ifs:List Expr} {act:Sem Unit} {it:Addr} (heq:compTurn e d (.ref it) acc Y.env = eF p0 target ifs act e d (.ref it) acc Y.env)
  {g:TG} {tt:TT} {ta:TS} (hg:PG Y target g) (ht:HA Y ifs tt) (ha:PB Y act ta) {pins:List (Addr × Obj)} {fp:List Addr} {tn:Nat -> Heap -> Prop} {J:It} {σ:St} {H:Hp} {s:Shared} {D:Ends} {R:Result -> Shared -> Prop}
  (T:Turn Y.prog Y.w Y.K target J fp it tn) (I:Inv Y pins σ H s) (st:tn 0 s.heap) (hf:∀ b ∈ fp,hV Y pins H b) (body:mD J g (GG tt ta) D σ H)
  (hR:∀ (i:Nat) (σ':St) (H':Hp) (s':Shared),Inv Y pins σ' H' s' -> D.nx σ' H' -> R (.ok .next) s'):codeAny (model Y.prog Y.w) Y.A (.compLoop e d (.ref it) acc Y.env) R s:=by
 obtain ⟨W,⟨m0,w0⟩,turn⟩:=body
 have stat:∀ {H':Hp},(∀ b ∈ fp,H' b = none) -> ∀ b ∈ fp,hV Y pins H' b:=λhn b hb=>⟨hn b hb,(hf b hb).2⟩
 refine F7 heq hk (λk s'=>∃ i σ' H',Inv Y pins σ' H' s' /\ tn i s'.heap /\ (∀ b ∈ fp,H' b = none) /\ W i k σ' H') ?_ m0 ⟨0,_,_,I,st,λb hb=>(hf b hb).1,w0⟩
 rintro k s5 ⟨i,σ5,H5,I5,st5,fr5,w5⟩
 rcases turn i k σ5 H5 w5 with ⟨stop,qn⟩ | ⟨go,Nn,hN,step⟩
 ·refine wpAny_mono (T.done Y rfl rfl rfl hc i pins s5 σ5 H5 (λ_ _=>False) I5 (stat fr5) st5 stop) (λr s6 hr=>?_) (λ_ _ z=>z)
  obtain ⟨rfl,I6⟩:=hr
  exact hR i σ5 H5 s6 I6 qn
 ·refine wpAny_mono (T.item Y rfl rfl rfl hc i pins s5 σ5 H5 (λ_ _=>False) I5 (stat fr5) st5 go) (λr s6 h6=>?_) (λ_ _ z=>z)
  obtain ⟨u,rfl,h6⟩:=h6
  refine wpAny_mono h6 (λ_ s7 h7=>?_) (λ_ _ z=>z)
  obtain ⟨x,H7,I7,r7,y7,st7,fr7⟩:=h7
  have I7':=I7.pinned (stat fr7) (T.obj _ _ st7)
  have again:∀ {σ':St} {H':Hp} {s':Shared},Inv Y (pins ++ lU fp s7.heap) σ' H' s' -> Nn σ' H' -> ∃ m,m < k /\ ∃ i σ' H',Inv Y pins σ' H' s' /\ tn i s'.heap /\ (∀ b ∈ fp,H' b = none) /\ W i m σ' H':=fun {σ' H' s'} J7 n7=>by
   obtain ⟨m',hm,w7⟩:=hN σ' H' n7
   have pin:∀ b ∈ fp,∀ o,s7.heap.get? b = some o -> s'.heap.get? b = some o /\ H' b = none:=λb hb o e=>by
    have z:=J7.pin (b,o) (List.mem_append_right _ (List.mem_append_right _ (dB hb e)))
    exact ⟨z.1,z.2.1⟩
   refine ⟨m',hm,i + 1,σ',H',J7.unpinned,T.keep _ _ _ st7 λb hb o e=>(pin b hb o e).1,λb hb=>?_,w7⟩
   obtain ⟨o,e,_⟩:=T.obj _ _ st7 b hb
   exact (pin b hb o e).2
  have hg':=hg _ s7 σ5 H7 x u _ I7' r7 (step x H7 y7)
  rw [hx] at hg'
  refine wpAny_mono hg' (λ_ s8 h8=>?_) λ_ _ z=>z
  obtain ⟨σ8,H8,I8,q8⟩:=h8
  have ht':=ht _ s8 σ8 H8 _ I8 q8
  rw [hx] at ht'
  refine wpAny_mono ht' (λok s9 h9=>?_) λ_ _ z=>z
  obtain ⟨H9,I9,q9⟩:=h9
  cases ok with
  | false =>
   rw [if_neg a0k] at q9 ⊢
   exact again I9 q9
  | true =>
   rw [if_pos rfl] at q9 ⊢
   refine wpAny_mono (ha _ s9 σ8 H9 _ I9 q9) (λ_ s10 h10=>?_) λ_ _ z=>z
   obtain ⟨σ10,H10,I10,q10⟩:=h10
   exact again I10 q10
theorem i3 {prog:Program} {w:World} {A:Around} {R:Result -> Shared -> Prop} {s:Shared} {e:Expr} {d:Nat} {it acc:Value} {env:Env} {target iter:Expr} {ifs:List Expr} (hk:CompKind e) (hcl:(clausesOf e)[d]? = some ⟨target,iter,ifs,0⟩)
  (h0:codeAny (model prog w) A (.compLoop e d it acc env) R s) (h:wpAny (model prog w) A (pyIter it) (λit' s'=>codeAny (model prog w) A (.compLoop e d it' acc env) R s') (λ_ _=>False) s):codeAny (model prog w) A (.compStart e d it acc env) R s:=by
 have hq:(Code.compLoop e d it acc env).quiet = true:=by cases hk <;> rfl
 have hq':∀ it',(Code.compLoop e d it' acc env).quiet = true:=λit'=>by cases hk <;> rfl
 have go:wpAny (model prog w) A ((compStart e d it acc env).onRaise λx=>do noteFrame x env;standAt theWindowsPlace) (λfin s'=>match fin with | .done f=>R (.ok f) s' | .again c'=>c'.quiet = true /\ codeAny (model prog w) A c' R s') (λe s'=>R (.error e) s') s:=?_
 ·refine codeAny_of_tree ?_
  cases hk <;> exact go
 refine wpAny_notedAt ?_
 unfold compStart
 rw [hcl]
 rw [if_neg (by show ¬ ((0:Nat) != 0) = true;decide)]
 show wpAny _ _ (ask >>= _) _ _ s
 refine a0a (wpAny_askSetting (wpAny_ite ?_))
 split
 ·first
   | exact a0a (a0d (a0d (And.intro hq h0)))
   | exact a0d (And.intro hq h0)
 ·refine a0a (wpAny_rule ?_)
  show wpAny _ _ (standAt iter.pos >>= _) _ _ s
  exact a0a (wpAny_standAt (a0a (wpAny_mono h (λit' s' h'=>a0d (And.intro (hq' it') h')) λ_ _ x=>x.elim)))
def a1U (wi:TI) (g:TG) (tt:TT) (ta:TS):TS:=λD σ H=>wi σ H λJ H1=>mD J g (GG tt ta) D σ H1
theorem YG {Y:Cx} {e:Expr} (hk:CompKind e) (hc:Y.calm = true) (hx:Y.xe = λ_ _=>False) {acc:Value} {g0:Comprehension} {target iter:Expr} {ifs:List Expr} {act:Sem Unit} (hcl:clausesOf e = [g0,⟨target,iter,ifs,0⟩]) (heq:∀ it:Value,compTurn e 1 it acc Y.env = eF iter.pos target ifs act e 1 it acc Y.env)
  {wi:TI} {g:TG} {tt:TT} {ta:TS} (hi:PI Y target iter wi) (hg:PG Y target g) (ht:HA Y ifs tt) (ha:PB Y act ta) (hs:∀ x,foldedSetIterable iter Y.env x = pure x) :
  PB Y (do let x <- eval iter Y.env;standAt iter.pos;let x <- foldedSetIterable iter Y.env x;let _ <- runOwn (.compStart e 1 (<- holding [x] (pyIter x)) acc Y.env) Y.env) (a1U wi g tt ta):=by
 intro pins s σ H D I h
 have h0:=hi pins s σ H _ I h
 rw [hx] at h0
 refine a0a (wpAny_mono h0 (λv s1 h1=>?_) λ_ _ z=>z)
 refine a0a (wpAny_standAt (a0a (wpAny_of_eq (hs v) ?_)))
 refine a0a (wpAny_holding (wpAny_mono h1 (λitv s2 h2=>?_) λ_ _ z=>z))
 obtain ⟨it,fp,tn,J,H2,rfl,I2,T,st2,f2,body⟩:=h2
 have run:∀ (R:Result -> Shared -> Prop),(∀ (i:Nat) (σ':St) (H':Hp) (s':Shared),Inv Y pins σ' H' s' -> D.nx σ' H' -> R (.ok .next) s') -> codeAny (model Y.prog Y.w) Y.A (.compLoop e 1 (.ref it) acc Y.env) R s2:=λR hR=>qM hk hc hx (heq _) hg ht ha T I2 st2 f2 body hR
 refine a0a (wpAny_runOwn (h:=none) ?_)
 refine i3 (A:=Y.A) hk (by rw [hcl];rfl) (run _ λi σ' H' s' I' q=>?_) (T.self _ 0 _ _ _ st2 (run _ λi σ' H' s' I' q=>?_))
 ·exact a0d ⟨σ',H',I',q⟩
 ·exact a0d ⟨σ',H',I',q⟩
theorem B3 {prog:Program} {w:World} {A:Around} {E:Value -> Shared -> Prop} {s:Shared} {a:Addr} {S:Int -> Bool} {n:Nat} {k:Int} {key:Value} {Q:Value -> Shared -> Prop} (hkey:(intKind prog w).is k key = true) (hsc:key.scannable = true) (hS:bC prog w a S n s.heap) (hroom:n + 1 < scanBound)
  (h:∀ h',Heap.SameBut a s.heap h' -> bC prog w a (λk'=>S k' || decide (k' = k)) (if S k then n else n + 1) h' -> Q .none { s with heap:=h',toks:=s.toks + 1 }) :
  wpAny (model prog w) A (call (.builtin "set.add") [.ref a,key]) Q E s:=by
 have hT:s.TypeIs (.ref a) "set" := by
  obtain ⟨o,es,ep,t,ho,hex,_⟩:=hS
  exact ⟨o,ho,hex.1⟩
 refine wpAny_call_entry F.slot_set_add hT F.entry_set_add ?_ (F.args_set_add_2 _ _)
 unfold Builtin.«set.add» Builtin.Frozenset.oneOther
 simp only [List.isEmpty_nil,bind_assoc]
 unfold Builtin.Frozenset.addrOf setAdd
 refine a0a (a0d ?_)
 try dsimp only
 refine a0a (a0d ?_)
 try dsimp only
 refine a0a ?_
 refine wpAny_holding ?_
 refine a0a ((intKind prog w).pyHash hkey ?_)
 refine k3 (s:={ s with toks:=s.toks + 1 }) hkey hsc hS hroom λh' hsb hS'=>?_
 show wpAny _ _ (ret Value.none) _ _ _
 exact a0d ⟨_,rfl,h h' hsb hS'⟩
def Z7 (P:Program) (w:World) (te:TE) (acc:Addr):TS:=λD σ H=>te σ H λv H1=>∃ i S n,v = .int i /\ H1 acc = some (d3 P w acc S n) /\ n < 1000 /\ D.nx σ (bD H1 acc (d3 P w acc (λk=>S k || decide (k = i)) (if S i then n else n + 1)))
theorem US {Y:Cx} (hx:Y.xe = λ_ _=>False) {elt:Expr} {te:TE} {acc:Addr} (he:PE Y elt te):PB Y (do let v <- eval elt Y.env;standAt elt.pos;let _ <- call (.builtin "set.add") [.ref acc,v]) (Z7 Y.prog Y.w te acc):=by
 intro pins s σ H D I h
 have h0:=he pins s σ H _ I h
 rw [hx] at h0
 refine a0a (wpAny_mono h0 (λv s1 h1=>?_) λ_ _ z=>z)
 obtain ⟨x,H1,I1,r1,i,S,n,rfl,ha,hn,q⟩:=h1
 obtain ⟨tk,rfl⟩:=r1
 obtain ⟨hX,_,_⟩ : bC Y.prog Y.w acc S n s1.heap /\ (∃ o,s1.heap.get? acc = some o) /\ (∀ h1 h2:Heap,bC Y.prog Y.w acc S n h1 -> (∀ o,h1.get? acc = some o -> h2.get? acc = some o) -> bC Y.prog Y.w acc S n h2):=I1.hok acc _ ha
 refine a0a (wpAny_standAt (a0a (B3 (k:=i) (by simp [intKind,Value.isInt]) rfl hX (Nat.lt_of_le_of_lt (Nat.succ_le_of_lt hn) (by decide)) λh' sb hX'=>a0d ⟨σ,_,?_,q⟩)))
 refine I1.write (t':=s1.toks + 1) (x:=acc) (e:=acc) (by rw [ha];trivial) (.inl rfl) (λb u hb e=>(sb.2 b hb).trans e) ?_ hX'.ok
 obtain ⟨o,_,_,_,ho,_⟩:=hX'
 exact ⟨o,ho⟩
def a1K (P:Program) (w:World) (wi:TI) (g:TG) (tt:TT) (ta:Addr -> TS) (n:Nat) (cap:List Nat):TE:=λσ H Q=>wi σ H λJ H1=>∀ acc,H1 acc = none ->
 mD J g (GG tt (ta acc)) { nx:=λ_ H'=>Q (.ref acc) H',rt:=λ_ _=>False } (BG n cap σ) (bD H1 acc (d3 P w acc (λ_=>false) 0))
section
variable {X:Cx} {elt target iter:Expr} {ifs:List Expr} {scope:Scope} {pos:Pos} {N':List Str} {n:Nat} {cap:List Nat} {wi:TI} {g:TG} {tt:TT} {ta:Addr -> TS} {gs:List Comprehension} {act:Value -> Env -> Sem Unit}
theorem YJ (hc:X.calm = true) (S:LcOk X.N X.env.scope scope N' n cap) (heq:∀ it acc env,compTurn (.SetComp elt (⟨target,iter,ifs,0⟩ :: gs) scope pos) 0 it acc env = eF iter.pos target ifs (act acc env) (.SetComp elt (⟨target,iter,ifs,0⟩ :: gs) scope pos) 0 it acc env)
  (hi:PI X target iter wi) (hg:∀ C s H fp,PG (aM X N' scope C s H fp) target g)
  (ht:∀ C s H fp,HA (aM X N' scope C s H fp) ifs tt) (ha:∀ acc C s H fp,PB (aM X N' scope C s H fp) (act (.ref acc) (aM X N' scope C s H fp).env) (ta acc)) (hs:∀ x,foldedSetIterable iter X.env x = pure x:=by intro _;rfl) :
  PE X (.SetComp elt (⟨target,iter,ifs,0⟩ :: gs) scope pos) (a1K X.prog X.w wi g tt ta n cap):=by
 intro pins s σ H Q I h
 have hfree:∀ y ∈ scope.names,y.2 = .free -> ∃ c,X.env.cells.lookup y.1 = some c:=λy hy e=>I.ok.has y.1 (.inl (S.frees y hy e))
 show wpAny _ _ (comprehension (.SetComp elt (⟨target,iter,ifs,0⟩ :: gs) scope pos) scope X.env (firstIterPos (⟨target,iter,ifs,0⟩ :: gs) pos) (newSet (.type "set")) (firstAsync (⟨target,iter,ifs,0⟩ :: gs)) (firstIter (⟨target,iter,ifs,0⟩ :: gs) X.env)) _ _ s
 refine wpAny_comprehension_free (use:=none) rfl hs (iW hfree) S.kind S.names ?_
 refine c5 (hi pins s σ H _ I h) λv s1 h1=>c5 h1 λitv s2 h2=>?_
 obtain ⟨it,fp,tn,J,H2,rfl,I2,T,st2,f2,body⟩:=h2
 refine JR λo hX=>?_
 have hacc:H2 s2.heap.objs.size = none:=I2.fresh
 have kp:∀ b u,s2.heap.get? b = some u -> (s2.heap.push o).get? b = some u:=λb u e=>a0e _ e
 have I3:Inv X pins σ (bD H2 s2.heap.objs.size (d3 X.prog X.w s2.heap.objs.size (λ_=>false) 0)) { s2 with heap:=s2.heap.push o }:=I2.laid (t':=s2.toks) kp (Nat.le_refl _) hX.ok
 have body:=body _ hacc
 have hlt:∀ b ∈ fp,b < s2.heap.objs.size:=λb hb=>by
  obtain ⟨o,e,_⟩:=T.obj 0 _ st2 b hb
  exact a0n e
 have hf3:∀ b ∈ fp,hV X pins (bD H2 s2.heap.objs.size (d3 X.prog X.w s2.heap.objs.size (λ_=>false) 0)) b:=λb hb =>
  ⟨by rw [aE (Nat.ne_of_lt (hlt b hb))];exact (f2 b hb).1,(f2 b hb).2⟩
 refine wpAny_newFunctionEnv S.nocell (by intro y hy;cases hy) (λh4 ns4 sb4=>?_) S.kind
 generalize hs3:({ s2 with heap:=s2.heap.push o }:Shared) = s3 at *
 have hsz:s2.heap.objs.size < s3.heap.objs.size:=by rw [<- hs3,Heap.size_push];exact Nat.lt_succ_self _
 have k4:∀ b o,s3.heap.get? b = some o -> h4.get? b = some o:=λb o e=>(sb4.2 b (Nat.ne_of_lt (a0n e))).trans (a0e _ e)
 generalize hH3:bD H2 s2.heap.objs.size (d3 X.prog X.w s2.heap.objs.size (λ_=>false) 0) = H3 at *
 have IY:=mN (tk:=s3.toks + ([]:List (Str × Value)).length) S I3 hf3 (λb hb=>Nat.lt_trans (hlt b hb) hsz) ns4 k4
 have fpY:∀ b ∈ fp,hV (aM X N' scope s3.heap.objs.size s3 H3 fp) [] H3 b:=λb hb=>by
  obtain ⟨f0,f1,f2',f3,f4,f5⟩:=hf3 b hb
  refine ⟨f0,Nat.ne_of_lt (Nat.lt_trans (hlt b hb) hsz),λz=>?_,.inl hb,λx c e=>f4 x c (k6 hfree e),λp hp=>absurd hp (by simp [aM])⟩
  rcases List.mem_cons.mp (I3.stkSub b z) with z | z
  ·exact f1 z
  ·exact f2' z
 have tn4:tn 0 h4:=T.keep 0 _ _ st2 λb hb o e=>k4 b o (by rw [<- hs3];exact a0e _ e)
 have loop:codeAny (model X.prog X.w) X.A (.compLoop (.SetComp elt (⟨target,iter,ifs,0⟩ :: gs) scope pos) 0 (.ref it) (.ref s2.heap.objs.size) (aM X N' scope s3.heap.objs.size s3 H3 fp).env)
   (compPost (model X.prog X.w) X.A X.xe none (EP X pins σ Q) (.ref s2.heap.objs.size) s3.heap.objs.size) { s3 with heap:=h4,toks:=s3.toks + ([]:List (Str × Value)).length }:=by
  refine qM (Y:=aM X N' scope s3.heap.objs.size s3 H3 fp) (.set _ _ _ _) hc rfl (heq _ _ _) (hg _ _ _ _) (ht _ _ _ _) (ha _ _ _ _ _) T IY tn4 fpY body λi σ5 H5 s6 I6 qn=>?_
  obtain ⟨m,hn,_⟩:=I6.loc
  refine ⟨m,hn,λh' hs'=>⟨.ref s2.heap.objs.size,H5,?_,rfl,qn⟩⟩
  have ub:=I6.base
  have ne:∀ b o,s3.heap.get? b = some o -> b ≠ s3.heap.objs.size:=λb o e=>Nat.ne_of_lt (a0n e)
  refine I3.call' (s':={ s6 with heap:=h' }) (ch:=fp) I6.os ⟨λb o e z1 z2 z3=>(hs'.2 b (ne b o e)).trans (ub.keep b o e z1 z2 z3),λb o e z1 z2 z3=>?_,ub.free,λb o e z=>?_,ub.tups,ub.frzs,ub.tbls⟩ (pS I6.hok I6.free hs') I6.bare λb hb=>⟨(hf3 b hb).2.2.2.1,(hf3 b hb).2.1,(hf3 b hb).2.2.2.2.1,(hf3 b hb).2.2.2.2.2⟩
  ·obtain ⟨sl,e'⟩:=ub.slot b o e z1 z2 z3
   exact ⟨sl,(hs'.2 b (ne b o e)).trans e'⟩
  ·obtain ⟨o',e'⟩:=ub.there b o e z
   exact ⟨o',(hs'.2 b (ne b o e)).trans e'⟩
 exact i3 (.set _ _ _ _) rfl loop (T.self _ 0 _ _ _ tn4 loop)
end
def aJ (ks:List Int):List Int:=gA ks.eraseDups
theorem bG {ks:List Int} {k:Int}:k ∈ aJ ks ↔ k ∈ ks:=by
 unfold aJ
 rw [(bF _).mem_iff,List.mem_eraseDups]
theorem LU (ks:List Int):(aJ ks).Pairwise (· <= ·):=j3 _
theorem jJ:∀ (n:Nat) (ks:List Int),ks.length <= n -> ks.eraseDups.Nodup
 | 0,ks,h=>by
  have:ks = []:=List.length_eq_zero_iff.mp (by omega)
  subst this;simp
 | n + 1,[],h=>by simp
 | n + 1,k :: ks,h=>by
  rw [List.eraseDups_cons,List.nodup_cons]
  refine ⟨λz=>?_,jJ n _ ?_⟩
  ·rw [List.mem_eraseDups,List.mem_filter] at z
   simp at z
  ·have:=List.length_filter_le (λb=>!b == k) ks
   simp at h;omega
theorem f7 (ks:List Int):(aJ ks).Pairwise (· < ·):=by
 have h2:(aJ ks).Nodup:=(bF _).nodup_iff.mpr (jJ _ ks (Nat.le_refl _))
 exact ((LU ks).and h2).imp fun {x y} ⟨h1,h2⟩=>by omega
theorem FZ {as bs:List Int} (ha:as.Pairwise (· < ·)) (hb:bs.Pairwise (· < ·)) (h:∀ k,k ∈ as ↔ k ∈ bs):as = bs:=by
 refine lH ?_ (ha.imp λh=>by omega) (hb.imp λh=>by omega)
 exact (List.perm_ext_iff_of_nodup (ha.imp λh=>by omega) (hb.imp λh=>by omega)).mpr h
theorem A5 {ks ms:List Int} (hm:ms.Pairwise (· < ·)) (h:∀ k,k ∈ ms ↔ k ∈ ks):ms = aJ ks:=FZ hm (f7 ks) λk=>(h k).trans bG.symm
abbrev AE:=List Int -> b6 -> (List Int -> b6 -> Prop) -> Prop
def pEmAdd (te:aQ):AE:=λacc env K=>te env λv=>match v with
 | .int i=>acc.length < 63 /\ K (acc ++ [i]) env
 | _=>False
def jR (g:gN) (tt:dX) (a:AE) (K:List Int -> b6 -> Prop):List PV -> List Int -> b6 -> Prop
 | [],acc,env=>K acc env
 | x :: xs,acc,env=>g x env λenv1=>tt env1 λk=>Br k (a acc env1 λacc' env2=>jR g tt a K xs acc' env2) (jR g tt a K xs acc env1)
def pEmIn (s:lA) (g:gN) (tt:dX) (a:AE):AE:=λacc env K=>s env λitems=>jR g tt a K items acc env
def pSortSc (s:lA) (g:gN) (tt:dX) (a:AE) (cp:b6 -> b6):aQ:=λenv Q=>s env λitems=>jR g tt a (λacc _=>Q (.lst ((aJ acc).map PV.int))) items [] (cp env)
structure SetIn (P:Program) (w:World) (acc:Addr) (H0:Hp) (W:Wd) (H:Hp) (ks:List Int):Prop where
 ex:∃ S n,H acc = some (d3 P w acc S n) /\ (∀ k,S k = true ↔ k ∈ ks) /\ n <= ks.length
 few:ks.length <= 63
 new:H0 acc = none
 nF:¬ W.F acc
 nS:¬ W.S acc
 nL:¬ W.L acc
structure Ga (acc:Addr) (W:Wd) (H:Hp) (W':Wd) (H':Hp):Prop where
 ga:∀ W1 H1,H1 acc = none -> Go W1 H1 W H -> Go W1 H1 W' H'
 ex:Ex W H W' H'
theorem Ga.refl {acc:Addr} {W:Wd} {H:Hp}:Ga acc W H W H:=⟨λ_ _ _ g=>g,.refl⟩
theorem Ga.trans {acc:Addr} {W W1 W2:Wd} {H H1 H2:Hp} (a:Ga acc W H W1 H1) (b:Ga acc W1 H1 W2 H2):Ga acc W H W2 H2:=⟨λV G h g=>b.ga V G h (a.ga V G h g),a.ex.trans b.ex⟩
theorem Go.toGa {acc:Addr} {W W':Wd} {H H':Hp} (g:Go W H W' H') (w:Wok W H):Ga acc W H W' H':=⟨λ_ _ _ k=>k.trans g,g.ex w⟩
theorem SetIn.go {P:Program} {w:World} {acc:Addr} {H0:Hp} {W W':Wd} {H H':Hp} {ks:List Int} (x:SetIn P w acc H0 W H ks) (g:Go W H W' H'):SetIn P w acc H0 W' H' ks:=by
 obtain ⟨S,n,h1,h2,h3⟩:=x.ex
 exact ⟨⟨S,n,g.kp acc _ h1 x.nS,h2,h3⟩,x.few,x.new,g.nFF h1 x.nF,g.nSS h1 x.nS,by rw [g.kl];exact x.nL⟩
def JK (P:Program) (w:World) (K:PySem.W.Frag) (mb mn:List Md) (a:AE) (acc:Addr):TS:=λD σ H=>∃ (env:b6) (W0:Wd) (H0:Hp) (W:Wd) (ks:List Int) (Kp:List Int -> b6 -> Prop),Rl K mb W0 H0 W σ env H /\ SetIn P w acc H0 W H ks /\ a ks env Kp /\
 ∀ (env':b6) (W':Wd) (σ':St) (H':Hp) (ks':List Int),Rl K mn W0 H0 W' σ' env' H' -> Ga acc W H W' H' -> SetIn P w acc H0 W' H' ks' -> Kp ks' env' -> D.nx σ' H'
structure VB (Y:Cx) (mb mn:List Md) (m:Addr -> Sem Unit) (a:AE):Prop where
 h:∀ acc,PB Y (m acc) (JK Y.prog Y.w Y.K mb mn a acc)
theorem PB.imp {Y:Cx} {m:Sem Unit} {t t':TS} (h:PB Y m t) (k:∀ D σ H,t' D σ H -> t D σ H):PB Y m t':=λpins s σ H D I q=>h pins s σ H D I (k D σ H q)
theorem WM {Y:Cx} (hx:Y.xe = λ_ _=>False) {mb:List Md} {elt:Expr} {te:aQ} (hb:jG mb = true) (he:VE Y mb elt .bw te):VB Y mb mb (λacc=>do let v <- eval elt Y.env;standAt elt.pos;let _ <- call (.builtin "set.add") [.ref acc,v]) (pEmAdd te):=⟨λacc=>(US hx he.h).imp λD σ H h=>by
 obtain ⟨env,W0,H0,W,ks,Kp,R,x,q,k⟩:=h
 refine ⟨env,W0,H0,W,_,R,q,λv u W1 H1 g1 r1 q1=>?_⟩
 have x1:=x.go g1
 obtain ⟨S,n,h1,h2,h3⟩:=x1.ex
 cases v with
 | int i =>
  have:=Rep.ofInt r1
  subst this
  have hfew:=x1.few
  refine ⟨i,S,n,rfl,h1,by omega,?_⟩
  refine k env W1 σ _ (ks ++ [i]) ((R.step g1).tmp hb x1.new x1.nF x1.nS x1.nL h1 rfl (λ_ _ z=>by cases z)) ?_ ⟨⟨_,_,b5,λj=>?_,?_⟩,by have:=q1.1;simp;omega,x1.new,x1.nF,x1.nS,x1.nL⟩ q1.2
  ·refine (g1.toGa R.ok).trans ⟨λV G hG g=>g.tmp hG x1.nF x1.nS,⟨λ_ h=>h,λb o f e=>by rw [aE (λz=>by subst z;exact x1.nF f)];exact e,λb o im e=>by rw [aE (λz=>by subst z;rw [h1] at e;cases e;cases im)];exact e⟩⟩
  ·rw [Bool.or_eq_true,h2 j,decide_eq_true_eq,List.mem_append,List.mem_singleton]
  ·rw [List.length_append]
   split
   ·exact Nat.le_trans h3 (Nat.le_add_right _ _)
   ·exact Nat.succ_le_succ h3
 | _=>exact q1.elim⟩
theorem D5 {P:Program} {w:World} {K:PySem.W.Frag} {mb m1 m2:List Md} {eli:El} {g:gN} {tt:dX} {a:AE} {acc:Addr} {J:It} {items:List PV} {W0 W1:Wd} {H0 H1:Hp} {Kp:List Int -> b6 -> Prop} {D:Ends} (hle:i4 m1 mb = true) (hle2:i4 m2 mb = true) (sr:Src J eli H0 W1 H1 items)
  {σ:St} {env:b6} {ks:List Int} (q:jR g tt a Kp items ks env) {W2:Wd} {H2:Hp} (R:Rl K mb W0 H0 W2 σ env H2) (x12:Ex W1 H1 W2 H2) (x:SetIn P w acc H0 W2 H2 ks)
  (k:∀ (env':b6) (W':Wd) (σ':St) (H':Hp) (ks':List Int),Rl K mb W0 H0 W' σ' env' H' -> Ga acc W2 H2 W' H' -> SetIn P w acc H0 W' H' ks' -> Kp ks' env' -> D.nx σ' H') :
  mD J (qW K mb m1 eli g) (GG (oW K m1 tt) (JK P w K m1 m2 a acc)) D σ H2:=by
 refine ⟨λi m σb Hb=>m = items.length - i /\ i <= items.length /\ ∃ (envb:b6) (Wb:Wd) (kb:List Int),Rl K mb W0 H0 Wb σb envb Hb /\ Ga acc W2 H2 Wb Hb /\ SetIn P w acc H0 Wb Hb kb /\ jR g tt a Kp (items.drop i) kb envb,
  ⟨items.length,by simp,Nat.zero_le _,env,W2,ks,R,.refl,x,by simpa using q⟩,?_⟩
 rintro i m σb Hb ⟨rfl,hi,envb,Wb,kb,Rb,gab,xb,qb⟩
 have exb:Ex W1 H1 Wb Hb:=x12.trans gab.ex
 by_cases hlt:i < items.length
 ·rw [List.drop_eq_getElem_cons hlt] at qb
  refine .inr ⟨sr.go i Wb Hb exb hlt,λσ' H'=>i + 1 <= items.length /\ ∃ (envb:b6) (Wb:Wd) (kb:List Int),Rl K mb W0 H0 Wb σ' envb H' /\ Ga acc W2 H2 Wb H' /\ SetIn P w acc H0 Wb H' kb /\ jR g tt a Kp (items.drop (i + 1)) kb envb,λσ' H' z=>⟨items.length - (i + 1),by omega,rfl,z.1,z.2⟩,λv H3 y=>?_⟩
  obtain ⟨g3,xx,ex,rx⟩:=sr.yld i Wb Hb v H3 exb Rb.ok hlt y
  rw [a0b hlt] at ex
  cases ex
  refine ⟨envb,W0,H0,Wb,_,_,Rb.step g3,rx,qb,λenv' σ' R' z=>?_⟩
  refine ⟨env',W0,H0,Wb,_,R',z,λkk W4 H4 g4 q4=>?_⟩
  have x4:=(xb.go g3).go g4
  have ga4:Ga acc W2 H2 W4 H4:=(gab.trans (g3.toGa Rb.ok)).trans (g4.toGa g3.ok)
  cases kk with
  | false =>
   dsimp only
   rw [if_neg a0k]
   exact ⟨hlt,env',W4,kb,(R'.step g4).less hle,ga4,x4,q4⟩
  | true =>
   dsimp only
   rw [if_pos rfl]
   exact ⟨env',W0,H0,W4,kb,_,R'.step g4,x4,q4,λenv5 W5 σ5 H5 k5 R5 ga5 x5 q5=>⟨hlt,env5,W5,k5,R5.less hle2,ga4.trans ga5,x5,q5⟩⟩
 ·have e:i = items.length:=by omega
  subst e
  rw [List.drop_length] at qb
  exact .inl ⟨sr.stop Wb Hb exb,k envb Wb σb Hb kb Rb gab xb qb⟩
theorem ZI {Y:Cx} (hc:Y.calm = true) (hx:Y.xe = λ_ _=>False) {elt target0 iter0 target iter:Expr} {ifs0 ifs:List Expr} {scope:Scope} {pos:Pos} {mb m1 m2:List Md} {eli:El} {s:lA} {g:gN} {tt:dX} {a:AE}
  (hle:i4 m1 mb = true) (hle2:i4 m2 mb = true) (hi:VI Y mb eli target iter s) (hg:VG Y mb m1 eli target g) (ht:VTs Y m1 ifs tt) (ha:VB Y m1 m2 (λacc=>do let v <- eval elt Y.env;standAt elt.pos;let _ <- call (.builtin "set.add") [.ref acc,v]) a)
  (hs:∀ x,foldedSetIterable iter Y.env x = pure x:=by intro _;rfl) :
  VB Y mb mb (λacc=>do let x <- eval iter Y.env;standAt iter.pos;let x <- foldedSetIterable iter Y.env x;let _ <- runOwn (.compStart (.SetComp elt [⟨target0,iter0,ifs0,0⟩,⟨target,iter,ifs,0⟩] scope pos) 1 (<- holding [x] (pyIter x)) (.ref acc) Y.env) Y.env) (pEmIn s g tt a) :=
 ⟨λacc=>(YG (e:=.SetComp elt [⟨target0,iter0,ifs0,0⟩,⟨target,iter,ifs,0⟩] scope pos) (.set _ _ _ _) hc hx (act:=do let v <- eval elt Y.env;standAt elt.pos;let _ <- call (.builtin "set.add") [.ref acc,v]) rfl (λit=>rfl) hi.h hg.h ht.h (ha.h acc) hs).imp λD σ H h=>by
 obtain ⟨env,W0,H0,W,ks,Kp,R,x,q,k⟩:=h
 refine ⟨env,W0,H0,W,_,R,q,λitems W1 H1 J g1 sr q1=>?_⟩
 exact D5 hle hle2 sr q1 (R.step g1) .refl (x.go g1) λenv' W' σ' H' ks' R' ga x' q'=>k env' W' σ' H' ks' R' ((g1.toGa R.ok).trans ga) x' q'⟩
theorem PJ {P:Program} {w:World} {K:PySem.W.Frag} {md mb m2:List Md} {eli:El} {s:lA} {g:gN} {tt:dX} {a:AE} {n:Nat} {cap:List Nat} {σ:St} {H:Hp} {Q:VK} {cp:b6 -> b6} (hcp:∀ env,cp env = oC n cap env) (hle:i4 mb (eQ n cap md) = true) (hle2:i4 m2 (eQ n cap md) = true)
  (h:dQ K md (.o .fl) (pSortSc s g tt a cp) σ H Q):RO (zP P w) (A4 (a1K P w (uB K md eli s) (qW K (eQ n cap md) mb eli g) (oW K mb tt) (λacc=>JK P w K mb m2 a acc) n cap) LO) σ H Q:=by
 obtain ⟨env,W0,H0,W,Q',R,q,k⟩:=h
 refine ⟨env,W0,H0,W,_,R,q,λitems W1 H1 J g1 sr q1=>?_⟩
 intro acc hacc
 rw [hcp] at q1
 have h0acc:H0 acc = none:=R.go.free (g1.free hacc)
 have R1:=R.step g1
 have Rb:=C9 (n:=n) (cap:=cap) R1 (λa=>∃ o,H1 a = some o) (λa o e=>⟨o,e⟩)
 generalize hW1b:({ W1 with L:=λa=>∃ o,H1 a = some o }:Wd) = W1b at Rb
 generalize hW0b:({ W0 with L:=λa=>∃ o,H1 a = some o }:Wd) = W0b at Rb
 have f1:W1b.F = W1.F:=by rw [<- hW1b]
 have s1:W1b.S = W1.S:=by rw [<- hW1b]
 have l1:¬ W1b.L acc:=by rw [<- hW1b];rintro ⟨o,e⟩;rw [hacc] at e;cases e
 have okb:Wok W1b H1:=Rb.ok
 have nF1:¬ W1b.F acc:=λz=>okb.offF hacc z
 have nS1:¬ W1b.S acc:=λz=>okb.offS hacc z
 have gl:Go W1b H1 W1b (bD H1 acc (d3 P w acc (λ_=>false) 0)):=Go.laid okb hacc
 have exW:Ex W1 H1 W1b (bD H1 acc (d3 P w acc (λ_=>false) 0)):=by
  have x:=gl.ex okb
  exact ⟨λa h=>by rw [f1];exact h,λa o h e=>x.kp a o (by rw [f1];exact h) e,x.im⟩
 refine D5 hle hle2 sr q1 (Rb.step gl) exW ⟨⟨_,_,b5,λk=>by simp,Nat.le_refl 0⟩,Nat.zero_le _,h0acc,nF1,nS1,l1⟩ λenvb Wb σb Hb kb Rr ga x qb=>?_
 have gb:Go W1b H1 Wb Hb:=ga.ga W1b H1 hacc gl
 have gf:Go W H { Wb with L:=W.L } Hb:=by
  have a:=g1
  refine ⟨λb h=>gb.lF b (by rw [f1];exact a.lF b h),λb h=>gb.lS b (by rw [s1];exact a.lS b h),λb h=>?_,λb h=>?_,λb o e s=>?_,⟨gb.ok.fF,gb.ok.sS,gb.ok.dj⟩,?_,rfl⟩
  ·rcases gb.nF b h with z | z
   ·exact a.nF b (by rw [<- f1];exact z)
   ·exact .inr (a.free z)
  ·rcases gb.nS b h with z | z
   ·exact a.nS b (by rw [<- s1];exact z)
   ·exact .inr (a.free z)
  ·refine gb.kp b o (a.kp b o e s) ?_
   rw [s1];exact a.nSS e s
  ·show Wb.K = W.K
   rw [gb.kk,<- hW1b];exact a.kk
 obtain ⟨S,m,h1,h2,h3⟩:=x.ex
 refine ⟨acc,S,m,rfl,h1,by have:=x.few;omega,λl ms hl hlt hms=>?_⟩
 have:ms = aJ kb:=A5 hlt λj=>(hms j).symm.trans (h2 j)
 subst this
 exact (k.after gf).newL gf.ok hl (kZ _) qb
theorem ZH (elt target iter target2 iter2 : Expr) (ifs ifs2 : List Expr) (scope : Scope) (pos : Pos) (it acc : Value) (env : Env) :
   compTurn (.SetComp elt [⟨target,iter,ifs,0⟩,⟨target2,iter2,ifs2,0⟩] scope pos) 0 it acc env = eF iter.pos target ifs (do let x <- eval iter2 env;standAt iter2.pos;let x <- foldedSetIterable iter2 env x;let _ <- runOwn (.compStart (.SetComp elt [⟨target,iter,ifs,0⟩,⟨target2,iter2,ifs2,0⟩] scope pos) 1 (<- holding [x] (pyIter x)) acc env) env) (.SetComp elt [⟨target,iter,ifs,0⟩,⟨target2,iter2,ifs2,0⟩] scope pos) 0 it acc env:=by
  have e:compTurn (.SetComp elt [⟨target,iter,ifs,0⟩,⟨target2,iter2,ifs2,0⟩] scope pos) 0 it acc env = (do
      standAt iter.pos
      match <- pyNext it with
      | none=>pure (.done .next)
      | some v =>
        letOwnedTupleGo target it v
        assign target env v
        let mut ok:=true
        for c in ifs do
          if ok then ok <- isTrue c env (eval c env)
        if ok then
          let x <- eval iter2 env
          standAt iter2.pos
          let x <- foldedSetIterable iter2 env x
          let _ <- runOwn (.compStart (.SetComp elt [⟨target,iter,ifs,0⟩,⟨target2,iter2,ifs2,0⟩] scope pos) 1 (<- holding [x] (pyIter x)) acc env) env
        again (.compLoop (.SetComp elt [⟨target,iter,ifs,0⟩,⟨target2,iter2,ifs2,0⟩] scope pos) 0 it acc env)):=by rfl
  rw [e]
  unfold eF
  refine bind_congr λ_=>?_
  refine bind_congr λo=>?_
  cases o with
  | none=>rfl
  | some v =>
    refine bind_congr λ_=>?_
    refine bind_congr λ_=>?_
    refine bind_congr λok=>?_
    cases ok with
    | false=>rfl
    | true =>
      simp only [if_true,bind_assoc,pure_bind]
section
variable {X:Cx} {elt target iter target2 iter2:Expr} {ifs ifs2:List Expr} {scope:Scope} {pos p cpos:Pos} {N':List Str} {n:Nat} {cap:List Nat} {md mb m2:List Md} {el eli:El} {s:lA} {g:gN} {tt:dX} {a:AE}
theorem CI {cp:b6 -> b6} (hcp:∀ env,cp env = oC n cap env) (hc:X.calm = true) (S:LcOk X.N X.env.scope scope N' n cap) (hle:i4 mb (eQ n cap md) = true) (hle2:i4 m2 (eQ n cap md) = true)
  (hg0:X.env.scope.names.lookup ("sorted" : Str) = some .globalImplicit) (hm0:X.mg "sorted" = none) (hi:VI X md eli target iter s) (hg:∀ C s H fp,VG (aM X N' scope C s H fp) (eQ n cap md) mb eli target g)
  (ht:∀ C s H fp,VTs (aM X N' scope C s H fp) mb ifs tt)
  (ha:∀ C s H fp,VB (aM X N' scope C s H fp) mb m2 (λacc=>do let x <- eval iter2 (aM X N' scope C s H fp).env;standAt iter2.pos;let x <- foldedSetIterable iter2 (aM X N' scope C s H fp).env x;let _ <- runOwn (.compStart (.SetComp elt [⟨target,iter,ifs,0⟩,⟨target2,iter2,ifs2,0⟩] scope pos) 1 (<- holding [x] (pyIter x)) (.ref acc) (aM X N' scope C s H fp).env) (aM X N' scope C s H fp).env) a)
  (hs:∀ x,foldedSetIterable iter X.env x = pure x:=by intro _;rfl)
  (he:starEach [.SetComp elt [⟨target,iter,ifs,0⟩,⟨target2,iter2,ifs2,0⟩] scope pos] X.env = (false,eval (.SetComp elt [⟨target,iter,ifs,0⟩,⟨target2,iter2,ifs2,0⟩] scope pos) X.env) :: starEach [] X.env:=by rfl) (hpl:(backTo cpos (starEach [] X.env)).any (·.1) = false:=by rfl) :
  VE X md (.Call (.Name "sorted" p) [.SetComp elt [⟨target,iter,ifs,0⟩,⟨target2,iter2,ifs2,0⟩] scope pos] [] cpos) (.o .fl) (pSortSc s g tt a cp) :=
 ⟨(kD (tW hc) hg0 hm0 i9 (eW (YJ (act:=λacc env=>do let x <- eval iter2 env;standAt iter2.pos;let x <- foldedSetIterable iter2 env x;let _ <- runOwn (.compStart (.SetComp elt [⟨target,iter,ifs,0⟩,⟨target2,iter2,ifs2,0⟩] scope pos) 1 (<- holding [x] (pyIter x)) acc env) env) hc S (λit acc env=>ZH ..) hi.h (λC s H fp=>(hg C s H fp).h) (λC s H fp=>(ht C s H fp).h) (λacc C s H fp=>(ha C s H fp).h acc) hs) j8 he) (by decide) (by decide) he hpl).imp λσ H Q h=>PJ hcp hle hle2 h⟩
end
section
variable {X:Cx} {pins:List (Addr × Obj)} {σ:St} {H:Hp} {s:Shared} {h':Heap}
theorem Inv.turnL {t':Nat} {fp:List Addr} {a:Addr} {o:HO} (I:Inv X pins σ H s) (hf:∀ b ∈ fp,hV X pins H b) (k:∀ b u,b ∉ fp -> s.heap.get? b = some u -> h'.get? b = some u) (hp:s.heap.objs.size <= a) (new:cF X.prog X.w (bD H a o) h' a o) :
  Inv X pins σ (bD H a o) { s with heap:=h',toks:=t' }:=by
 have hn:H a = none:=I.hok.fresh hp
 have na:∀ b u,s.heap.get? b = some u -> b ≠ a:=λb u e=>Nat.ne_of_lt (Nat.lt_of_lt_of_le (a0n e) hp)
 have nt:∀ b u,H b = some u -> b ≠ a:=λb u e z=>by rw [z,hn] at e;cases e
 have nf:∀ b u,H b = some u -> b ∉ fp:=λb u e z=>by rw [(hf b z).1] at e;cases e
 refine I.step (g':=s.gens) (d':=s.drawn) (ch:=fp) (λb hb=>?_) (λb o _ _ hc e _=>k b o hc e) (λb o _ _ hc e _=>⟨o.slots,k b o hc e⟩) (λb u _ e n=>by rw [aE (na b u e)];exact n)
  (λb o hc e=>⟨o,k b o hc e⟩) (λb _ e=>by rw [aE (nt b _ e)];exact e) (λb _ _ e=>by rw [aE (nt b _ e)];exact e) (λb e=>by rw [aE (nt b _ e)];exact e) (λm hm=>?_) (λb u e=>?_) I.bare
 ·obtain ⟨f0,f1,f2,f3,f4,f5⟩:=hf b hb
  exact ⟨f3,f1,f4,f5⟩
 ·obtain ⟨o,es,ep,ho,r⟩:=hm
  exact ⟨o,es,ep,k _ o (λz=>(hf _ z).2.1 rfl) ho,r⟩
 ·by_cases hb:b = a
  ·subst hb;rw [b5] at e;cases e;exact new
  ·rw [aE hb] at e
   refine (I.hok b u e).stay (λc v hc q=>k c v ?_ q) (λc q=>by rw [aE (nt c _ q)];exact q) λc xs q=>by rw [aE (nt c _ q)];exact q
   rcases hc with z | z
   ·rw [z];exact nf b u e
   ·exact nf c _ z
end
def ZY (K:PySem.W.Frag) (a:Addr):It :=
 ⟨λi H=>∃ xs x,cT K H a xs /\ xs[i]? = some x,λi H v H'=>∃ t x,H t = none /\ v = .ref t /\ H' = bD H t (.tup [.int i,x]) /\ ∀ xs,cT K H a xs -> xs[i]? = some x,λi H=>∃ xs,cT K H a xs /\ xs.length <= i⟩
theorem GH {P:Program} {w:World} {K:PySem.W.Frag} {elts:List Expr} {x1} {pos:Pos} (a it e:Addr) (hne:e ≠ it) :
  Turn P w K (.Tuple elts x1 pos) (ZY K a) [e,it] e (λi h=>(∃ old,IsEnum h e it i old) /\ h.IsListIter it a i) where
 mem:=by simp
 obj:=λi h st b hb=>by
  obtain ⟨⟨old,he⟩,o,q,c,d⟩:=st
  simp only [List.mem_cons,List.not_mem_nil,or_false] at hb
  rcases hb with rfl | rfl
  ·exact ⟨_,he,λv z=>by cases z⟩
  ·exact ⟨o,q,λv z=>by rw [d] at z;cases z⟩
 keep:=λi h h' st k=>by
  obtain ⟨⟨old,he⟩,hi⟩:=st
  exact ⟨⟨old,k e (by simp) _ he⟩,hi.at λo q=>k it (by simp) o q⟩
 item:=by
  intro X hP hw hK hc i pins s σ H E I hf st hg
  subst hP hw hK
  obtain ⟨⟨old,he⟩,hi⟩:=st
  obtain ⟨xs,x,hq,hx⟩:=hg
  obtain ⟨its,rv,p,hz⟩:=I.list hq
  obtain ⟨u,hu,ru⟩:=rv.get hx
  refine wpAny_pyNext_enum_item he hi p.isList (x:=u) (by simpa using hu) hne λh1 heo hi1 ht hsz hk=>?_
  refine ⟨.ref s.heap.objs.size,rfl,wpAny_letOwnedTupleGo_enum (s:={ s with heap:=h1,toks:=s.toks + 1 }) heo λh2 he2 sb=>?_⟩
  have hes:s.heap.objs.size ≠ e:=Nat.ne_of_gt (a0n he)
  have hfr:H s.heap.objs.size = none:=I.hok.fresh (Nat.le_refl _)
  have hf2:∀ b ∈ [e,it],(bD H s.heap.objs.size (.tup [.int i,x])) b = none:=λb hb=>by
   have hb':b ≠ s.heap.objs.size:=by
    obtain ⟨o,q,_⟩:=hi
    simp only [List.mem_cons,List.not_mem_nil,or_false] at hb
    rcases hb with rfl | rfl
    ·exact hes.symm
    ·exact Nat.ne_of_lt (a0n q)
   rw [aE hb'];exact (hf b hb).1
  refine ⟨.ref s.heap.objs.size,bD H s.heap.objs.size (.tup [.int i,x]),I.turnL (t':=s.toks + 1) hf (λb v hb q=>?_) (Nat.le_refl _) ?_,rfl,⟨_,x,hfr,rfl,rfl,λys hy=>by rw [I.list_inj hy hq];exact hx⟩,⟨⟨_,he2⟩,?_⟩,hf2⟩
  ·simp only [List.mem_cons,List.not_mem_nil,or_false,not_or] at hb
   exact (sb.2 b hb.1).trans (hk b v hb.1 hb.2 q)
  ·exact ⟨(by decide:2 <= sizeLine),[.int i s.toks,u],.cons ⟨_,rfl⟩ (.cons ru .nil),_,(sb.2 _ hes).trans ht,rfl,_,rfl⟩
  ·exact hi1.at λo q=>(sb.2 it (Ne.symm hne)).trans q
 done:=by
  intro X hP hw hK hc i pins s σ H E I hf st hg
  subst hP hw hK
  obtain ⟨⟨old,he⟩,hi⟩:=st
  obtain ⟨xs,hq,hx⟩:=hg
  obtain ⟨its,rv,p,hz⟩:=I.list hq
  obtain ⟨f0,f1,f2,f3,f4,f5⟩:=hf it (by simp)
  have hl:=rv.length
  exact wpAny_pyNext_enum_end (I.ok.hd hc) he hi p.isList (by simp;omega) λh' eb=>⟨rfl,I.turned (t':=s.toks) (λb o hb e=>eb b o hb e) f0 f1 f3 f4 f5⟩
 self:=λ_ _ _ _ _ st h=>by
  obtain ⟨⟨old,he⟩,hi⟩:=st
  exact wpAny_pyIter_enum he h
def XX (K:PySem.W.Frag) (ta:TA):TI:=λσ H R=>ta σ H λvs H1=>∃ a,vs = [.ref a] /\ (∃ xs,cT K H1 a xs) /\ R (ZY K a) H1
theorem EW:bootBuiltins "enumerate" = some (.type "enumerate"):=by rfl
theorem OO {X:Cx} {a:Expr} {ta:TA} {elts:List Expr} {x1} {tpos p pos:Pos} (hg:Gl X "enumerate") (hm:X.mg "enumerate" = none) (ha:PA X [a] ta) (hs:starEach [a] X.env = [(false,eval a X.env)]:=by rfl) :
  PI X (.Tuple elts x1 tpos) (.Call (.Name "enumerate" p) [a] [] pos) (XX X.K ta):=by
 intro pins s σ H R I h
 refine Call_ (o7 I hg hm EW (PyProof.Rows.callWith_type1 (c5 (ha pos pins s σ H _ I h) λus s1 ⟨vs,H1,I1,r1,q1⟩=>?_) hs rfl))
 obtain ⟨l,e,⟨xs,hq⟩,q⟩:=q1
 subst e
 cases r1 with
 | cons r rr =>
  cases rr
  cases r
  obtain ⟨its,rv,p,hz⟩:=I1.list hq
  refine call_enumerate_list p.isList λh' he hi hsz hk=>?_
  refine wpAny_pyIter_enum he ?_
  have I2:Inv X pins σ H1 { s1 with heap:=h' }:=I1.kept (t':=s1.toks) hk
  refine ⟨s1.heap.objs.size + 1,[s1.heap.objs.size + 1,s1.heap.objs.size],_,_,H1,rfl,I2,GH l s1.heap.objs.size (s1.heap.objs.size + 1) (Nat.succ_ne_self _),⟨⟨_,he⟩,hi⟩,λb hb=>?_,q⟩
  have hb':s1.heap.objs.size <= b:=by
   simp only [List.mem_cons,List.not_mem_nil,or_false] at hb
   rcases hb with rfl | rfl <;> omega
  exact I1.fpOk hb' (I1.hok.fresh hb')
def oT (xs:List PV):List PV:=xs.zipIdx.map λz=>.tup [.int (z.2:Nat),z.1]
theorem fS (xs:List PV):(oT xs).length = xs.length:=by simp [oT]
theorem mI {xs:List PV} {i:Nat}:(oT xs)[i]? = (xs[i]?).map λx=>.tup [.int i,x]:=by
 rw [oT,a0h,List.getElem?_zipIdx]
 cases xs[i]? <;> simp
def piEnum (a:aQ):lA:=λenv Q=>a env λx=>match x with
 | .lst xs=>Q (oT xs)
 | _=>False
section
variable {X:Cx} {md:List Md} {el:El} {a b e tg:Expr} {pa pb pe:aQ} {p pos:Pos}
theorem LH {K:PySem.W.Frag} {B:Hp} {W:Wd} {H:Hp} {l:Addr} {vs:List V} {xs:List PV} (hF:W.F l) (e:H l = some (.lst vs)) (r:Reps (el.G W.F B) H vs xs):Src (ZY K l) el B W H (oT xs) where
 go:=λi W2 H2 x hi=>by
  rw [fS] at hi
  exact ⟨vs,vs[i]'(by rw [r.len];exact hi),cT.of (x.kp l _ hF e),a0b _⟩
 stop:=λW2 H2 x=>⟨vs,cT.of (x.kp l _ hF e),by rw [r.len,fS];exact Nat.le_refl _⟩
 yld:=λi W2 H2 v H3 x w hi y=>by
  obtain ⟨t,u,ht,rfl,rfl,y⟩:=y
  have:=y vs (cT.of (x.kp l _ hF e))
  obtain ⟨z,ez,rz⟩:=r.getV this
  have g:Go W2 H2 W2 (bD H2 t (.tup [.int i,u])):=Go.laid w ht
  have r2:=x.rep (G':=el.G W2.F B) (λ_ g=>El.GF g) (λ_ g=>El.up x.lF (λ_ h=>h) g) rz
  have r3:=g.rep w (G':=el.G W2.F B) (λ_ h=>El.nS w h) (λ_ h=>h) r2
  refine ⟨g,.tup [.int i,z],by rw [mI,ez];rfl,.tup b5 rfl λj v x e1 e2=>?_⟩
  match j,e1,e2 with
  | 0,e1,e2=>cases e1;cases e2;exact .int _
  | 1,e1,e2=>cases e1;cases e2;exact r3
theorem xE {elts:List Expr} {x1} {tpos:Pos} (hg:X.env.scope.names.lookup (Str.ofString "enumerate") = some NameKind.globalImplicit) (hm:X.mg "enumerate" = none) (ha:VE X md a (.v el) pa) (hs:starEach [a] X.env = [(false,eval a X.env)]:=by rfl) :
  VI X md el (.Tuple elts x1 tpos) (.Call (.Name "enumerate" p) [a] [] pos) (piEnum pa) :=
 ⟨(OO hg hm (a7 ha a9 hs).h hs).imp λσ H R=>by
 rintro ⟨env,W0,H0,W,Q,Rr,q,k⟩
 refine ⟨env,W0,H0,W,λxs=>match xs with | [.lst zs]=>Q (oT zs) | _=>False,Rr,?_,λxs vs W1 H1 g1 r1 q1=>?_⟩
 ·show pa env _
  unfold piEnum at q
  refine (iff_of_eq (congrArg (pa env) (funext λx=>?_))).mp q
  cases x <;> rfl
 ·obtain ⟨v,x,rfl,rfl,r⟩:=r1.one
  cases x with
  | lst xs =>
   obtain ⟨a,vs,rfl,g,e,rs⟩:=Rep.ofList r
   exact ⟨a,rfl,⟨vs,cT.of e⟩,k _ W1 H1 _ g1 (LH (El.GF g) e rs) q1⟩
  | _=>exact q1.elim⟩
end
section
variable {X:Cx} {elt target iter:Expr} {ifs:List Expr} {scope:Scope} {pos:Pos} {N':List Str} {n:Nat} {cap:List Nat} {wi:TI} {g:TG} {tt:TT} {te:TE}
theorem K7 {x:Str} {pos' pos2:Pos} {gg:TG} (hgx:PG X (.Name x pos') gg) (hsw:swapsWith (.ListComp elt [⟨target,iter,ifs,0⟩] scope pos) (some (.Name x pos')) pos2.line X.env = pure true) (hc:X.calm = true) (S:LcOk X.N X.env.scope scope N' n cap) (hi:PI X target iter wi) (hg:∀ C s H fp,PG (aM X N' scope C s H fp) target g)
    (ht:∀ C s H fp,HA (aM X N' scope C s H fp) ifs tt) (he:∀ C s H fp,PE (aM X N' scope C s H fp) elt te) (hs:∀ x,foldedSetIterable iter X.env x = pure x:=by intro _;rfl) :
    PS X (.Assign [.Name x pos'] (.ListComp elt [⟨target,iter,ifs,0⟩] scope pos) pos2) (A3 (a10 wi g tt te n cap) gg):=by
  intro pins s σ H D I h
  have hfree:∀ y ∈ scope.names,y.2 = .free -> ∃ c,X.env.cells.lookup y.1 = some c:=λy hy e=>I.ok.has y.1 (.inl (S.frees y hy e))
  rw [exec_Assign_Name_used x pos' _ pos2 hsw]
  refine a0a (wpAny_standAt (a0a ?_))
  rw [arm_evalThenUse_ListComp]
  refine a0a ?_
  refine wpAny_comprehension_free (use:=some (assign (.Name x pos') X.env)) (Q:=λ_ s'=>wpAny (model X.prog X.w) X.A (pure ()) (λ_ s'=>wpAny (model X.prog X.w) X.A (pure Flow.next) (SP X pins D) X.xe s') X.xe s') rfl hs (iW hfree) S.kind S.names ?_
  refine c5 (hi pins s σ H _ I h) λv s1 h1=>c5 h1 λitv s2 h2=>?_
  obtain ⟨it,fp,tn,J,H2,rfl,I2,T,st2,f2,body⟩:=h2
  refine wpAny_newObj_type ?_
  have I3:=I2.lnew (ys:=[]) (its:=[]) (t':=s2.toks) .nil (Nat.zero_le _)
  have hacc:H2 s2.heap.objs.size = none:=I2.fresh
  obtain ⟨W,⟨m0,w0⟩,turn⟩:=body _ hacc
  have hlt:∀ b ∈ fp,b < s2.heap.objs.size:=λb hb=>by
    obtain ⟨o,e,_⟩:=T.obj 0 _ st2 b hb
    exact a0n e
  have hf3:∀ b ∈ fp,hV X pins (bD H2 s2.heap.objs.size (.lst [])) b:=λb hb =>
    ⟨by rw [aE (Nat.ne_of_lt (hlt b hb))];exact (f2 b hb).1,(f2 b hb).2⟩
  refine wpAny_newFunctionEnv S.nocell (by intro y hy;cases hy) (λh4 ns4 sb4=>?_) S.kind
  generalize hs3:({ s2 with heap:=s2.heap.push { cls:=.type "list",dict:=none,data:=.seq ([]:List Value).toArray } }:Shared) = s3 at *
  have hsz:s2.heap.objs.size < s3.heap.objs.size:=by rw [<- hs3,Heap.size_push];exact Nat.lt_succ_self _
  have k4:∀ b o,s3.heap.get? b = some o -> h4.get? b = some o:=λb o e=>(sb4.2 b (Nat.ne_of_lt (a0n e))).trans (a0e _ e)
  generalize hH3:bD H2 s2.heap.objs.size (.lst []) = H3 at *
  have I3':Inv X pins σ H3 s3:=I3
  have IY:=mN (tk:=s3.toks + ([]:List (Str × Value)).length) S I3' hf3 (λb hb=>Nat.lt_trans (hlt b hb) hsz) ns4 k4
  have fpY:∀ H':Hp,(∀ b ∈ fp,H' b = none) -> ∀ b ∈ fp,hV (aM X N' scope s3.heap.objs.size s3 H3 fp) [] H' b:=λH' hn b hb=>by
    obtain ⟨_,f1,f2',f3,f4,f5⟩:=hf3 b hb
    refine ⟨hn b hb,Nat.ne_of_lt (Nat.lt_trans (hlt b hb) hsz),λz=>?_,.inl hb,λx c e=>f4 x c (k6 hfree e),λp hp=>absurd hp (by simp [aM])⟩
    rcases List.mem_cons.mp (I3'.stkSub b z) with z | z
    · exact f1 z
    · exact f2' z
  have tn4:tn 0 h4:=T.keep 0 _ _ st2 λb hb o e=>k4 b o (by rw [<- hs3];exact a0e _ e)
  have loop:codeAny (model X.prog X.w) X.A (.compLoop (.ListComp elt [⟨target,iter,ifs,0⟩] scope pos) 0 (.ref it) (.ref s2.heap.objs.size) (aM X N' scope s3.heap.objs.size s3 H3 fp).env)
      (compPost (model X.prog X.w) X.A X.xe (some (assign (.Name x pos') X.env)) (λ_ s'=>wpAny (model X.prog X.w) X.A (pure ()) (λ_ s'=>wpAny (model X.prog X.w) X.A (pure Flow.next) (SP X pins D) X.xe s') X.xe s') (.ref s2.heap.objs.size) s3.heap.objs.size) { s3 with heap:=h4,toks:=s3.toks + ([]:List (Str × Value)).length }:=by
    refine DH (λk s'=>∃ i σ' H',Inv (aM X N' scope s3.heap.objs.size s3 H3 fp) [] σ' H' s' /\ tn i s'.heap /\ (∀ b ∈ fp,H' b = none) /\ W i k σ' H') ?_ m0 ⟨0,_,_,IY,tn4,λb hb=>(hf3 b hb).1,w0⟩
    rintro k s5 ⟨i,σ5,H5,I5,st5,fr5,w5⟩
    rcases turn i k σ5 H5 w5 with ⟨stop,qn⟩ | ⟨go,Nn,hN,step⟩
    · refine wpAny_mono (T.done (aM X N' scope s3.heap.objs.size s3 H3 fp) rfl rfl rfl hc i [] s5 σ5 H5 (λ_ _=>False) I5 (fpY H5 fr5) st5 stop) (λr s6 hr=>?_) (λ_ _ z=>z)
      obtain ⟨rfl,I6⟩:=hr
      obtain ⟨m,hn,_⟩:=I6.loc
      have hs':Heap.SameBut s3.heap.objs.size s6.heap s6.heap:=⟨rfl,λ_ _=>rfl⟩
      have IX:Inv X pins σ H5 s6:=by
        have ub:=I6.base
        have ne:∀ b o,s3.heap.get? b = some o -> b ≠ s3.heap.objs.size:=λb o e=>Nat.ne_of_lt (a0n e)
        refine I3'.call' (s':=s6) (ch:=fp) I6.os ⟨λb o e z1 z2 z3=>(hs'.2 b (ne b o e)).trans (ub.keep b o e z1 z2 z3),λb o e z1 z2 z3=>?_,ub.free,λb o e z=>?_,ub.tups,ub.frzs,ub.tbls⟩ (pS I6.hok I6.free hs') I6.bare λb hb=>⟨(hf3 b hb).2.2.2.1,(hf3 b hb).2.1,(hf3 b hb).2.2.2.2.1,(hf3 b hb).2.2.2.2.2⟩
        · obtain ⟨sl,e'⟩:=ub.slot b o e z1 z2 z3
          exact ⟨sl,(hs'.2 b (ne b o e)).trans e'⟩
        · obtain ⟨o',e'⟩:=ub.there b o e z
          exact ⟨o',(hs'.2 b (ne b o e)).trans e'⟩
      have fC:hV X pins H5 s3.heap.objs.size:=I3'.fpOk (Nat.le_refl _) I6.free
      have IXp := IX.pinned (fp := [s3.heap.objs.size]) (fun b hb => by have e : b = s3.heap.objs.size := by simpa using hb
                                                                        subst e;exact fC) (λb hb=>by
        have e:b = s3.heap.objs.size:=by simpa using hb
        subst e
        obtain ⟨o,es,ep,ho,hd,_⟩:=hn
        exact ⟨o,ho,λv z=>by rw [hd] at z;cases z⟩)
      show wpAny _ _ (assign (.Name x pos') X.env (.ref s2.heap.objs.size)) _ _ s6
      refine c5 (hgx _ s6 σ H5 (.ref s2.heap.objs.size) (.ref s2.heap.objs.size) _ IXp rfl qn) λ_ s7 h7=>?_
      obtain ⟨σ7,H7,I7,q7⟩:=h7
      obtain ⟨o,es,ep,ho,hd⟩:=id hn
      have z:=I7.pin (s3.heap.objs.size,o) (List.mem_append_right _ (List.mem_append_right _ (dB (by simp) ho)))
      refine ⟨m,⟨o,es,ep,z.1,hd⟩,λh' hs'=>a0d (a0d ⟨σ7,H7,?_,q7⟩)⟩
      obtain ⟨f0,f1,f2,f3,f4,f5⟩:=fC
      exact I7.unpinned.turned (t':=s7.toks) (it:=s3.heap.objs.size) (λb o hb e=>(hs'.2 b hb).trans e) z.2.1 f1 f3 f4 f5
    · refine wpAny_mono (T.item (aM X N' scope s3.heap.objs.size s3 H3 fp) rfl rfl rfl hc i [] s5 σ5 H5 (λ_ _=>False) I5 (fpY H5 fr5) st5 go) (λr s6 h6=>?_) (λ_ _ z=>z)
      obtain ⟨u,rfl,h6⟩:=h6
      refine wpAny_mono h6 (λ_ s7 h7=>?_) (λ_ _ z=>z)
      obtain ⟨x,H7,I7,r7,y7,st7,fr7⟩:=h7
      have I7':=I7.pinned (fpY H7 fr7) (T.obj _ _ st7)
      have again:∀ {σ':St} {H':Hp} {s':Shared},Inv (aM X N' scope s3.heap.objs.size s3 H3 fp) ([] ++ lU fp s7.heap) σ' H' s' -> Nn σ' H' ->
          ∃ m,m < k /\ ∃ i σ' H',Inv (aM X N' scope s3.heap.objs.size s3 H3 fp) [] σ' H' s' /\ tn i s'.heap /\ (∀ b ∈ fp,H' b = none) /\ W i m σ' H':=fun {σ' H' s'} J7 n7=>by
        obtain ⟨m',hm,w7⟩:=hN σ' H' n7
        have pin:∀ b ∈ fp,∀ o,s7.heap.get? b = some o -> s'.heap.get? b = some o /\ H' b = none:=λb hb o e=>by
          have z:=J7.pin (b,o) (List.mem_append_right _ (List.mem_append_right _ (dB hb e)))
          exact ⟨z.1,z.2.1⟩
        refine ⟨m',hm,i + 1,σ',H',J7.unpinned,T.keep _ _ _ st7 λb hb o e=>(pin b hb o e).1,λb hb=>?_,w7⟩
        obtain ⟨o,e,_⟩:=T.obj _ _ st7 b hb
        exact (pin b hb o e).2
      refine c5 (hg _ _ _ _ _ s7 σ5 H7 x u _ I7' r7 (step x H7 y7)) λ_ s8 h8=>?_
      obtain ⟨σ8,H8,I8,q8⟩:=h8
      refine c5 (ht _ _ _ _ _ s8 σ8 H8 _ I8 q8) λok s9 h9=>?_
      obtain ⟨H9,I9,q9⟩:=h9
      cases ok with
      | false =>
        rw [if_neg a0k] at q9 ⊢
        exact again I9 q9
      | true =>
        rw [if_pos rfl] at q9 ⊢
        refine c5 (he _ _ _ _ _ s9 σ8 H9 _ I9 q9) λxv s10 h10=>?_
        obtain ⟨v',H10,I10,r10,ys,ha,hl,q10⟩:=h10
        refine c5 (o8 (X:=aM X N' scope s3.heap.objs.size s3 H3 fp) _ s10 σ8 H10 (.ref s2.heap.objs.size) [v'] (.ref s2.heap.objs.size) [xv] (λ_ H'=>Nn σ8 H') I10 rfl (.cons r10 .nil) ⟨_,ys,v',rfl,rfl,ha,hl,q10⟩) λ_ s11 h11=>?_
        obtain ⟨_,H11,I11,_,q11⟩:=h11
        exact again I11 q11
  exact codeAny_compStart_list loop (T.self _ 0 _ _ _ tn4 loop)
end
section
variable {X:Cx} {elt target iter:Expr} {ifs:List Expr} {scope:Scope} {pos pos2 pos':Pos} {N':List Str} {n i:Nat} {x:Str} {cap:List Nat} {md mb lm:List Md} {rm:Md} {el eli:El} {s:lA} {g:gN} {tt:dX} {te:aQ}
theorem M8 {cp:b6 -> b6} (hN:X.N.Nodup) (hix:X.N[i]? = some x) (hx:EJ X.env.scope x) (hsw:swapsWith (.ListComp elt [⟨target,iter,ifs,0⟩] scope pos) (some (.Name x pos')) pos2.line X.env = pure true) (hf:X.fn x = true \/ X.env.scope.names.lookup x = some .local)
  (hm:fJ (md.set i (.o el)) = true) (hl:i < md.length)
  (hcp:∀ env,cp env = oC n cap env) (hc:X.calm = true) (S:LcOk X.N X.env.scope scope N' n cap) (hle:i4 mb (eQ n cap md) = true) (hbl:jG mb = true) (hi:VI X md eli target iter s) (hg:∀ C s H fp,VG (aM X N' scope C s H fp) (eQ n cap md) mb eli target g)
  (ht:∀ C s H fp,VTs (aM X N' scope C s H fp) mb ifs tt) (he:∀ C s H fp,VE (aM X N' scope C s H fp) mb elt (.v el) te) (hs:∀ x,foldedSetIterable iter X.env x = pure x:=by intro _;rfl) :
  VS X md (md.set i (.o el)) lm rm (.Assign [.Name x pos'] (.ListComp elt [⟨target,iter,ifs,0⟩] scope pos) pos2) (pSet i (pLc s g tt te cp)) :=
 ⟨(K7 (pW hN hix hx hf) hsw hc S hi.h (λC s H fp=>(hg C s H fp).h) (λC s H fp=>(ht C s H fp).h) (λC s H fp=>(he C s H fp).h) hs).imp λD σ H=>by
 rintro ⟨env,W0,H0,W,E,R,q,l⟩
 refine DG (el:=el) hcp hle hbl ⟨env,W0,H0,W,_,R,q,λx v W1 H1 g1 r1 q1=>?_⟩
 rw [d9] at q1
 exact l.nx _ W1 _ H1 (R.set g1 r1 hm hl) (g1.ex R.ok) q1⟩
end
def pPar (i j:Nat) (pa:kP):bE:=λE env=>pa env λxs=>match xs with
 | [x,y]=>E.nx (gH (gH env i (some x)) j (some y))
 | _=>False
def a15 (r:V -> Hp -> VK -> Prop) (te tk:TE):TE:=λσ H Q=>te σ H λx H1=>tk σ H1 λk H2=>k = .int (-1) /\ r x H2 Q
def YY (K:PySem.W.Frag):V -> Hp -> VK -> Prop:=λx H Q=>∃ a xs,x = .ref a /\ cT K H a xs /\ ∀ p,H p = none -> Q (.ref p) (bD H p (.lst xs.reverse))
theorem xC {vs:List V} {us:List Value} (r:aU vs us):aU vs.reverse us.reverse:=by
 induction r with
 | nil=>exact .nil
 | cons h r ih =>
  rw [List.reverse_cons,List.reverse_cons]
  exact ih.append (.cons h .nil)
theorem UY {X:Cx} {e k:Expr} {te tk:TE} {pos p2:Pos} (he:PE X e te) (hk:PE X k tk):PE X (.Subscript e (.Slice none none (some k) p2) pos) (a15 (YY X.K) te tk):=by
 intro pins s σ H Q I h
 refine Subscript_ (c5 (he pins s σ H _ I h) λv s1 ⟨x,H1,I1,r1,q1⟩=>?_)
 refine wpAny_Slice ?_
 rw [evalPart_none]
 refine a0d (a0d ?_)
 rw [evalPart_some]
 refine c5 (hk pins s1 σ H1 _ I1 q1) λvk s3 ⟨y,H3,I3,r3,q3⟩=>?_
 obtain ⟨rfl,a,xs,rfl,hx,q⟩:=q3
 cases r1
 obtain ⟨t,rfl⟩:=r3
 have I4:Inv X pins σ H3 { s3 with heap:=s3.heap.push { cls:=.type "slice",data:=.fields #[.none,.none,.int (-1) t] } }:=I3.kept (t':=s3.toks) λb ob q=>a0e _ q
 obtain ⟨its,r,ht,hz⟩:=I4.list hx
 have hlen:=r.length
 show wpAny (model X.prog X.w) X.A (subscriptTail e (.Slice none none (some k) p2) (.ref a) (.ref s3.heap.objs.size)) (EP X pins σ Q) X.xe { s3 with heap:=s3.heap.push { cls:=.type "slice",data:=.fields #[.none,.none,.int (-1) t] } }
 refine tail_any (ops:=[.ref a,.ref s3.heap.objs.size]) ht.isList.typeIs slot_list_getitem.lookup ?_ (by with_unfolding_all rfl)
 refine wpAny_getItem_list_slice (st:=some (-1)) ht.isList (Heap.IsSliceOf.new ..) .none .none (.int (-1) t) (by decide) ?_ (by rw [List.size_toArray] <;> omega)
 rw [PySem.W.krv_pick]
 refine ⟨.ref _,_,I4.laid (t':=s3.toks) (o:=.lst xs.reverse) (λb ob q=>a0e _ q) (Nat.le_refl _) ?_,rfl,q _ (I4.hok.fresh (Nat.le_refl _))⟩
 exact ⟨by rw [List.length_reverse];exact hz,_,0,xC r,Heap.get?_push_size _ rfl⟩
def pRev (a k:aQ):aQ:=λenv Q=>a env λx=>k env λy=>match x,y with
 | .lst xs,.int i=>i = -1 /\ Q (.lst xs.reverse)
 | _,_=>False
theorem Reps.rev {G:Addr -> Prop} {H:Hp} {vs:List V} {xs:List PV} (r:Reps G H vs xs):Reps G H vs.reverse xs.reverse:=by
 refine ⟨by rw [List.length_reverse,List.length_reverse];exact r.len,λi v x e1 e2=>?_⟩
 have hi:=(a0i.mp e2).1
 rw [List.length_reverse] at hi
 rw [List.getElem?_reverse hi] at e2
 rw [List.getElem?_reverse (by rw [r.len];exact hi),r.len] at e1
 exact r.at_ _ _ _ e1 e2
theorem WR {X:Cx} {md:List Md} {e k:Expr} {pe pk:aQ} {el:El} {pos p2:Pos} (he:VE X md e (.p el) pe) (hk:VE X md k .bw pk):VE X md (.Subscript e (.Slice none none (some k) p2) pos) (.o el) (pRev pe pk) :=
 ⟨(UY he.h hk.h).imp λσ H K=>by
  rintro ⟨env,W0,H0,W,Q,R,q,kk⟩
  refine ⟨env,W0,H0,W,_,R,q,λx v W1 H1 g1 r1 q1=>⟨env,W0,H0,W1,_,R.step g1,q1,λy u W2 H2 g2 r2 q2=>?_⟩⟩
  have k2:=kk.after (g1.trans g2)
  have r1':RepP (el.G W2.F H0) W2.S H2 v x:=ResE.go (m:=.p el) r1 g1.ok g2
  cases x with
  | lst xs=>cases y with
   | int n =>
    obtain ⟨a,vs,rfl,e,rs⟩:=r1'.ofList
    have hu:=Rep.ofInt r2
    subst hu
    obtain ⟨rfl,q2⟩:=q2
    exact ⟨rfl,a,vs,rfl,cT.of e,λp hp=>k2.newL g2.ok hp rs.rev q2⟩
   | _=>exact q2.elim
  | _=>exact q2.elim⟩
section
variable {κ:Type} [DecidableEq κ]
def nI (kvs:List (κ × V)) (k:κ):Option V:=(kvs.find? λkv=>decide (kv.1 = k)).map (·.2)
def lW (kvs:List (κ × V)) (k:κ) (v:V):List (κ × V) :=
 if (kvs.any λkv=>decide (kv.1 = k)) = true then kvs.map (λkv=>if kv.1 = k then (kv.1,v) else kv) else kvs ++ [(k,v)]
theorem nJ {p:κ × V} {r:List (κ × V)} {k:κ} (e:p.1 = k):nI (p :: r) k = some p.2:=by simp [nI,List.find?_cons,e]
theorem kM {p:κ × V} {r:List (κ × V)} {k:κ} (e:¬ p.1 = k):nI (p :: r) k = nI r k:=by simp [nI,List.find?_cons,e]
theorem A6 (k:κ):∀ kvs:List (κ × V),(kvs.any λkv=>decide (kv.1 = k)) = (nI kvs k).isSome
 | []=>rfl
 | p :: r=>by
  rw [List.any_cons]
  by_cases e:p.1 = k
  ·simp only [nJ e,decide_eq_true e,Bool.true_or,Option.isSome_some]
  ·rw [kM e,decide_eq_false e,Bool.false_or];exact A6 k r
theorem kA (kvs:List (κ × V)) (k:κ) (v:V):(lW kvs k v).length <= kvs.length + 1:=by
 unfold lW
 split
 ·rw [a0c];omega
 ·rw [List.length_append,List.length_cons,List.length_nil];omega
theorem pG.isSome_eq {o:Option V} {u:Option Value} (r:pG o u):o.isSome = u.isSome:=by
 cases o with
 | none=>cases u with
  | none=>rfl
  | some _=>exact (show False from r).elim
 | some _=>cases u with
  | none=>exact (show False from r).elim
  | some _=>rfl
theorem pG.getD {o:Option V} {u:Option Value} {d:V} {d':Value} (r:pG o u) (rd:b7 d d'):b7 (o.getD d) (u.getD d'):=by
 cases o with
 | none=>cases u with
  | none=>exact rd
  | some _=>exact (show False from r).elim
 | some _=>cases u with
  | none=>exact (show False from r).elim
  | some _=>exact r
theorem KV.val {kvs:List (κ × V)} {vs:List (κ × Value)} (r:KV kvs vs) (k:κ):pG (nI kvs k) (valueAt vs k):=by
 unfold KV at r
 induction r with
 | nil=>exact True.intro
 | @cons p q ps qs h t ih =>
  obtain ⟨h1,h2⟩:=h
  by_cases e:p.1 = k
  ·have e':q.1 = k:=h1.symm.trans e
   have b:valueAt (q :: qs) k = some q.2:=by simp [valueAt,List.find?_cons,e']
   rw [nJ e,b];exact h2
  ·have e':¬ q.1 = k:=λz=>e (h1.trans z)
   have b:valueAt (q :: qs) k = valueAt qs k:=by simp [valueAt,List.find?_cons,e']
   rw [kM e,b];exact ih
theorem KV.any {kvs:List (κ × V)} {vs:List (κ × Value)} (r:KV kvs vs) (k:κ):(kvs.any λkv=>decide (kv.1 = k)) = vs.any λkv=>decide (kv.1 = k):=by
 unfold KV at r
 induction r with
 | nil=>rfl
 | cons h t ih=>rw [List.any_cons,List.any_cons,ih,h.1]
theorem KV.repl {kvs:List (κ × V)} {vs:List (κ × Value)} (r:KV kvs vs) (k:κ) {y:V} {u:Value} (ry:b7 y u) :
  KV (kvs.map λkv=>if kv.1 = k then (kv.1,y) else kv) (vs.map λkv=>if kv.1 = k then (kv.1,u) else kv):=by
 unfold KV at r ⊢
 induction r with
 | nil=>exact .nil
 | @cons p q ps qs h t ih =>
  rw [a0f,a0f]
  refine .cons ?_ ih
  obtain ⟨h1,h2⟩:=h
  by_cases e:p.1 = k
  ·rw [if_pos e,if_pos (h1.symm.trans e)];exact ⟨h1,ry⟩
  ·rw [if_neg e,if_neg (λz=>e (h1.trans z))];exact ⟨h1,h2⟩
theorem KV.put {kvs:List (κ × V)} {vs:List (κ × Value)} (r:KV kvs vs) (k:κ) {y:V} {u:Value} (ry:b7 y u):KV (lW kvs k y) (stored vs k u):=by
 unfold lW stored
 rw [r.any k]
 by_cases e:(vs.any λkv=>decide (kv.1 = k)) = true
 ·rw [if_pos e,if_pos e];exact r.repl k ry
 ·rw [if_neg e,if_neg e];exact Paired.snoc r ⟨rfl,ry⟩
theorem KV.length {kvs:List (κ × V)} {vs:List (κ × Value)} (r:KV kvs vs):kvs.length = vs.length:=Paired.length r
end
theorem u7 {P:Program} {w:World} {k:b9} {u:Value} (r:b7 (kV k) u):(aV P w).is k u = true:=by
 cases k with
 | inl i=>obtain ⟨t,e⟩:=(show ∃ t,u = Value.int i t from r);subst e;exact yR P w i t
 | inr x=>obtain ⟨t,e⟩:=(show ∃ t,u = Value.str x t from r);subst e;exact yS P w x t
theorem u6 {P:Program} {w:World}:∀ {ks:List b9} {us:List Value},aU (ks.map kV) us -> ItemsAre (aV P w) ks us
 | [],_,r=>by rw [List.map_nil] at r;cases r;exact .nil
 | k :: ks,_,r=>by
  rw [a0f] at r
  cases r with
  | cons h t=>exact .cons (u7 h) (u6 t)
abbrev KT (H:Hp):List (List b9 × V) -> List (List b9 × Addr × Value) -> Prop:=Paired λp q=>p.1 = q.1 /\ H q.2.1 = some (.tup (p.1.map kV)) /\ b7 p.2 q.2.2
theorem KT.val {H:Hp} {kvs:List (List b9 × V)} {xs:List (List b9 × Addr × Value)} (r:KT H kvs xs) (k:List b9):pG (nI kvs k) ((atKey xs k).map (·.2)):=by
 induction r with
 | nil=>exact True.intro
 | @cons p q ps qs h t ih =>
  obtain ⟨h1,_,h2⟩:=h
  by_cases e:p.1 = k
  ·have e':q.1 = k:=h1.symm.trans e
   have b:atKey (q :: qs) k = some q.2:=by simp [atKey,List.find?_cons,e']
   rw [nJ e,b];exact h2
  ·have e':¬ q.1 = k:=λz=>e (h1.trans z)
   have b:atKey (q :: qs) k = atKey qs k:=by simp [atKey,List.find?_cons,e']
   rw [kM e,b];exact ih
theorem KT.repl {H:Hp} {kvs:List (List b9 × V)} {xs:List (List b9 × Addr × Value)} (r:KT H kvs xs) (k:List b9) {y:V} {u:Value} (ry:b7 y u) :
  KT H (kvs.map λkv=>if kv.1 = k then (kv.1,y) else kv) (xs.map (putAt k u)):=by
 induction r with
 | nil=>exact .nil
 | @cons p q ps qs h t ih =>
  rw [a0f,a0f]
  refine .cons ?_ ih
  obtain ⟨h1,h2,h3⟩:=h
  unfold putAt
  by_cases e:p.1 = k
  ·rw [if_pos e,if_pos (h1.symm.trans e)];exact ⟨h1,h2,ry⟩
  ·rw [if_neg e,if_neg (λz=>e (h1.trans z))];exact ⟨h1,h2,h3⟩
theorem KT.put {H:Hp} {kvs:List (List b9 × V)} {xs:List (List b9 × Addr × Value)} (r:KT H kvs xs) (k:List b9) {b:Addr} {y:V} {u:Value} (hb:H b = some (.tup (k.map kV))) (ry:b7 y u) :
  KT H (lW kvs k y) (storedH xs k b u):=by
 have e:(kvs.any λkv=>decide (kv.1 = k)) = (atKey xs k).isSome:=by
  rw [A6,(r.val k).isSome_eq,Option.isSome_map]
 unfold lW storedH
 rw [e]
 by_cases q:(atKey xs k).isSome = true
 ·rw [if_pos q,if_pos q];exact r.repl k ry
 ·rw [if_neg q,if_neg q];exact Paired.snoc r ⟨rfl,hb,ry⟩
theorem KT.keeps {H H':Hp} {kvs:List (List b9 × V)} {xs:List (List b9 × Addr × Value)} (r:KT H kvs xs) (ht:∀ b ys,H b = some (.tup ys) -> H' b = some (.tup ys)):KT H' kvs xs :=
 Paired.mapP r λ_ _ z=>⟨z.1,ht _ _ z.2.1,z.2.2⟩
section
variable {P:Program} {w:World} {H:Hp} {h:Heap} {a:Addr}
theorem RL {u:HO} (ok:l7 P w H h) (e:Rd H a u):cF P w H h a u:=e.ok ok
theorem yE {kvs:List (b9 × V)} (ok:l7 P w H h) (e:Rd H a (.dK kvs)):kvs.length <= sizeLine /\ (a == sysModules) = false /\ ∃ vs,KV kvs vs /\ h.DictOf (aV P w) a vs :=
 show cF P w H h a (.dK kvs) from RL ok e
theorem QY {kvs:List (b9 × V)} (ok:l7 P w H h) (e:H a = some (.dK kvs)):kvs.length <= sizeLine /\ (a == sysModules) = false /\ ∃ vs,KV kvs vs /\ h.DictOf (aV P w) a vs:=yE ok (.inl e)
theorem w4 {ks:List b9} (ok:l7 P w H h) (e:H a = some (.tup (ks.map kV))):(tupleKind (aV P w)).is h ks a:=by
 obtain ⟨_,its,r,o,h1,h2,n,h3⟩:=(show cF P w H h a (.tup (ks.map kV)) from ok a _ e)
 exact ⟨o,its.toArray,n,h1,h2,h3,by simpa using u6 r⟩
theorem D4 {kvs:List (List b9 × V)} (ok:l7 P w H h) (e:Rd H a (.dT kvs)):kvs.length <= sizeLine /\ (a == sysModules) = false /\
  ∃ xs,KT H kvs xs /\ h.DictOfH (tupleKind (aV P w)) a xs:=by
 obtain ⟨z,y,xs,r,o,es,ep,h1,h2,h3,h4,h5⟩:=(show cF P w H h a (.dT kvs) from RL ok e)
 refine ⟨z,y,xs,r,o,es,ep,h1,h2,h3,h4,λx hx=>?_,h5⟩
 have all:∀ {l:List (List b9 × V)} {m:List (List b9 × Addr × Value)},KT H l m -> ∀ x ∈ m,(tupleKind (aV P w)).is h x.1 x.2.1:=by
  intro l m q
  induction q with
  | nil=>intro x hx;exact nomatch hx
  | @cons p q ps qs hq t ih =>
   intro x hx
   rcases List.mem_cons.mp hx with e | hx
   ·subst e
    exact w4 ok (by rw [<- hq.1];exact hq.2.1)
   ·exact ih x hx
 exact all r x hx
theorem XE {kvs:List (List b9 × V)} (ok:l7 P w H h) (e:H a = some (.dT kvs)):kvs.length <= sizeLine /\ (a == sysModules) = false /\
  ∃ xs,KT H kvs xs /\ h.DictOfH (tupleKind (aV P w)) a xs:=D4 ok (.inl e)
end
def xP (H:Hp) (a:Addr) (y:V) (r:Option V):Prop :=
 (∃ kvs k,Rd H a (.dK kvs) /\ y = kV k /\ r = nI kvs k) \/ ∃ kvs k b,Rd H a (.dT kvs) /\ y = .ref b /\ H b = some (.tup (k.map kV)) /\ r = nI kvs k
def HJ (H:Hp) (a:Addr) (y v:V) (H':Hp):Prop :=
 (∃ kvs k,H a = some (.dK kvs) /\ y = kV k /\ kvs.length < sizeLine /\ H' = bD H a (.dK (lW kvs k v))) \/
 ∃ kvs k b,H a = some (.dT kvs) /\ y = .ref b /\ H b = some (.tup (k.map kV)) /\ kvs.length < sizeLine /\ H' = bD H a (.dT (lW kvs k v))
theorem xP.k {H:Hp} {a:Addr} {kvs:List (b9 × V)} {k:b9} (e:H a = some (.dK kvs)):xP H a (kV k) (nI kvs k):=.inl ⟨kvs,k,.inl e,rfl,rfl⟩
theorem HJ.k {H:Hp} {a:Addr} {kvs:List (b9 × V)} {k:b9} {v:V} (e:H a = some (.dK kvs)) (hl:kvs.length < sizeLine):HJ H a (kV k) v (bD H a (.dK (lW kvs k v))):=.inl ⟨kvs,k,e,rfl,hl,rfl⟩
section
variable {X:Cx} {pins:List (Addr × Obj)} {σ:St} {H:Hp} {s:Shared} {a:Addr} {y v:V} {u r:Value} {o:Option V} {A:Around} {E:Value -> Shared -> Prop}
theorem Inv.big (I:Inv X pins σ H s):sysModules < s.heap.objs.size:=by
 have h:mainGlobals < s.heap.objs.size:=(I.mod.glob.keeps I.bk).lt
 exact Nat.lt_trans (by decide) h
theorem F9 {Q:Value -> Shared -> Prop} (hu:A.units + 1 < cLine) (I:Inv X pins σ H s) (g:xP H a y (some v)) (ry:b7 y u) (h:∀ w' s',Inv X pins σ H s' -> b7 v w' -> Q w' s') :
  wpAny (model X.prog X.w) A (getItem (.ref a) u) Q E s:=by
 rcases g with ⟨kvs,k,e,ey,l⟩ | ⟨kvs,k,b,e,ey,eb,l⟩
 ·subst ey
  obtain ⟨z,hd,vs,rel,dd⟩:=yE I.hok e
  obtain ⟨w',hw,rw'⟩:=pG.some_of (v:=v) (o:=valueAt vs k) (by rw [l];exact rel.val k)
  exact wpAny_getItem_of (u7 ry) dd.mapOf hw (h w' _ (I.tok _) rw')
 ·subst ey
  cases (show u = Value.ref b from ry)
  obtain ⟨z,hd,xs,rel,dd⟩:=D4 I.hok e
  obtain ⟨w',hw,rw'⟩:=pG.some_of (v:=v) (o:=(atKey xs k).map (·.2)) (by rw [l];exact rel.val k)
  obtain ⟨p,hp,hp2⟩:=Option.map_eq_some_iff.mp hw
  refine wpAny_getItem_heap (tupleKind_room_in1 hu) (w4 I.hok eb) dd hp ?_
  rw [hp2]
  exact h w' _ (I.tok _) rw'
theorem vV {h':Heap} {t':Nat} {ob:HO} (I:Inv X pins σ H s) (mu:X4 (H a)) (hs:Heap.SameBut a s.heap h') (he:∃ q,h'.get? a = some q) (new:cF X.prog X.w (bD H a ob) h' a ob) :
  Inv X pins σ (bD H a ob) { s with heap:=h',toks:=t' } :=
 I.write (x:=a) (e:=a) mu (.inl rfl) (λb q hb z=>(hs.2 b hb).trans z) he new
theorem B7 {P:Program} {w:World} {H':Hp} {h':Heap} {kvs:List (b9 × V)} {vs:List (b9 × Value)} (z:kvs.length <= sizeLine) (hd:(a == sysModules) = false) (rel:KV kvs vs) (dd:h'.DictOf (aV P w) a vs) :
  cF P w H' h' a (.dK kvs):=⟨z,hd,vs,rel,dd⟩
theorem FA {H':Hp} {Q:Unit -> Shared -> Prop} (hu:A.units + 1 < cLine) (I:Inv X pins σ H s) (g:HJ H a y v H') (ry:b7 y u) (rv:b7 v r) (h:∀ s',Inv X pins σ H' s' -> Q () s') :
  wpAny (model X.prog X.w) A (setItem (.ref a) u r) Q E s:=by
 rcases g with ⟨kvs,k,e,ey,l,eH⟩ | ⟨kvs,k,b,e,ey,eb,l,eH⟩
 ·subst ey eH
  obtain ⟨z,hd,vs,rel,dd⟩:=QY I.hok e
  have hz:vs.length <= sizeLine:=by rw [<- rel.length];exact z
  have hl:(lW kvs k v).length <= sizeLine:=by have:=kA kvs k v;omega
  refine wpAny_setItem_pairs (hsz:=hz) (u7 ry) dd λh' dd' hs=>h _ ?_
  have he:∃ q,h'.get? a = some q:=let ⟨q,_,_,hq,_⟩:=dd';⟨q,hq⟩
  exact vV I (by rw [e];exact True.intro) hs he (B7 hl hd (rel.put k rv) dd')
 ·subst ey eH
  cases (show u = Value.ref b from ry)
  obtain ⟨z,hd,xs,rel,dd⟩:=XE I.hok e
  have hz:xs.length <= sizeLine:=by rw [<- Paired.length rel];exact z
  have hl:(lW kvs k v).length <= sizeLine:=by have:=kA kvs k v;omega
  refine wpAny_setItem_heap (hsz:=hz) (tupleKind_room_in1 hu) (w4 I.hok eb) dd λh' dd' hs=>h _ ?_
  obtain ⟨q,es,ep,hq,h2,h3,h4,_,h5⟩:=dd'
  refine vV I (by rw [e];exact True.intro) hs ⟨q,hq⟩ ⟨hl,hd,_,(rel.put k eb rv).keeps λc ys ec=>?_,q,es,ep,hq,h2,h3,h4,h5⟩
  rw [aE (Y6 ec e (λz=>nomatch z))]
  exact ec
end
def RS (i:Expr):Prop:=∀ ov iv,subscripted i false ov iv = operate [ov,iv] (getItem ov iv)
theorem PX {prog:Program} {w:World} {A:Around} {E:Value -> Shared -> Prop} {s:Shared} {env:Env} {value slice:Expr} {pos:Pos} {T id:String} {Q:Value -> Shared -> Prop}
  (hl:typeLookup (.type T) "__getitem__" = pure (some (.builtin id))) (hs:RS slice)
  (h:wpAny (model prog w) A (eval value env) (λo s₁=>wpAny (model prog w) A (eval slice env) (λi s₂=>s₂.TypeIs o T /\ wpAny (model prog w) A (getItem o i) Q E s₂) E s₁) E s) :
  wpAny (model prog w) A (eval (.Subscript value slice pos) env) Q E s:=by
 refine Subscript_ (wpAny_mono h (λo s₁ h₁=>wpAny_mono h₁ (λi s₂ h₂=>?_) λ_ _ x=>x) λ_ _ x=>x)
 obtain ⟨hT,h₂⟩:=h₂
 unfold subscriptTail
 refine a0a ?_
 rw [getitemInPython_of_ne hT.not_modules]
 refine a0a (wpAny_specialOf hT hl ?_)
 have fin:wpAny (model prog w) A (subscripted slice false o i) (λr s₃=>wpAny (model prog w) A (letTemporaryGo value o r >>= λ_=>pure r) Q E s₃) E s₂:=by
  rw [hs o i]
  exact wpAny_operating (wpAny_mono h₂ (λr s₃ h₃=>a0a (wpAny_letTemporaryGo (a0d h₃))) λ_ _ x=>x)
 first
  | exact a0d (a0a fin)
  | exact a0a (a0d (a0a fin))
  | exact a0a fin
theorem yC {X:Cx} {pins:List (Addr × Obj)} {σ:St} {H:Hp} {s:Shared} {a:Addr} {y:V} {o:Option V} (I:Inv X pins σ H s) (g:xP H a y o):s.TypeIs (.ref a) "dict" := by
 rcases g with ⟨kvs,k,e,_,_⟩ | ⟨kvs,k,b,e,_,_,_⟩
 ·obtain ⟨_,_,vs,_,dd⟩:=yE I.hok e
  exact dd.typeIs
 ·obtain ⟨_,_,xs,_,dd⟩:=D4 I.hok e
  exact dd.typeIs
def Z9 (td ty:TE):TE:=λσ H Q=>td σ H λx H1=>ty σ H1 λy H2=>∃ a v,x = .ref a /\ xP H2 a y (some v) /\ Q v H2
def Z5 (td ty tv:TE):TS:=λD σ H=>tv σ H λv H1=>td σ H1 λx H2=>ty σ H2 λy H3=>∃ a H4,x = .ref a /\ HJ H3 a y v H4 /\ D.nx σ H4
section
variable {X:Cx} {o i e value:Expr} {pos pos' tpos:Pos} {td ty tv:TE}
theorem ON (hu:X.A.units + 1 < cLine) (ho:PE X o td) (hi:PE X i ty) (hs:RS i):PE X (.Subscript o i pos) (Z9 td ty):=by
 intro pins s σ H Q I h
 refine PX PySem.F.slot_dict_getitem.lookup hs (c5 (ho pins s σ H _ I h) λu s1 ⟨x,H1,I1,rx,q1⟩=>c5 (hi pins s1 σ H1 _ I1 q1) λiv s2 ⟨y,H2,I2,ry,a,v,ex,g,q2⟩=>?_)
 subst ex
 obtain rfl:u = Value.ref a:=rx
 exact ⟨yC I2 g,F9 hu I2 g ry λw' s3 I3 rw'=>⟨v,H2,I3,rw',q2⟩⟩
theorem OT (hu:X.A.units + 1 < cLine) (ho:PE X o td) (hi:PE X i ty) (hv:PE X value tv) (hs:swapsWith value (some (.Subscript o i pos')) pos.line X.env = pure false) :
  PS X (.Assign [.Subscript o i pos'] value pos) (Z5 td ty tv):=by
 intro pins s σ H D I h
 refine wpAny_Assign_Subscript (c5 (hv pins s σ H _ I h) λr s1 ⟨v,H1,I1,rv,q1⟩=>c5 (ho pins s1 σ H1 _ I1 q1) λu s2 ⟨x,H2,I2,rx,q2⟩=>c5 (hi pins s2 σ H2 _ I2 q2) λiv s3 ⟨y,H3,I3,ry,a,H4,ex,g,q3⟩=>?_) hs
 subst ex
 obtain rfl:u = Value.ref a:=rx
 exact FA hu I3 g ry rv λs4 I4=>⟨σ,H4,I4,q3⟩
end
theorem yD {P:Program} {w:World} {H:Hp} (h:Heap) (hb:sysModules < h.objs.size):cF P w H (h.push { cls:=.type "dict",data:=.dict #[] }) h.objs.size (.dK []) :=
 ⟨Nat.zero_le _,beq_eq_false_iff_ne.mpr (Ne.symm (Nat.ne_of_lt hb)),[],.nil,Heap.DictOf.new h⟩
def WC:TE:=λ_ H Q=>∀ p,H p = none -> Q (.ref p) (bD H p (.dK []))
section
variable {X:Cx} {pos:Pos}
theorem K1:PE X (.Dict [] [] pos) WC:=λpins s σ H Q I h =>
 wpAny_Dict_empty ⟨.ref s.heap.objs.size,_,I.laid (a:=s.heap.objs.size) (o:=.dK []) (t':=s.toks) (λ_ _ q=>a0e _ q) (Nat.le_refl _) (yD s.heap I.big),rfl,h _ (I.hok.fresh (Nat.le_refl _))⟩
end
section
variable {X:Cx} {pins:List (Addr × Obj)} {σ:St} {H:Hp} {s:Shared} {a:Addr} {y d:V} {u r:Value} {o:Option V} {A:Around} {E:Value -> Shared -> Prop}
theorem S7 {Q:Value -> Shared -> Prop} (hu:A.units + 1 < cLine) (I:Inv X pins σ H s) (g:xP H a y o) (ry:b7 y u) (rd:b7 d r) (h:∀ w' s',Inv X pins σ H s' -> b7 (o.getD d) w' -> Q w' s') :
  wpAny (model X.prog X.w) A (call (.builtin "dict.get") [.ref a,u,r]) Q E s:=by
 rcases g with ⟨kvs,k,e,ey,l⟩ | ⟨kvs,k,b,e,ey,eb,l⟩
 ·subst ey
  obtain ⟨z,hd,vs,rel,dd⟩:=yE I.hok e
  refine call_meetsIn PySem.F.slot_dict_get dd.typeIs PySem.F.entry_dict_get (PySem.F.args_dict_get_3 _ _ _) (meets_dict_get_default (aV X.prog X.w) a (u7 ry) hd r) ⟨_,dd.mapOf,h _ _ (I.tok _) ?_⟩
  rw [l]
  exact (rel.val k).getD rd
 ·subst ey
  cases (show u = Value.ref b from ry)
  obtain ⟨z,hd,xs,rel,dd⟩:=D4 I.hok e
  refine call_meetsIn PySem.F.slot_dict_get dd.typeIs PySem.F.entry_dict_get (PySem.F.args_dict_get_3 _ _ _) (meetsH_dict_get_default (tupleKind (aV X.prog X.w)) a b hd r) ⟨tupleKind_room_in1 hu,k,xs,w4 I.hok eb,dd,h _ _ (I.tok _) ?_⟩
  rw [l]
  exact (rel.val k).getD rd
end
abbrev HD:PV -> Option b9
 | .int i=>some (.inl i)
 | .str s=>some (.inr s)
 | _=>none
def kIn (ks:List b9) (k:b9):Bool:=ks.any λa=>decide (a = k)
def FE (ks:List b9) (k:b9):List b9:=match kIn ks k with
 | true=>ks
 | false=>ks ++ [k]
def AG {α:Type} (ks:List b9) (xs:List α) (k:b9) (v:α):List α:=match kIn ks k with
 | true=>(ks.zip xs).map λp=>if p.1 = k then v else p.2
 | false=>xs ++ [v]
def yB {α:Type} (ks:List b9) (xs:List α) (k:b9):Option α:=((ks.zip xs).find? λp=>decide (p.1 = k)).map (·.2)
theorem QP {α:Type} {ks:List b9} {xs:List α} (h:ks.length = xs.length) (k:b9):((ks.zip xs).any λp=>decide (p.1 = k)) = kIn ks k:=by
 unfold kIn
 induction ks generalizing xs with
 | nil=>rfl
 | cons a ks ih=>cases xs with
  | nil=>cases h
  | cons x xs=>rw [List.zip_cons_cons,List.any_cons,List.any_cons,ih (by simpa using h)]
theorem DX {ks:List b9} {vs:List V} (h:ks.length = vs.length) (k:b9) (v:V):lW (ks.zip vs) k v = (FE ks k).zip (AG ks vs k v):=by
 unfold lW FE AG
 rw [QP h]
 cases kIn ks k with
 | true =>
  rw [if_pos rfl]
  dsimp only
  induction ks generalizing vs with
  | nil=>rfl
  | cons a ks ih=>cases vs with
   | nil=>cases h
   | cons x vs =>
    simp only [List.zip_cons_cons,a0f]
    rw [ih (by simpa using h)]
    congr 1
    split <;> rfl
 | false =>
  rw [if_neg a0k]
  dsimp only
  rw [List.zip_append h];rfl
theorem D3 {α:Type} {ks:List b9} {xs:List α} (h:ks.length = xs.length) (k:b9) (v:α):(FE ks k).length = (AG ks xs k v).length:=by
 unfold FE AG
 split <;> simp [h]
section
variable {G:Addr -> Prop} {H:Hp} {vs:List V} {xs:List PV} {ks:List b9}
theorem Reps.zipMap (r:Reps G H vs xs) (k:b9) {v:V} {x:PV} (rx:Rep G H v x):Reps G H ((ks.zip vs).map λp=>if p.1 = k then v else p.2) ((ks.zip xs).map λp=>if p.1 = k then x else p.2):=by
 refine ⟨by simp [r.len],λi u y e1 e2=>?_⟩
 rw [a0h,Option.map_eq_some_iff] at e1 e2
 obtain ⟨p,hp,rfl⟩:=e1
 obtain ⟨p',hp',rfl⟩:=e2
 rw [List.getElem?_zip_eq_some] at hp hp'
 have e:p.1 = p'.1:=Option.some.inj (hp.1.symm.trans hp'.1)
 rw [e]
 split
 ·exact rx
 ·exact r.at_ i _ _ hp.2 hp'.2
theorem Reps.dput (r:Reps G H vs xs) (k:b9) {v:V} {x:PV} (rx:Rep G H v x):Reps G H (AG ks vs k v) (AG ks xs k x):=by
 unfold AG
 cases kIn ks k with
 | true=>exact r.zipMap k rx
 | false=>exact r.append (.cons rx .nil)
theorem Reps.dget:∀ {ks:List b9} {vs:List V} {xs:List PV},Reps G H vs xs -> ∀ {k:b9} {x:PV},yB ks xs k = some x -> ∃ v,nI (ks.zip vs) k = some v /\ Rep G H v x:=by
 intro ks
 induction ks with
 | nil=>intro vs xs r k x e;cases e
 | cons a ks ih =>
  intro vs xs r k x e
  cases xs with
  | nil=>cases e
  | cons y xs =>
   cases vs with
   | nil=>have:=r.len;cases this
   | cons v vs =>
    unfold yB at e
    rw [List.zip_cons_cons,List.find?_cons] at e
    rw [List.zip_cons_cons]
    by_cases h:a = k
    ·rw [decide_eq_true h] at e
     cases e
     exact ⟨v,nJ (p:=(a,v)) h,r.at_ 0 _ _ rfl rfl⟩
    ·rw [decide_eq_false h] at e
     rw [kM (p:=(a,v)) h]
     refine ih (xs:=xs) ⟨by have:=r.len;simpa using this,λi u z e1 e2=>r.at_ (i + 1) u z (by simpa using e1) (by simpa using e2)⟩ e
end
theorem DE {G S:Addr -> Prop} {H:Hp} {z:PV} {u:V} {k:b9} (e:HD z = some k) (r:Rep G H u z):u = kV k:=by
 cases z with
 | int i=>cases e;exact Rep.ofInt r
 | str x=>cases e;exact RepP.ofStr (S:=λ_=>True) (.inl r)
 | _=>cases e
section
variable {X:Cx} {md lm:List Md} {rm:Md} {o i e:Expr} {pe pj pa pb:aQ} {el:El} {pos p:Pos} {n:Nat}
theorem EE:VE X md (.Dict [] [] pos) (.o .fl) (pC (.dic [] [])):=⟨K1.imp λσ H K=>by
 rintro ⟨env,W0,H0,W,Q,R,q,k⟩
 intro a ha
 exact k.newB R.ok ha (Body.dic (ks:=[]) (vs:=[]) rfl .nil) q⟩
def pDPut (n:Nat) (pe pj:aQ):bE:=λE env=>pe env λy=>match l8 env n with
 | some (some (.dic ks xs))=>pj env λj=>(match HD j with
  | some k=>ks.length < 1000 /\ E.nx (gH env n (some (.dic (FE ks k) (AG ks xs k y))))
  | none=>False)
 | _=>False
theorem qA {j:Expr} (hu:X.A.units + 64 < cLine) (ho:QE X o (dU n)) (hi:md.getD n .no = .o el) (he:VE X md e (.v el) pe) (hj:VE X md j .bw pj)
  (hs:swapsWith e (some (.Subscript o j p)) pos.line X.env = pure false:=by rfl):VS X md md lm rm (.Assign [.Subscript o j p] e pos) (pDPut n pe pj):=⟨(OT (by omega) ho.h hj.h he.h hs).imp λD σ H=>by
 rintro ⟨env,W0,H0,W,E,R,q,l⟩
 refine ⟨env,W0,H0,W,_,R,q,λy v W1 H1 g1 r1 q1=>?_⟩
 have R1:=R.step g1
 rw [j7] at q1
 cases ev:env[n]? with
 | none=>rw [ev] at q1;exact q1.elim
 | some ox =>
  cases ox with
  | none=>rw [ev] at q1;exact q1.elim
  | some x =>
   rw [ev] at q1
   cases x with
   | dic ks xs =>
    obtain ⟨a,ob,sv,oq⟩:=R1.ownAt hi ev
    refine ⟨.ref a,sv,env,W0,H0,W1,_,R1,q1,λjv u W2 H2 g2 r2 q2=>?_⟩
    have R2:=R1.step g2
    obtain ⟨a2,o2,sv2,oq2⟩:=R2.ownAt hi ev
    rw [sv] at sv2;cases sv2
    cases hk:HD jv with
    | none=>rw [hk] at q2;exact q2.elim
    | some k =>
     rw [hk] at q2
     have b:=oq2.its
     have oq3:=oq2
     have hat:=oq2.at_
     generalize o2 = oo at b hat oq3
     cases b with
     | @dic _ us _ hl h =>
      have r1':Rep (el.G W2.F H0) H2 v y:=ResE.go (m:=.v el) r1 g1.ok g2
      have hu:u = kV k:=DE (S:=λ_=>True) hk r2
      subst hu
      obtain ⟨hlt,q2⟩:=q2
      refine ⟨a,_,rfl,HJ.k hat (by rw [List.length_zip,<- hl,Nat.min_self];exact Nat.lt_trans hlt (by decide)),?_⟩
      rw [d9] at q2
      rw [DX hl]
      exact l.nx _ W2 σ _ (R2.put hi ev sv (.dic (D3 hl k v) (h.dput k r1')) rfl) (((g1.trans g2).ex R.ok).trans (wL (K:=X.K) (md:=md) (W0:=W0) (σ:=σ) (env:=env) (i:=n) oq3)) q2
   | _=>exact q1.elim⟩
def d5:P2:=λx y Q=>match x,HD y with
 | .dic ks xs,some k=>(match yB ks xs k with
  | some z=>Q z
  | none=>False)
 | _,_=>False
theorem fO (hu:X.A.units + 64 < cLine) (ha:VE X md o (.p el) pa) (hb:VE X md i .bw pb) (hs:RS i):VE X md (.Subscript o i pos) (.v el) (pOp d5 pa pb) :=
 ⟨(ON (by omega) ha.h hb.h hs).imp λσ H K=>by
  rintro ⟨env,W0,H0,W,Q,R,q,k⟩
  refine ⟨env,W0,H0,W,_,R,q,λx v W1 H1 g1 r1 q1=>⟨env,W0,H0,W1,_,R.step g1,q1,λy u W2 H2 g2 r2 q2=>?_⟩⟩
  have k2:=k.after (g1.trans g2)
  have r1':RepP (el.G W2.F H0) W2.S H2 v x:=ResE.go (m:=.p el) r1 g1.ok g2
  unfold d5 at q2
  cases x with
  | dic ks xs =>
   cases hk:HD y with
   | none=>rw [hk] at q2;exact q2.elim
   | some kk =>
    rw [hk] at q2
    dsimp only at q2
    cases hg:yB ks xs kk with
    | none=>rw [hg] at q2;exact q2.elim
    | some z =>
     rw [hg] at q2
     obtain ⟨a,vs,rfl,e,hl,rs⟩:=r1'.ofDic
     have hu:u = kV kk:=DE (S:=λ_=>True) hk r2
     subst hu
     obtain ⟨w,e1,e2⟩:=rs.dget hg
     exact ⟨a,w,rfl,by have:=xP.k (k:=kk) e;rw [e1] at this;exact this,k2.val g2.ok e2 q2⟩
  | _=>cases hk:HD y <;> (rw [hk] at q2;exact q2.elim)⟩
end
def qT:List b9 -> Option (List Int)
 | []=>some []
 | .inl i :: ks=>(qT ks).map (i :: ·)
 | .inr _ :: _=>none
theorem yO:∀ {ks:List b9} {ns:List Int},qT ks = some ns -> ks = ns.map Sum.inl
 | [],ns,h=>by cases h;rfl
 | .inl i :: ks,ns,h=>by
  unfold qT at h
  rw [Option.map_eq_some_iff] at h
  obtain ⟨ms,h1,rfl⟩:=h
  rw [yO h1];rfl
theorem FT (ns:List Int):qT (ns.map Sum.inl) = some ns:=by
 induction ns with
 | nil=>rfl
 | cons n ns ih=>rw [a0f,qT,ih];rfl
section
variable {prog:Program} {w:World} {A:Around} {E:Value -> Shared -> Prop} {s:Shared} {a:Addr}
theorem vU {vs:List (b9 × Value)} {Q:List Value -> Shared -> Prop} (hh:A.handled = none) (lo:(a == sysModules) = false) (dd:s.heap.DictOf (aV prog w) a vs) (hz:vs.length <= sizeLine)
  (k:∀ (g:Heap) (t:Nat) (us:Array Value),(∀ b o,s.heap.get? b = some o -> g.get? b = some o) -> s.heap.objs.size < g.objs.size -> ItemsOf (λi v=>∃ k x,vs[i]? = some (k,x) /\ (aV prog w).is k v = true) us vs.length -> Q us.toList { s with heap:=g,toks:=t }) :
  wpAny (model prog w) A (collect (.ref a)) Q E s:=by
 obtain ⟨ep,hat⟩:=dd.dictAt
 have S0:=PySem.W.kdl_dict (prog:=prog) (w:=w) (d:=a) (knd:=aV prog w) (kvs:=vs) (ep:=ep) lo
 have there:=(S0.there _ hat).1
 unfold collect
 refine a0a (wpAny_runValue (codeAny_builtin F.entry_proto_collect ?_))
 rw [Around.under_plainId F.plain_proto_collect _]
 show wpAny _ A.in1 (newList [] >>= λq=>again (.builtin "list.__iadd__" ⟨[q,.ref a],[]⟩)) _ _ s
 refine a0a (wpAny_newObj_type (a0d ⟨plainId_quiet F.plain_list_iadd _,codeAny_builtin F.entry_list_iadd ?_⟩))
 rw [Around.under_plainId F.plain_list_iadd _]
 generalize hg0:s.heap.push { cls:=.type "list",data:=.seq ([]:List Value).toArray } = g0
 have at0:g0.get? s.heap.objs.size = some { cls:=.type "list",data:=.seq #[] }:=by rw [<- hg0];exact Heap.get?_push_size _ rfl
 have kp0:∀ b o,s.heap.get? b = some o -> g0.get? b = some o:=λb o e=>by rw [<- hg0];exact a0e _ e
 have fin:=PySem.W.kdl_extend (A:=A) (s:={ s with heap:=g0 }) (R:=λq s'=>∃ g t us c,q = .ok (.ret (.ref s.heap.objs.size)) /\ s' = { s with heap:=g,toks:=t } /\ (∀ b o,s.heap.get? b = some o -> g.get? b = some o) /\
   g.get? s.heap.objs.size = some { cls:=.type "list",dict:=none,data:=.seq us c,slots:=#[] } /\ ItemsOf (λi v=>∃ k x,vs[i]? = some (k,x) /\ (aV prog w).is k v = true) us vs.length)
  S0 hh (S0.keep _ _ hat λb _ o e=>kp0 b o e) s.heap.objs.size (Nat.ne_of_gt there) (Nat.ne_of_gt there) (.ref s.heap.objs.size) 0 at0
  (λg t us c kp ag it=>⟨g,t,us,c,rfl,rfl,λb o e=>kp b o (Nat.ne_of_lt (a0n e)) (kp0 b o e),ag,it⟩) hz
 refine wpAny_mono fin (λf s2 x=>?_) λe s2 x=>?_
 ·cases f with
  | done f =>
   obtain ⟨g,t,us,c,e,rfl,kp,ag,it⟩:=x
   cases e
   show wpAny _ A (load s.heap.objs.size >>= _) _ _ _
   exact a0a (wpAny_load ag (a0d (k g t us kp (a0n ag) it)))
  | again c1 =>
   refine ⟨x.1,codeAny_mono x.2 λq s3 y=>?_⟩
   obtain ⟨g,t,us,c,rfl,rfl,kp,ag,it⟩:=y
   show wpAny _ A (load s.heap.objs.size >>= _) _ _ _
   exact a0a (wpAny_load ag (a0d (k g t us kp (a0n ag) it)))
 ·obtain ⟨_,_,_,_,z,_⟩:=x
  cases z
theorem A0 {vs:List (b9 × Value)} {ns:List Int} {Q:Value -> Shared -> Prop} (hh:A.handled = none) (lo:(a == sysModules) = false) (dd:s.heap.DictOf (aV prog w) a vs) (hns:vs.map (·.1) = ns.map Sum.inl) (h64:ns.length < 64)
  (h:∀ (out:Array Value) (ms:List Int) (l:Addr) (m:Nat) (s':Shared),s'.gens = s.gens -> s'.os = s.os -> (∀ b o,s.heap.get? b = some o -> s'.heap.get? b = some o) -> s.heap.objs.size <= l -> s'.heap.get? l = some { cls:=.type "list",data:=.seq out m } -> IntsAre out.toList ms -> ms.Perm ns -> ms.Pairwise (· <= ·) -> Q (.ref l) s') :
  wpAny (model prog w) A (call (.builtin "sorted") [.ref a]) Q E s:=by
 have hvl:vs.length = ns.length:=by have:=congrArg List.length hns;simpa using this
 refine Calls.call_function_entry kind_sorted plain_sorted entry_sorted (args_sorted1 _) ?_
 unfold Builtin.«sorted»
 refine a0a (m:=checkCount "sorted" 1 1 _) (a0d ?_)
 refine a0a (vU (A:=A.in1) hh lo dd (by rw [hvl];exact Nat.le_trans (Nat.le_of_lt h64) (by decide)) λh1 tk acc hk hlt hacc=>?_)
 have hal:acc.toList.length = ns.length:=by rw [a0l,hacc.1,hvl]
 have hI:IntsAre acc.toList ns:=by
  have go:∀ (us:List Value) (ms:List Int),us.length = ms.length -> (∀ (j:Nat) (u:Value),us[j]? = some u -> ∃ i t,ms[j]? = some i /\ u = .int i t) -> IntsAre us ms:=by
   intro us
   induction us with
   | nil=>intro ms hl _;cases ms with
    | nil=>exact .nil
    | cons m ms=>cases hl
   | cons u us ih=>intro ms hl hh;cases ms with
    | nil=>cases hl
    | cons m ms =>
     obtain ⟨i,t,e,rfl⟩:=hh 0 u rfl
     cases e
     exact .cons m t (ih ms (by simpa using hl) λj u hj=>by simpa using hh (j + 1) u (by simpa using hj))
  refine go _ _ hal λj u hj=>?_
  obtain ⟨k,x,hx,hkk⟩:=hacc.2 j u (by rw [<- Array.getElem?_toList];exact hj)
  have e1:(vs.map (·.1))[j]? = some k:=by rw [a0h,hx];rfl
  rw [hns,a0h,Option.map_eq_some_iff] at e1
  obtain ⟨i,hi,rfl⟩:=e1
  obtain ⟨t,rfl⟩ : ∃ t,u = .int i t:=bW (prog:=prog) (w:=w) hkk
  exact ⟨i,t,hi,rfl⟩
 refine a0a (wpAny_newObj_type ?_ ?_)
 ·have hoL:(h1.push (seqObj "list" acc.toList.toArray 0)).get? h1.objs.size = some (seqObj "list" acc.toList.toArray 0):=Heap.get?_push_size _ rfl
  refine a0a (wpAny_holding (wpAny_call_entry slot_list_sort ⟨_,hoL,rfl⟩ entry_list_sort (list_sort_tree hoL hI (by omega) λout ns' a1 a2 a3=>⟨_,rfl,?_⟩) (args_list_sort _)))
  have e1:=Heap.get?_update_self (Obj.mapSeq λ_=>#[]) hoL rfl
  have e2:=a0e (seqObj "list" #[] 0) (a0e (seqObj "tuple" acc.toList.toArray 0) e1)
  have e3:=Heap.get?_update_self (Obj.mapSeq λ_=>out) e2 rfl
  refine a0d ⟨_,rfl,h out ns' h1.objs.size _ _ rfl rfl (λb o e=>?_) (Nat.le_of_lt hlt) (e3.trans rfl) a1 a2 a3⟩
  have hb:b ≠ h1.objs.size:=Nat.ne_of_lt (a0n (hk b o e))
  unfold sortedHeap
  refine (Heap.get?_update_other _ _ (Ne.symm hb)).trans (a0e _ (a0e _ ((Heap.get?_update_other _ _ (Ne.symm hb)).trans (a0e _ (hk b o e)))))
 ·show acc.toList.toArray.size <= sizeLine
  rw [List.size_toArray,hal];exact Nat.le_trans (Nat.le_of_lt h64) (by decide)
end
section
variable {X:Cx}
def sA:List V -> Hp -> VK -> Prop:=λxs H Q=>∃ (a:Addr) (ns:List Int) (vs:List V),xs = [.ref a] /\ Rd H a (.dK ((ns.map Sum.inl).zip vs)) /\ ns.length = vs.length /\ ns.length < 64 /\
 ∀ (l:Addr) (ms:List Int),H l = none -> ms.Perm ns -> ms.Pairwise (· <= ·) -> Q (.ref l) (bD H l (.lst (List.map V.int ms)))
theorem F1 (hc:X.calm = true):dD X (.builtin "sorted") sA:=by
 intro pins s σ H xs us Q I r h
 obtain ⟨a,ns,vs,rfl,hp,hl,h64,q⟩:=h
 obtain ⟨u,rfl,ru⟩:=gV r
 cases ru
 obtain ⟨z,hd,ws,rel,dd⟩:=yE I.hok hp
 have hw:ws.map (·.1) = ns.map Sum.inl:=by
  have:((ns.map Sum.inl).zip vs).map (·.1) = ws.map (·.1):=by
   clear dd
   unfold KV at rel
   generalize ((ns.map Sum.inl).zip vs:List (b9 × V)) = kvs at rel
   induction rel with
   | nil=>rfl
   | cons h t ih=>rw [a0f,a0f,ih,h.1]
  rw [<- this]
  exact List.map_fst_zip (by rw [a0c];omega)
 refine A0 (I.ok.hd hc) hd dd hw h64 λout ms l m s' g1 g2 g4 g5 g6 hI hp hs=>?_
 refine ⟨.ref l,bD H l (.lst (List.map V.int ms)),I.laidS g2 g1 g4 g5 ⟨?_,out.toList,m,l4 hI,by simpa using g6⟩,rfl,q l ms (I.hok.fresh g5) hp hs⟩
 rw [a0c,hp.length_eq]
 exact Nat.le_trans (Nat.le_of_lt h64) (by decide)
theorem lX (hc:X.calm = true):QC X (.builtin "sorted") sA:=⟨F1 hc⟩
def gF:PN:=λxs Q=>match xs with
 | [.dic ks _]=>(match qT ks with
  | some ns=>ns.length < 64 /\ Q (.lst ((gA ns).map PV.int))
  | none=>False)
 | _=>False
theorem kL {el:El}:SimC sA [.p el] (.o .fl) gF:=⟨λB H0 W H vs xs Q K w r q k=>by
 obtain ⟨v,x,rfl,rfl,r1⟩:=r.one
 unfold gF at q
 cases x with
 | dic ks ys =>
  dsimp only at q
  cases h:qT ks with
  | none=>rw [h] at q;exact q.elim
  | some ns =>
   rw [h] at q
   have hks:=yO h
   subst hks
   have r2:RepP (el.G W.F B) W.S H v (.dic (ns.map Sum.inl) ys):=r1
   obtain ⟨a,us,rfl,e,hl,rs⟩:=r2.ofDic
   refine ⟨a,ns,us,rfl,.inl e,by rw [<- hl,a0c],q.1,λl ms hl hp hs=>?_⟩
   have:ms = gA ns:=lH (hp.trans (bF ns).symm) hs (j3 ns)
   subst this
   exact k.newL w hl (kZ _) q.2
 | _=>exact q.elim⟩
end
section
variable {X:Cx}
def KZ:List V -> Hp -> VK -> Prop:=λxs H Q=>∃ p ns,xs = [.ref p] /\ H p = some (.lst (List.map V.int ns)) /\ 0 < ns.length /\ ∀ M ∈ ns,(∀ a ∈ ns,a <= M) -> Q (.int M) H
def L1:List V -> Hp -> VK -> Prop:=λxs H Q=>∃ p ns,xs = [.ref p] /\ H p = some (.lst (List.map V.int ns)) /\ 0 < ns.length /\ ∀ M ∈ ns,(∀ a ∈ ns,M <= a) -> Q (.int M) H
theorem wB {ys:Array (Int × Tok)} {ns:List Int} (h:numsOf (intItems ys).toList = ns):ns = ys.toList.map (·.1):=by rw [<- h,nums_intItems]
theorem RZ (hc:X.calm = true):dD X (.builtin "max") KZ:=by
 intro pins s σ H xs us Q I r h
 obtain ⟨p,ns,rfl,hp,hne,q⟩:=h
 obtain ⟨u,rfl,ru⟩:=gV r
 cases ru
 obtain ⟨_,its,n,v,l,g⟩:=I.lstM hp
 have hi:IntsAre its ns:=g9 v
 have hl:s.heap.IsList p its.toArray:=⟨_,g,rfl,n,rfl⟩
 obtain ⟨ys,ey⟩:=hi.allInts.items
 rw [ey] at hl
 have e3:numsOf its.toArray.toList = ns:=hi.numsOf
 rw [ey] at e3
 have e4:=wB e3
 have hsz:ys.size = ns.length:=by rw [e4,a0c,a0l]
 refine max_intList (I.ok.hd hc) hl (by omega) λv h' tk hv hk=>?_
 obtain ⟨t,rfl⟩:=intItems_at hv
 obtain ⟨h1,h2⟩:=argBest_gt (numAt ys) (ys.size - 1)
 refine ⟨.int _,H,I.kept hk,⟨t,rfl⟩,q _ ?_ λa ha=>?_⟩
 ·rw [numAt_eq,e4];exact getD_mem (by rw [a0c,a0l];omega)
 ·rw [e4] at ha
  obtain ⟨j,hj,rfl⟩:=mem_getD ha
  rw [a0c,a0l] at hj
  rw [<- numAt_eq];exact h2 j (by omega)
theorem S1 (hc:X.calm = true):dD X (.builtin "min") L1:=by
 intro pins s σ H xs us Q I r h
 obtain ⟨p,ns,rfl,hp,hne,q⟩:=h
 obtain ⟨u,rfl,ru⟩:=gV r
 cases ru
 obtain ⟨_,its,n,v,l,g⟩:=I.lstM hp
 have hi:IntsAre its ns:=g9 v
 have hl:s.heap.IsList p its.toArray:=⟨_,g,rfl,n,rfl⟩
 obtain ⟨ys,ey⟩:=hi.allInts.items
 rw [ey] at hl
 have e3:numsOf its.toArray.toList = ns:=hi.numsOf
 rw [ey] at e3
 have e4:=wB e3
 have hsz:ys.size = ns.length:=by rw [e4,a0c,a0l]
 refine min_intList (I.ok.hd hc) hl (by omega) λv h' tk hv hk=>?_
 obtain ⟨t,rfl⟩:=intItems_at hv
 obtain ⟨h1,h2⟩:=argBest_lt (numAt ys) (ys.size - 1)
 refine ⟨.int _,H,I.kept hk,⟨t,rfl⟩,q _ ?_ λa ha=>?_⟩
 ·rw [numAt_eq,e4];exact getD_mem (by rw [a0c,a0l];omega)
 ·rw [e4] at ha
  obtain ⟨j,hj,rfl⟩:=mem_getD ha
  rw [a0c,a0l] at hj
  rw [<- numAt_eq];exact h2 j (by omega)
theorem OZ (hc:X.calm = true):QC X (.builtin "max") KZ:=⟨RZ hc⟩
theorem P0 (hc:X.calm = true):QC X (.builtin "min") L1:=⟨S1 hc⟩
end
def zB:PN:=λxs Q=>match xs with
 | [.lst ys]=>(match PV.ints ys with
  | some ns=>0 < ns.length /\ ∀ M ∈ ns,(∀ a ∈ ns,a <= M) -> Q (.int M)
  | none=>False)
 | _=>False
def zC:PN:=λxs Q=>match xs with
 | [.lst ys]=>(match PV.ints ys with
  | some ns=>0 < ns.length /\ ∀ M ∈ ns,(∀ a ∈ ns,M <= a) -> Q (.int M)
  | none=>False)
 | _=>False
theorem OJ {ns:List Int} {Q:PV -> Prop} (hl:0 < ns.length) (q:∀ M ∈ ns,(∀ a ∈ ns,a <= M) -> Q (.int M)):zB [.lst (ns.map PV.int)] Q:=by unfold zB;simp only [PV.ints_map];exact ⟨hl,q⟩
theorem OK {ns:List Int} {Q:PV -> Prop} (hl:0 < ns.length) (q:∀ M ∈ ns,(∀ a ∈ ns,M <= a) -> Q (.int M)):zC [.lst (ns.map PV.int)] Q:=by unfold zC;simp only [PV.ints_map];exact ⟨hl,q⟩
theorem LC:SimC KZ [.bw] (.v .fl) zB:=⟨λB H0 W H vs xs Q K w r q k=>by
 obtain ⟨v,x,rfl,rfl,r1⟩:=r.one
 clear r
 have r:=r1
 unfold zB at q
 cases x with
 | lst ys =>
  dsimp only at q
  cases h:PV.ints ys with
  | none=>rw [h] at q;exact q.elim
  | some ns =>
   rw [h] at q
   rw [PV.ints_of h] at r
   obtain ⟨a,vs,rfl,_,e,rs⟩:=Rep.ofList r
   rw [rs.ints] at e
   exact ⟨a,ns,rfl,e,q.1,λM hM ht=>k.atom w (.int _) (q.2 M hM ht)⟩
 | _=>exact q.elim⟩
theorem LD:SimC L1 [.bw] (.v .fl) zC:=⟨λB H0 W H vs xs Q K w r q k=>by
 obtain ⟨v,x,rfl,rfl,r1⟩:=r.one
 clear r
 have r:=r1
 unfold zC at q
 cases x with
 | lst ys =>
  dsimp only at q
  cases h:PV.ints ys with
  | none=>rw [h] at q;exact q.elim
  | some ns =>
   rw [h] at q
   rw [PV.ints_of h] at r
   obtain ⟨a,vs,rfl,_,e,rs⟩:=Rep.ofList r
   rw [rs.ints] at e
   exact ⟨a,ns,rfl,e,q.1,λM hM ht=>k.atom w (.int _) (q.2 M hM ht)⟩
 | _=>exact q.elim⟩
theorem Inv.turnedF {X:Cx} {pins:List (Addr × Obj)} {σ:St} {H:Hp} {s:Shared} {h':Heap} {t':Nat} {fp:List Addr} (I:Inv X pins σ H s) (hf:∀ b ∈ fp,hV X pins H b) (k:∀ b u,b ∉ fp -> s.heap.get? b = some u -> h'.get? b = some u) :
  Inv X pins σ H { s with heap:=h',toks:=t' }:=by
 have nf:∀ b u,H b = some u -> b ∉ fp:=λb u e z=>by rw [(hf b z).1] at e;cases e
 refine I.step (g':=s.gens) (d':=s.drawn) (ch:=fp) (λb hb=>?_) (λb o _ _ hc e _=>k b o hc e) (λb o _ _ hc e _=>⟨o.slots,k b o hc e⟩) (λb u _ e n=>n)
  (λb o hc e=>⟨o,k b o hc e⟩) (λb _ e=>e) (λb _ _ e=>e) (λb e=>e) (λm hm=>?_) (λb u e=>?_) I.bare
 ·obtain ⟨f0,f1,f2,f3,f4,f5⟩:=hf b hb
  exact ⟨f3,f1,f4,f5⟩
 ·obtain ⟨o,es,ep,ho,r⟩:=hm
  exact ⟨o,es,ep,k _ o (λz=>(hf _ z).2.1 rfl) ho,r⟩
 ·refine (I.hok b u e).stay (λc v hc q=>k c v ?_ q) (λ_ q=>q) λ_ _ q=>q
  rcases hc with z | z
  ·rw [z];exact nf b u e
  ·exact nf c _ z
def a01 (K:PySem.W.Frag) (a b:Addr):It :=
  ⟨fun i H => ∃ xs ys x y, cT K H a xs ∧ cT K H b ys ∧ xs[i]? = some x ∧ ys[i]? = some y,
   λi H v H'=>∃ t x y,H t = none /\ v = .ref t /\ H' = bD H t (.tup [x,y]) /\ (∀ xs,cT K H a xs -> xs[i]? = some x) /\ ∀ ys,cT K H b ys -> ys[i]? = some y,
   λi H=>∃ xs ys,cT K H a xs /\ cT K H b ys /\ (xs.length <= i \/ ys.length <= i)⟩
structure ZAp (z TI TO i1 i2:Addr):Prop where
 TIz:TI ≠ z
 TOz:TO ≠ z
 i1z:i1 ≠ z
 i2z:i2 ≠ z
 TITO:TI ≠ TO
 TIi1:TI ≠ i1
 TIi2:TI ≠ i2
 TOi1:TO ≠ i1
 TOi2:TO ≠ i2
 i12:i1 ≠ i2
def a1A (z TI TO i1 i2 a b:Addr) (i:Nat) (h:Heap):Prop:=IsZip h z TI TO .none /\ IsPair h TI (.ref i1) (.ref i2) /\ (∃ x y,IsPair h TO x y) /\ h.IsListIter i1 a i /\ h.IsListIter i2 b i
theorem gR {h:Heap} {a c:Addr} {xs:Array Value} {o:Obj} (hl:h.IsList a xs) (e:h.get? c = some o) (hc:o.cls ≠ .type "list"):a ≠ c:=by
 rintro rfl
 obtain ⟨o',e',c',_⟩:=hl
 rw [e] at e';cases e'
 exact hc c'
theorem ZAp.full {z TI TO i1 i2 a b:Addr} (D:ZAp z TI TO i1 i2) {h:Heap} {i:Nat} (st:a1A z TI TO i1 i2 a b i h) {xs ys:Array Value} (ha:h.IsList a xs) (hb:h.IsList b ys):ZipApart z TI TO i1 i2 a b:=by
 obtain ⟨hz,hTI,⟨x,y,hTO⟩,⟨o1,e1,c1,d1⟩,⟨o2,e2,c2,d2⟩⟩:=st
 have nl:∀ {o:Obj},o.cls = .type "list_iterator" -> o.cls ≠ .type "list" := λe z=>by rw [e] at z;exact absurd z (by decide)
 exact ⟨D.TIz,D.TOz,D.i1z,D.i2z,D.TITO,D.TIi1,D.TIi2,D.TOi1,D.TOi2,D.i12,gR ha hz (show (Value.type "zip") ≠ .type "list" by decide),gR ha hTO (show (Value.type "tuple") ≠ .type "list" by decide),gR ha e1 (nl c1),gR ha e2 (nl c2),
  gR hb hz (show (Value.type "zip") ≠ .type "list" by decide),gR hb hTO (show (Value.type "tuple") ≠ .type "list" by decide),gR hb e1 (nl c1),gR hb e2 (nl c2)⟩
theorem LQ {P:Program} {w:World} {K:PySem.W.Frag} {elts:List Expr} {x1} {pos:Pos} (a b z TI TO i1 i2:Addr) (D:ZAp z TI TO i1 i2) :
  Turn P w K (.Tuple elts x1 pos) (a01 K a b) [z,TI,TO,i1,i2] z (a1A z TI TO i1 i2 a b) where
 mem:=by simp
 obj:=λi h st c hc=>by
  obtain ⟨hz,hTI,⟨x,y,hTO⟩,⟨o1,e1,c1,d1⟩,⟨o2,e2,c2,d2⟩⟩:=st
  simp only [List.mem_cons,List.not_mem_nil,or_false] at hc
  rcases hc with rfl | rfl | rfl | rfl | rfl
  ·exact ⟨_,hz,λv q=>by cases q⟩
  ·exact ⟨_,hTI,λv q=>by cases q⟩
  ·exact ⟨_,hTO,λv q=>by cases q⟩
  ·exact ⟨_,e1,λv q=>by rw [d1] at q;cases q⟩
  ·exact ⟨_,e2,λv q=>by rw [d2] at q;cases q⟩
 keep:=λi h h' st k=>by
  obtain ⟨hz,hTI,⟨x,y,hTO⟩,h1,h2⟩:=st
  exact ⟨k z (by simp) _ hz,k TI (by simp) _ hTI,⟨x,y,k TO (by simp) _ hTO⟩,h1.at λo e=>k i1 (by simp) o e,h2.at λo e=>k i2 (by simp) o e⟩
 item:=by
  intro X hP hw hK hc i pins s σ H E I hf st hg
  subst hP hw hK
  obtain ⟨xs,ys,x,y,hq,hq2,hx,hy⟩:=hg
  obtain ⟨its,rv,p,hz0⟩:=I.list hq
  obtain ⟨its2,rv2,p2,hz2⟩:=I.list hq2
  obtain ⟨u,hu,ru⟩:=rv.get hx
  obtain ⟨u2,hu2,ru2⟩:=rv2.get hy
  have DD:=D.full st p.isList p2.isList
  have st0:=st
  obtain ⟨hz,hTI,⟨va,vb,hTO⟩,h1,h2⟩:=st
  refine wpAny_pyNext_zip_item DD hz hTI hTO h1 h2 p.isList p2.isList (x:=u) (y:=u2) (by simpa using hu) (by simpa using hu2) λh' a1 a2 a3 a4 a5 a6 hk=>?_
  refine ⟨.ref s.heap.objs.size,rfl,wpAny_letOwnedTupleGo_zip (s:={ s with heap:=h' }) a1 λh'' b1 sb=>?_⟩
  have hfr:H s.heap.objs.size = none:=I.hok.fresh (Nat.le_refl _)
  have lt:∀ c ∈ [z,TI,TO,i1,i2],c < s.heap.objs.size:=λc hc=>by
   obtain ⟨_,_,_,⟨o1,e1,_⟩,⟨o2,e2,_⟩⟩:=st0
   simp only [List.mem_cons,List.not_mem_nil,or_false] at hc
   rcases hc with rfl | rfl | rfl | rfl | rfl
   ·exact a0n hz
   ·exact a0n hTI
   ·exact a0n hTO
   ·exact a0n e1
   ·exact a0n e2
  have nz:s.heap.objs.size ≠ z:=Nat.ne_of_gt (lt z (by simp))
  have hf2:∀ c ∈ [z,TI,TO,i1,i2],(bD H s.heap.objs.size (.tup [x,y])) c = none:=λc hc=>by
   rw [aE (Nat.ne_of_lt (lt c hc))];exact (hf c hc).1
  refine ⟨.ref s.heap.objs.size,bD H s.heap.objs.size (.tup [x,y]),I.turnL (t':=s.toks) hf (λc v hc q=>?_) (Nat.le_refl _) ?_,rfl,⟨_,x,y,hfr,rfl,rfl,λzs hz=>by rw [I.list_inj hz hq];exact hx,λzs hz=>by rw [I.list_inj hz hq2];exact hy⟩,?_,hf2⟩
  ·simp only [List.mem_cons,List.not_mem_nil,or_false,not_or] at hc
   exact (sb.2 c hc.1).trans (hk c v hc.1 hc.2.2.1 hc.2.2.2.1 hc.2.2.2.2 q)
  ·exact ⟨(by decide:2 <= sizeLine),[u,u2],.cons ru (.cons ru2 .nil),_,(sb.2 _ nz).trans a5,rfl,_,rfl⟩
  ·refine ⟨b1,(sb.2 _ D.TIz).trans (hk TI _ D.TIz D.TITO D.TIi1 D.TIi2 hTI),⟨_,_,(sb.2 _ D.TOz).trans a2⟩,a3.at λo q=>(sb.2 _ D.i1z).trans q,a4.at λo q=>(sb.2 _ D.i2z).trans q⟩
 done:=by
  intro X hP hw hK hc i pins s σ H E I hf st hg
  subst hP hw hK
  obtain ⟨xs,ys,hq,hq2,hx⟩:=hg
  obtain ⟨its,rv,p,hz0⟩:=I.list hq
  obtain ⟨its2,rv2,p2,hz2⟩:=I.list hq2
  have DD:=D.full st p.isList p2.isList
  obtain ⟨hz,hTI,⟨va,vb,hTO⟩,h1,h2⟩:=st
  have l1:=rv.length
  have l2:=rv2.length
  have he:its.toArray[i]? = none \/ its2.toArray[i]? = none:=by
   rcases hx with z | z
   ·exact .inl (by simp;omega)
   ·exact .inr (by simp;omega)
  refine wpAny_pyNext_zip_end (I.ok.hd hc) DD hz hTI hTO h1 h2 p.isList p2.isList he λh' hk=>⟨rfl,?_⟩
  exact I.turnedF (t':=s.toks) hf λc v hc q=>by
   simp only [List.mem_cons,List.not_mem_nil,or_false,not_or] at hc
   exact hk c v hc.1 hc.2.2.1 hc.2.2.2.1 hc.2.2.2.2 q
 self:=λ_ _ _ _ _ st h=>wpAny_pyIter_zip st.1 h
def a0G (K:PySem.W.Frag) (ta:TA):TI:=λσ H R=>ta σ H λvs H1=>∃ a b,vs = [.ref a,.ref b] /\ (∃ xs,cT K H1 a xs) /\ (∃ ys,cT K H1 b ys) /\ R (a01 K a b) H1
theorem HX:bootBuiltins "zip" = some (.type "zip"):=by rfl
theorem V3 {X:Cx} {a b:Expr} {ta:TA} {elts:List Expr} {x1} {tpos p pos:Pos} (hg:Gl X "zip") (hm:X.mg "zip" = none) (ha:PA X [a,b] ta) (hs:starEach [a,b] X.env = [(false,eval a X.env),(false,eval b X.env)]) (hs1:starEach [b] X.env = [(false,eval b X.env)]) :
  PI X (.Tuple elts x1 tpos) (.Call (.Name "zip" p) [a,b] [] pos) (a0G X.K ta):=by
 intro pins s σ H R I h
 refine Call_ (o7 I hg hm HX (PyProof.Rows.callWith_type1 (c5 (ha pos pins s σ H _ I h) λus s1 ⟨vs,H1,I1,r1,q1⟩=>?_) (hs.trans (by rw [hs1])) (by rw [hs1];rfl)))
 obtain ⟨l,l2,e,⟨xs,hq⟩,⟨ys,hq2⟩,q⟩:=q1
 subst e
 cases r1 with
 | cons r rr =>
  cases rr with
  | cons r2 rr =>
   cases rr
   cases r
   cases r2
   obtain ⟨its,rv,p,hz⟩:=I1.list hq
   obtain ⟨its2,rv2,p2,hz2⟩:=I1.list hq2
   refine call_zip_2 p.isList p2.isList λh' z1 z2 z3 z4 z5 z6 hk=>?_
   refine wpAny_pyIter_zip z1 ?_
   have I2:Inv X pins σ H1 { s1 with heap:=h' }:=I1.kept (t':=s1.toks) hk
   have D:ZAp (s1.heap.objs.size + 4) (s1.heap.objs.size + 2) (s1.heap.objs.size + 3) s1.heap.objs.size (s1.heap.objs.size + 1):=by
    have n:∀ {x y:Nat},x < y \/ y < x -> x ≠ y:=λh=>by omega
    exact ⟨n (by omega),n (by omega),n (by omega),n (by omega),n (by omega),n (by omega),n (by omega),n (by omega),n (by omega),n (by omega)⟩
   refine ⟨s1.heap.objs.size + 4,[s1.heap.objs.size + 4,s1.heap.objs.size + 2,s1.heap.objs.size + 3,s1.heap.objs.size,s1.heap.objs.size + 1],_,_,H1,rfl,I2,LQ l l2 _ _ _ _ _ D,⟨z1,z2,⟨_,_,z3⟩,z4,z5⟩,λb hb=>?_,q⟩
   have hb':s1.heap.objs.size <= b:=by
    simp only [List.mem_cons,List.not_mem_nil,or_false] at hb
    rcases hb with rfl | rfl | rfl | rfl | rfl <;> omega
   exact I1.fpOk hb' (I1.hok.fresh hb')
def tJ (xs ys:List PV):List PV:=(xs.zip ys).map λz=>.tup [z.1,z.2]
theorem iL (xs ys:List PV):(tJ xs ys).length = min xs.length ys.length:=by simp [tJ]
theorem xM {xs ys:List PV} {i:Nat} {z:PV}:(tJ xs ys)[i]? = some z ↔ ∃ x y,xs[i]? = some x /\ ys[i]? = some y /\ z = .tup [x,y]:=by
 rw [tJ,a0h,Option.map_eq_some_iff]
 constructor
 ·rintro ⟨⟨x,y⟩,h,rfl⟩
  have:=List.getElem?_zip_eq_some.mp h
  exact ⟨x,y,this.1,this.2,rfl⟩
 ·rintro ⟨x,y,h1,h2,rfl⟩
  exact ⟨(x,y),List.getElem?_zip_eq_some.mpr ⟨h1,h2⟩,rfl⟩
def piZip (a b:aQ):lA:=λenv Q=>a env λx=>b env λy=>match x,y with
 | .lst xs,.lst ys=>Q (tJ xs ys)
 | _,_=>False
section
variable {X:Cx} {md:List Md} {el:El} {a b e tg:Expr} {pa pb pe:aQ} {p pos:Pos}
theorem PR {K:PySem.W.Frag} {B:Hp} {W:Wd} {H:Hp} {l l2:Addr} {vs vs2:List V} {xs ys:List PV} (hF:W.F l) (e:H l = some (.lst vs)) (r:Reps (el.G W.F B) H vs xs) (hF2:W.F l2) (e2:H l2 = some (.lst vs2)) (r2:Reps (el.G W.F B) H vs2 ys):Src (a01 K l l2) el B W H (tJ xs ys) where
 go:=λi W2 H2 x hi=>by
  rw [iL] at hi
  exact ⟨vs,vs2,vs[i]'(by rw [r.len];omega),vs2[i]'(by rw [r2.len];omega),cT.of (x.kp l _ hF e),cT.of (x.kp l2 _ hF2 e2),a0b _,a0b _⟩
 stop:=λW2 H2 x=>⟨vs,vs2,cT.of (x.kp l _ hF e),cT.of (x.kp l2 _ hF2 e2),by rw [r.len,r2.len,iL];omega⟩
 yld:=λi W2 H2 v H3 x w hi y=>by
  obtain ⟨t,u,u2,ht,rfl,rfl,y,y2⟩:=y
  have h1:=y vs (cT.of (x.kp l _ hF e))
  have h2:=y2 vs2 (cT.of (x.kp l2 _ hF2 e2))
  obtain ⟨z,ez,rz⟩:=r.getV h1
  obtain ⟨z2,ez2,rz2⟩:=r2.getV h2
  have g:Go W2 H2 W2 (bD H2 t (.tup [u,u2])):=Go.laid w ht
  have q1:=g.rep w (G':=el.G W2.F B) (λ_ h=>El.nS w h) (λ_ h=>h) (x.rep (G':=el.G W2.F B) (λ_ g=>El.GF g) (λ_ g=>El.up x.lF (λ_ h=>h) g) rz)
  have q2:=g.rep w (G':=el.G W2.F B) (λ_ h=>El.nS w h) (λ_ h=>h) (x.rep (G':=el.G W2.F B) (λ_ g=>El.GF g) (λ_ g=>El.up x.lF (λ_ h=>h) g) rz2)
  refine ⟨g,.tup [z,z2],xM.mpr ⟨z,z2,ez,ez2,rfl⟩,.tup b5 rfl λj v x e1 e2=>?_⟩
  match j,e1,e2 with
  | 0,e1,e2=>cases e1;cases e2;exact q1
  | 1,e1,e2=>cases e1;cases e2;exact q2
theorem M5 {elts:List Expr} {x1} {tpos:Pos} (hg:X.env.scope.names.lookup (Str.ofString "zip") = some NameKind.globalImplicit) (hm:X.mg "zip" = none) (ha:VE X md a (.v el) pa) (hb:VE X md b (.v el) pb) (hs:starEach [a,b] X.env = [(false,eval a X.env),(false,eval b X.env)]:=by rfl) (hs1:starEach [b] X.env = [(false,eval b X.env)]:=by rfl) :
  VI X md el (.Tuple elts x1 tpos) (.Call (.Name "zip" p) [a,b] [] pos) (piZip pa pb) :=
 ⟨(V3 hg hm (a7 ha (a7 hb a9 hs1) (by rw [hs,hs1])).h hs hs1).imp λσ H R=>by
 rintro ⟨env,W0,H0,W,Q,Rr,q,k⟩
 refine ⟨env,W0,H0,W,λxs=>match xs with | [.lst zs,.lst ws]=>Q (tJ zs ws) | _=>False,Rr,?_,λxs vs W1 H1 g1 r1 q1=>?_⟩
 ·show pa env λx=>pb env λy=>_
  unfold piZip at q
  refine (iff_of_eq (congrArg (pa env) (funext λx=>congrArg (pb env) (funext λy=>?_)))).mp q
  cases x <;> cases y <;> rfl
 ·cases r1 with
  | cons r ra=>cases ra with
   | cons r2 ra=>cases ra with
    | nil =>
     rename_i v x v2 x2
     cases x with
     | lst xs=>cases x2 with
      | lst ys =>
       obtain ⟨a,vs,rfl,g,e,rs⟩:=Rep.ofList r
       obtain ⟨a2,vs2,rfl,g2,e2,rs2⟩:=Rep.ofList r2
       exact ⟨a,a2,rfl,⟨vs,cT.of e⟩,⟨vs2,cT.of e2⟩,k _ W1 H1 _ g1 (PR (El.GF g) e rs (El.GF g2) e2 rs2) q1⟩
      | _=>exact q1.elim
     | _=>exact q1.elim⟩
end
theorem EG {X:Cx} {md lm:List Md} {rm:Md} {i j:Nat} {x y:Str} {a b:Expr} {pa pb:aQ} {m1 m2:Md} {px py pt pos:Pos} {kt k2 pt2} (hc:X.calm = true) (hN:X.N.Nodup) (hi:X.N[i]? = some x) (hj:X.N[j]? = some y) (hij:i ≠ j)
  (hx:X.env.scope.names.lookup x = some .local) (hy:X.env.scope.names.lookup y = some .local) (ha:VE X md a m1 pa) (hb:VE X md b m2 pb)
  (hw:swappedStores [.Tuple [.Name x px,.Name y py] kt pt] (.Tuple [a,b] k2 pt2) X.env = pure (some [x,y]))
  (hs:swapsWithSole [.Tuple [.Name x px,.Name y py] kt pt] (.Tuple [a,b] k2 pt2) pos.line X.env = pure false)
  (h1:fJ (md.set i m1) = true) (l1:i < md.length) (h2:fJ ((md.set i m1).set j m2) = true) (l2:j < md.length)
  (hs1:starEach [b] X.env = (false,eval b X.env) :: starEach [] X.env:=by rfl) (hs2:starEach [a,b] X.env = (false,eval a X.env) :: starEach [b] X.env:=by rfl) :
  VS X md ((md.set i m1).set j m2) lm rm (.Assign [.Tuple [.Name x px,.Name y py] kt pt] (.Tuple [a,b] k2 pt2) pos) (pPar i j (pCons pa (pCons pb pNil))) :=
 ⟨(V6 hc hN hi hj hij hx hy (eW ha.h (eW hb.h j8 hs1) hs2) hw hs).imp λD σ H=>by
  rintro ⟨env,W0,H0,W,E,R,q,l⟩
  refine ⟨env,W0,H0,W,_,R,q,λx v W1 H1 g1 r1 q1=>⟨env,W0,H0,W1,_,R.step g1,q1,λy u W2 H2 g2 r2 q2=>?_⟩⟩
  refine ⟨v,u,rfl,?_⟩
  dsimp only [pNil] at q2
  rw [d9,d9] at q2
  exact l.nx _ W2 _ H2 ((R.set g1 r1 h1 l1).set g2 r2 h2 (by rw [List.length_set];exact l2)) ((g1.trans g2).ex R.ok) q2⟩
def a13 (K:PySem.W.Frag) (ta tb:TE):TE:=λσ H Q=>ta σ H λx H1=>∃ k,X6 K x H1 k /\ if k = true then Q x H1 else tb σ H1 Q
theorem UX {X:Cx} {a b:Expr} {rest:List Expr} {ta tb:TE} {pos:Pos} (ha:PE X a ta) (hb:PE X (.BoolOp .Or (b :: rest) pos) tb):PE X (.BoolOp .Or (a :: b :: rest) pos) (a13 X.K ta tb):=by
 intro pins s σ H Q I h
 refine BoolOp_or (c5 (ha pins s σ H _ I h) λv s1 ⟨x,H1,I1,r1,q1⟩=>?_)
 obtain ⟨k,t,q1⟩:=q1
 refine c5 (WI pins s1 σ H1 x v (λk' H2=>k' = k /\ H2 = H1) I1 r1 ⟨k,t,rfl,rfl⟩) λk' s2 ⟨H2,I2,e⟩=>?_
 obtain ⟨rfl,rfl⟩:=e
 cases k' with
 | true=>exact ⟨x,H2,I2,r1,q1⟩
 | false=>exact hb pins s2 σ H2 Q I2 q1
def pOrL (a b:aQ):aQ:=λenv Q=>a env λx=>match x with
 | .lst xs=>Br (!xs.isEmpty) (Q (.lst xs)) (b env Q)
 | _=>False
theorem WQ {X:Cx} {md:List Md} {el:El} {a b:Expr} {rest:List Expr} {pa pb:aQ} {pos:Pos} (ha:VE X md a (.o el) pa) (hb:VE X md (.BoolOp .Or (b :: rest) pos) (.o el) pb):VE X md (.BoolOp .Or (a :: b :: rest) pos) (.o el) (pOrL pa pb):=⟨(UX ha.h hb.h).imp λσ H K=>by
 rintro ⟨env,W0,H0,W,Q,R,q,k⟩
 refine ⟨env,W0,H0,W,_,R,q,λx v W1 H1 g1 r1 q1=>?_⟩
 cases x with
 | lst xs =>
  have r0:=r1
  obtain ⟨a,o,rfl,oq⟩:=r1
  have b:=oq.its
  have hat:=oq.at_
  cases b with
  | @lst us _ h =>
   have he:(!us.isEmpty) = !xs.isEmpty:=by
    have:=h.len
    cases us <;> cases xs <;> simp at this ⊢
   refine ⟨!us.isEmpty,.inl ⟨us,cT.of hat,rfl⟩,?_⟩
   rw [he]
   dsimp only at q1
   cases hb':(!xs.isEmpty) with
   | true=>rw [hb'] at q1;rw [if_pos rfl];exact k _ _ W1 H1 g1 r0 q1
   | false=>rw [hb'] at q1;rw [if_neg a0k];exact ⟨env,W0,H0,W1,Q,R.step g1,q1,k.after g1⟩
 | _=>exact q1.elim⟩
def pPutAt (i:Nat) (y:PV) (pj:aQ) (Kp:b6 -> Prop) (env:b6):Prop:=match l8 env i with
 | some (some (.lst xs))=>pj env λj=>(match j with
  | .int k=>(match sN xs.length k with
   | some n=>Kp (gH env i (some (.lst (xs.set n y))))
   | none=>False)
  | _=>False)
 | _=>False
def pPut2 (i i':Nat) (pe pj pj':aQ):bE:=λE env=>pe env λt=>match t with
 | .tup [y,z]=>pPutAt i y pj (λenv1=>pPutAt i' z pj' E.nx env1) env
 | _=>False
section
variable {X:Cx} {md lm:List Md} {rm:Md} {i i':Nat} {el el':El} {e o o' j j':Expr} {pe pj pj':aQ} {p p' pt pos:Pos}
theorem KD {W0 W1:Wd} {H0 H1:Hp} {σ:St} {env:b6} {v:V} {y:PV} {Kp:b6 -> Prop} {Q:St -> Hp -> Prop} (hi:md.getD i .no = .o el) (R1:Rl X.K md W0 H0 W1 σ env H1) (r1:Rep (λ_=>False) H1 v y) (q1:pPutAt i y pj Kp env)
  (k:∀ env' W2 H2,Rl X.K md W0 H0 W2 σ env' H2 -> Ex W1 H1 W2 H2 -> Kp env' -> Q σ H2):J6 (dU i) (dQ X.K md .bw pj) v7 v σ H1 Q:=by
 unfold pPutAt at q1
 rw [j7] at q1
 cases ev:env[i]? with
 | none=>rw [ev] at q1;exact q1.elim
 | some ox =>
  cases ox with
  | none=>rw [ev] at q1;exact q1.elim
  | some x =>
   rw [ev] at q1
   cases x with
   | lst xs =>
    obtain ⟨a,ob,sv,oq⟩:=R1.ownAt hi ev
    refine ⟨.ref a,sv,env,W0,H0,W1,_,R1,q1,λjv u W2 H2 g2 r2 q2=>?_⟩
    have R2:=R1.step g2
    obtain ⟨a2,o2,sv2,oq2⟩:=R2.ownAt hi ev
    rw [sv] at sv2;cases sv2
    cases jv with
    | int k' =>
     dsimp only at q2
     cases hn:sN xs.length k' with
     | none=>rw [hn] at q2;exact q2.elim
     | some n =>
      rw [hn] at q2
      have b:=oq2.its
      have oq3:=oq2
      have hat:=oq2.at_
      generalize o2 = oo at b hat oq3
      cases b with
      | @lst us _ h =>
       have r1':Rep (el.G W2.F H0) H2 v y:=(r1.mono (G':=λ_=>False) (λ_ z=>z) λa o z e=>(g2.ex R1.ok).im a o (z.elim (λz=>z.elim) λz=>z) e).weak λ_ z=>z.elim
       refine ⟨a,us,k',n,rfl,Rep.ofInt r2,hat,by rw [h.len];exact hn,?_⟩
       have q2:Kp (gH env i (some (PV.lst (xs.set n y)))):=q2
       rw [d9] at q2
       exact k _ W2 _ (R2.put hi ev sv (.lst (h.set r1' n)) rfl) ((g2.ex R1.ok).trans (wL (K:=X.K) (md:=md) (W0:=W0) (σ:=σ) (env:=env) (i:=i) oq3)) q2
    | _=>exact q2.elim
   | _=>exact q1.elim
theorem QK {kt:Nat} (hc:X.calm = true) (ho:QE X o (dU i)) (hi:md.getD i .no = .o el) (ho':QE X o' (dU i')) (hi':md.getD i' .no = .o el') (he:VE X md e (.v .fl) pe) (hj:VE X md j .bw pj) (hj':VE X md j' .bw pj')
  (ha:∀ v,assign (.Subscript o j p) X.env v = (do
   let ov <- holding [v] (eval o X.env)
   let iv <- holding [v,ov] (eval j X.env)
   standAt p
   holding [v,ov,iv] (setItem ov iv v)
   release [v,ov,iv] []):=by intro _;rfl)
  (ha':∀ v,assign (.Subscript o' j' p') X.env v = (do
   let ov <- holding [v] (eval o' X.env)
   let iv <- holding [v,ov] (eval j' X.env)
   standAt p'
   holding [v,ov,iv] (setItem ov iv v)
   release [v,ov,iv] []):=by intro _;rfl)
  (hg1:(assignEach [.Subscript o j p,.Subscript o' j' p'] X.env).map (·.2) = assign (.Subscript o j p) X.env :: (assignEach [.Subscript o' j' p'] X.env).map (·.2):=by rfl)
  (hg2:(assignEach [.Subscript o' j' p'] X.env).map (·.2) = assign (.Subscript o' j' p') X.env :: (assignEach [] X.env).map (·.2):=by rfl)
  (hn:(assignEach [.Subscript o j p,.Subscript o' j' p'] X.env).length = 2:=by rfl) (hst:(assignEach [.Subscript o j p,.Subscript o' j' p'] X.env).findIdx? (·.1) = none:=by rfl)
  (hs:swapsWithSole [.Tuple [.Subscript o j p,.Subscript o' j' p'] kt pt] e pos.line X.env = pure false:=by rfl) (hw:swappedStores [.Tuple [.Subscript o j p,.Subscript o' j' p'] kt pt] e X.env = pure none:=by rfl)
  (h1:(assignEach [.Tuple [.Subscript o j p,.Subscript o' j' p'] kt pt] X.env).map (·.2) = [assign (.Tuple [.Subscript o j p,.Subscript o' j' p'] kt pt) X.env]:=by rfl) :
  VS X md md lm rm (.Assign [.Tuple [.Subscript o j p,.Subscript o' j' p'] kt pt] e pos) (pPut2 i i' pe pj pj') :=
 ⟨(wK he.h (K4 hc (rJ (wI ho.h hj.h nD ha) (rJ (wI ho'.h hj'.h nD ha') DR hg2) hg1) hn hst) hs hw h1).imp λD σ H=>by
 rintro ⟨env,W0,H0,W,E,R,q,l⟩
 refine ⟨env,W0,H0,W,_,R,q,λt v W1 H1 g1 r1 q1=>?_⟩
 match t,r1,q1 with
 | .tup [y,z],r1,q1 =>
  have r1':Rep (λ_=>False) H1 v (.tup [y,z]):=r1
  obtain ⟨a,vs,rfl,e,rs⟩:=r1'.ofTup
  match vs,rs,e with
  | [v1,v2],rs,e =>
   refine ⟨a,[v1,v2],rfl,iM.of e,rfl,v1,[v2],rfl,?_⟩
   refine KD hi (R.step g1) (rs.at_ 0 v1 y rfl rfl) q1 λenv' W2 H2 R2 x2 q2=>?_
   refine ⟨v2,[],rfl,?_⟩
   have r2:Rep (λ_=>False) H2 v2 z:=(rs.at_ 1 v2 z rfl rfl).mono (λ_ z=>z) λa o z e=>x2.im a o (z.elim (λz=>z.elim) λz=>z) e
   refine KD hi' R2 r2 q2 λenv3 W3 H3 R3 x3 q3=>⟨rfl,?_⟩
   exact l.nx env3 W3 σ H3 R3 (((g1.ex R.ok).trans x2).trans x3) q3
  | [],rs,e=>have:=rs.len;simp at this
  | [_],rs,e=>have:=rs.len;simp at this
  | _ :: _ :: _ :: _,rs,e=>have:=rs.len;simp at this⟩
end
def LM (tk tv:TE) (acc:Addr):TS:=λD σ H=>tk σ H λx H1=>tv σ H1 λy H2=>∃ k kvs,x = kV k /\ H2 acc = some (.dK kvs) /\ kvs.length < sizeLine /\ D.nx σ (bD H2 acc (.dK (lW kvs k y)))
def II (k v:Expr) (acc:Value) (env:Env):Sem Unit:=do
 let kv <- eval k env
 let vv <- holding [kv] (eval v env)
 match acc with
 | .ref d=>do
  standAt { k.pos with endLine:=v.pos.endLine,endCol:=v.pos.endCol }
  holding [kv,vv] (dictSet d kv vv)
 | _=>unsupported "internal:dictcomp"
theorem OL {Y:Cx} (hx:Y.xe = λ_ _=>False) {k v:Expr} {tk tv:TE} {acc:Addr} (hk:PE Y k tk) (hv:PE Y v tv):PB Y (II k v (.ref acc) Y.env) (LM tk tv acc):=by
 intro pins s σ H D I h
 have h0:=hk pins s σ H _ I h
 rw [hx] at h0
 unfold II
 refine a0a (wpAny_mono h0 (λkv s1 h1=>?_) λ_ _ z=>z)
 obtain ⟨x,H1,I1,r1,q1⟩:=h1
 have h1:=hv pins s1 σ H1 _ I1 q1
 rw [hx] at h1
 refine a0a (wpAny_holding (wpAny_mono h1 (λvv s2 h2=>?_) λ_ _ z=>z))
 obtain ⟨y,H2,I2,r2,kk,kvs,rfl,ha,hl,q2⟩:=h2
 refine a0a (wpAny_standAt (wpAny_holding ?_))
 obtain ⟨z,hd,vs,rel,dd⟩:=QY I2.hok ha
 have hz:vs.length <= sizeLine:=by rw [<- rel.length];exact z
 have hl2:(lW kvs kk y).length <= sizeLine:=by have:=kA kvs kk y;omega
 refine wpAny_dictSet_pairs (hsz:=hz) (u7 r1) dd λh' dd' hs=>⟨σ,_,?_,q2⟩
 have he:∃ q,h'.get? acc = some q:=let ⟨q,_,_,hq,_⟩:=dd';⟨q,hq⟩
 exact vV I2 (by rw [ha];exact True.intro) hs he (B7 hl2 hd (rel.put kk r2) dd')
def a1J (wi:TI) (g:TG) (tt:TT) (tk tv:TE) (n:Nat) (cap:List Nat):TE:=λσ H Q=>wi σ H λJ H1=>∀ acc,H1 acc = none ->
 mD J g (GG tt (LM tk tv acc)) { nx:=λ_ H'=>Q (.ref acc) H',rt:=λ_ _=>False } (BG n cap σ) (bD H1 acc (.dK []))
section
variable {X:Cx} {kx vx target iter:Expr} {ifs:List Expr} {scope:Scope} {pos:Pos} {N':List Str} {n:Nat} {cap:List Nat} {wi:TI} {g:TG} {tt:TT} {tk tv:TE}
theorem K6 {x:Str} {pos' pos2:Pos} {gg:TG} (hgx:PG X (.Name x pos') gg) (hsw:swapsWith (.DictComp kx vx [⟨target,iter,ifs,0⟩] scope pos) (some (.Name x pos')) pos2.line X.env = pure true) (hc:X.calm = true) (S:LcOk X.N X.env.scope scope N' n cap) (hi:PI X target iter wi) (hg:∀ C s H fp,PG (aM X N' scope C s H fp) target g)
    (ht:∀ C s H fp,HA (aM X N' scope C s H fp) ifs tt) (hk:∀ C s H fp,PE (aM X N' scope C s H fp) kx tk) (hv:∀ C s H fp,PE (aM X N' scope C s H fp) vx tv) (hs:∀ x,foldedSetIterable iter X.env x = pure x:=by intro _;rfl) :
    PS X (.Assign [.Name x pos'] (.DictComp kx vx [⟨target,iter,ifs,0⟩] scope pos) pos2) (A3 (a1J wi g tt tk tv n cap) gg):=by
  intro pins s σ H D I h
  have hfree:∀ y ∈ scope.names,y.2 = .free -> ∃ c,X.env.cells.lookup y.1 = some c:=λy hy e=>I.ok.has y.1 (.inl (S.frees y hy e))
  rw [exec_Assign_Name_used x pos' _ pos2 hsw]
  refine a0a (wpAny_standAt (a0a ?_))
  rw [arm_evalThenUse_DictComp]
  refine a0a ?_
  refine wpAny_comprehension_free (use:=some (assign (.Name x pos') X.env)) (Q:=λ_ s'=>wpAny (model X.prog X.w) X.A (pure ()) (λ_ s'=>wpAny (model X.prog X.w) X.A (pure Flow.next) (SP X pins D) X.xe s') X.xe s') rfl hs (iW hfree) S.kind S.names ?_
  refine c5 (hi pins s σ H _ I h) λv s1 h1=>c5 h1 λitv s2 h2=>?_
  obtain ⟨it,fp,tn,J,H2,rfl,I2,T,st2,f2,body⟩:=h2
  refine wpAny_newObj_type ?_
  have I3:Inv X pins σ (bD H2 s2.heap.objs.size (.dK [])) { s2 with heap:=s2.heap.push { cls:=.type "dict",dict:=none,data:=.dict #[] } }:=I2.laid (a:=s2.heap.objs.size) (o:=.dK []) (t':=s2.toks) (λ_ _ q=>a0e _ q) (Nat.le_refl _) (yD s2.heap I2.big)
  have hacc:H2 s2.heap.objs.size = none:=I2.fresh
  have body:=body _ hacc
  have hlt:∀ b ∈ fp,b < s2.heap.objs.size:=λb hb=>by
    obtain ⟨o,e,_⟩:=T.obj 0 _ st2 b hb
    exact a0n e
  have hf3:∀ b ∈ fp,hV X pins (bD H2 s2.heap.objs.size (.dK [])) b:=λb hb =>
    ⟨by rw [aE (Nat.ne_of_lt (hlt b hb))];exact (f2 b hb).1,(f2 b hb).2⟩
  refine wpAny_newFunctionEnv S.nocell (by intro y hy;cases hy) (λh4 ns4 sb4=>?_) S.kind
  generalize hs3:({ s2 with heap:=s2.heap.push { cls:=.type "dict",dict:=none,data:=.dict #[] } }:Shared) = s3 at *
  have hsz:s2.heap.objs.size < s3.heap.objs.size:=by rw [<- hs3,Heap.size_push];exact Nat.lt_succ_self _
  have k4:∀ b o,s3.heap.get? b = some o -> h4.get? b = some o:=λb o e=>(sb4.2 b (Nat.ne_of_lt (a0n e))).trans (a0e _ e)
  generalize hH3:bD H2 s2.heap.objs.size (.dK []) = H3 at *
  have I3':Inv X pins σ H3 s3:=I3
  have IY:=mN (tk:=s3.toks + ([]:List (Str × Value)).length) S I3' hf3 (λb hb=>Nat.lt_trans (hlt b hb) hsz) ns4 k4
  have fpY:∀ b ∈ fp,hV (aM X N' scope s3.heap.objs.size s3 H3 fp) [] H3 b:=λb hb=>by
    obtain ⟨f0,f1,f2',f3,f4,f5⟩:=hf3 b hb
    refine ⟨f0,Nat.ne_of_lt (Nat.lt_trans (hlt b hb) hsz),λz=>?_,.inl hb,λx c e=>f4 x c (k6 hfree e),λp hp=>absurd hp (by simp [aM])⟩
    rcases List.mem_cons.mp (I3'.stkSub b z) with z | z
    · exact f1 z
    · exact f2' z
  have tn4:tn 0 h4:=T.keep 0 _ _ st2 λb hb o e=>k4 b o (by rw [<- hs3];exact a0e _ e)
  have loop:codeAny (model X.prog X.w) X.A (.compLoop (.DictComp kx vx [⟨target,iter,ifs,0⟩] scope pos) 0 (.ref it) (.ref s2.heap.objs.size) (aM X N' scope s3.heap.objs.size s3 H3 fp).env)
      (compPost (model X.prog X.w) X.A X.xe (some (assign (.Name x pos') X.env)) (λ_ s'=>wpAny (model X.prog X.w) X.A (pure ()) (λ_ s'=>wpAny (model X.prog X.w) X.A (pure Flow.next) (SP X pins D) X.xe s') X.xe s') (.ref s2.heap.objs.size) s3.heap.objs.size) { s3 with heap:=h4,toks:=s3.toks + ([]:List (Str × Value)).length }:=by
    refine qM (Y:=aM X N' scope s3.heap.objs.size s3 H3 fp) (act:=II kx vx (.ref s2.heap.objs.size) (aM X N' scope s3.heap.objs.size s3 H3 fp).env) (.dict _ _ _ _ _) hc rfl rfl (hg _ _ _ _) (ht _ _ _ _) (OL rfl (hk _ _ _ _) (hv _ _ _ _)) T IY tn4 fpY body λi σ5 H5 s6 I6 qn=>?_
    obtain ⟨m,hn,_⟩:=I6.loc
    have hs':Heap.SameBut s3.heap.objs.size s6.heap s6.heap:=⟨rfl,λ_ _=>rfl⟩
    have IX:Inv X pins σ H5 s6:=by
      have ub:=I6.base
      have ne:∀ b o,s3.heap.get? b = some o -> b ≠ s3.heap.objs.size:=λb o e=>Nat.ne_of_lt (a0n e)
      refine I3'.call' (s':=s6) (ch:=fp) I6.os ⟨λb o e z1 z2 z3=>(hs'.2 b (ne b o e)).trans (ub.keep b o e z1 z2 z3),λb o e z1 z2 z3=>?_,ub.free,λb o e z=>?_,ub.tups,ub.frzs,ub.tbls⟩ (pS I6.hok I6.free hs') I6.bare λb hb=>⟨(hf3 b hb).2.2.2.1,(hf3 b hb).2.1,(hf3 b hb).2.2.2.2.1,(hf3 b hb).2.2.2.2.2⟩
      · obtain ⟨sl,e'⟩:=ub.slot b o e z1 z2 z3
        exact ⟨sl,(hs'.2 b (ne b o e)).trans e'⟩
      · obtain ⟨o',e'⟩:=ub.there b o e z
        exact ⟨o',(hs'.2 b (ne b o e)).trans e'⟩
    have fC:hV X pins H5 s3.heap.objs.size:=I3'.fpOk (Nat.le_refl _) I6.free
    have IXp := IX.pinned (fp := [s3.heap.objs.size]) (fun b hb => by have e : b = s3.heap.objs.size := by simpa using hb
                                                                      subst e;exact fC) (λb hb=>by
      have e:b = s3.heap.objs.size:=by simpa using hb
      subst e
      obtain ⟨o,es,ep,ho,hd,_⟩:=hn
      exact ⟨o,ho,λv z=>by rw [hd] at z;cases z⟩)
    show wpAny _ _ (assign (.Name x pos') X.env (.ref s2.heap.objs.size)) _ _ s6
    refine c5 (hgx _ s6 σ H5 (.ref s2.heap.objs.size) (.ref s2.heap.objs.size) _ IXp rfl qn) λ_ s7 h7=>?_
    obtain ⟨σ7,H7,I7,q7⟩:=h7
    obtain ⟨o,es,ep,ho,hd⟩:=id hn
    have z:=I7.pin (s3.heap.objs.size,o) (List.mem_append_right _ (List.mem_append_right _ (dB (by simp) ho)))
    refine ⟨m,⟨o,es,ep,z.1,hd⟩,λh' hs'=>a0d (a0d ⟨σ7,H7,?_,q7⟩)⟩
    obtain ⟨f0,f1,f2,f3,f4,f5⟩:=fC
    exact I7.unpinned.turned (t':=s7.toks) (it:=s3.heap.objs.size) (λb o hb e=>(hs'.2 b hb).trans e) z.2.1 f1 f3 f4 f5
  exact i3 (.dict _ _ _ _ _) rfl loop (T.self _ 0 _ _ _ tn4 loop)
end
def tD (g:gN) (tt:dX) (tk tv:aQ) (Q:PV -> Prop):List PV -> List b9 -> List PV -> b6 -> Prop
 | [],ks,xs,_=>Q (.dic ks xs)
 | i :: r,ks,xs,env=>g i env λenv1=>tt env1 λb=>Br b (tk env1 λx=>tv env1 λy=>match HD x with
   | some k=>ks.length < 1000 /\ tD g tt tk tv Q r (FE ks k) (AG ks xs k y) env1
   | none=>False) (tD g tt tk tv Q r ks xs env1)
def pDc (s:lA) (g:gN) (tt:dX) (tk tv:aQ) (cp:b6 -> b6):aQ:=λenv Q=>s env λitems=>tD g tt tk tv Q items [] [] (cp env)
structure DicIn (acc:Addr) (H0:Hp) (W:Wd) (H:Hp) (ks:List b9) (xs:List PV):Prop where
 ex:∃ vs,H acc = some (.dK (ks.zip vs)) /\ ks.length = vs.length /\ Reps (λ_=>False) H vs xs
 new:H0 acc = none
 nF:¬ W.F acc
 nS:¬ W.S acc
 nL:¬ W.L acc
theorem DicIn.go {acc:Addr} {H0:Hp} {W W':Wd} {H H':Hp} {ks:List b9} {xs:List PV} (x:DicIn acc H0 W H ks xs) (w:Wok W H) (g:Go W H W' H'):DicIn acc H0 W' H' ks xs:=by
 obtain ⟨vs,h1,h2,h3⟩:=x.ex
 exact ⟨⟨vs,g.kp acc _ h1 x.nS,h2,h3.mono (λ_ z=>z) λa o z e=>g.kp a o e (w.imm e (z.elim (λz=>z.elim) λz=>z))⟩,x.new,g.nFF h1 x.nF,g.nSS h1 x.nS,by rw [g.kl];exact x.nL⟩
theorem N3 {K:PySem.W.Frag} {mb m1:List Md} {eli:El} {g:gN} {tt:dX} {tk tv:aQ} {acc:Addr} {J:It} {items:List PV} {W0 W1:Wd} {H0 H1:Hp} {Q:PV -> Prop} {D:Ends} (hle:i4 m1 mb = true) (hbl:jG m1 = true) (sr:Src J eli H0 W1 H1 items)
  {σ:St} {env:b6} {ks:List b9} {xs:List PV} (q:tD g tt tk tv Q items ks xs env) {W2:Wd} {H2:Hp} (R:Rl K mb W0 H0 W2 σ env H2) (x12:Ex W1 H1 W2 H2) (x:DicIn acc H0 W2 H2 ks xs)
  (k:∀ (env':b6) (W':Wd) (σ':St) (H':Hp) (ks':List b9) (xs':List PV),Rl K mb W0 H0 W' σ' env' H' -> Ga acc W2 H2 W' H' -> DicIn acc H0 W' H' ks' xs' -> Q (.dic ks' xs') -> D.nx σ' H') :
  mD J (qW K mb m1 eli g) (GG (oW K m1 tt) (LM (dQ K m1 .bw tk) (dQ K m1 (.v .fl) tv) acc)) D σ H2:=by
 refine ⟨λi m σb Hb=>m = items.length - i /\ i <= items.length /\ ∃ (envb:b6) (Wb:Wd) (kb:List b9) (xb:List PV),Rl K mb W0 H0 Wb σb envb Hb /\ Ga acc W2 H2 Wb Hb /\ DicIn acc H0 Wb Hb kb xb /\ tD g tt tk tv Q (items.drop i) kb xb envb,
  ⟨items.length,by simp,Nat.zero_le _,env,W2,ks,xs,R,.refl,x,by simpa using q⟩,?_⟩
 rintro i m σb Hb ⟨rfl,hi,envb,Wb,kb,xb,Rb,gab,ib,qb⟩
 have exb:Ex W1 H1 Wb Hb:=x12.trans gab.ex
 by_cases hlt:i < items.length
 ·rw [List.drop_eq_getElem_cons hlt] at qb
  refine .inr ⟨sr.go i Wb Hb exb hlt,λσ' H'=>i + 1 <= items.length /\ ∃ (envb:b6) (Wb:Wd) (kb:List b9) (xb:List PV),Rl K mb W0 H0 Wb σ' envb H' /\ Ga acc W2 H2 Wb H' /\ DicIn acc H0 Wb H' kb xb /\ tD g tt tk tv Q (items.drop (i + 1)) kb xb envb,λσ' H' z=>⟨items.length - (i + 1),by omega,rfl,z.1,z.2⟩,λv H3 y=>?_⟩
  obtain ⟨g3,xx,ex,rx⟩:=sr.yld i Wb Hb v H3 exb Rb.ok hlt y
  rw [a0b hlt] at ex
  cases ex
  refine ⟨envb,W0,H0,Wb,_,_,Rb.step g3,rx,qb,λenv' σ' R' z=>?_⟩
  refine ⟨env',W0,H0,Wb,_,R',z,λkk W4 H4 g4 q4=>?_⟩
  have x4:=(ib.go Rb.ok g3).go g3.ok g4
  have ga4:Ga acc W2 H2 W4 H4:=(gab.trans (g3.toGa Rb.ok)).trans (g4.toGa g3.ok)
  cases kk with
  | false =>
   dsimp only
   rw [if_neg a0k]
   exact ⟨hlt,env',W4,kb,xb,(R'.step g4).less hle,ga4,x4,q4⟩
  | true =>
   dsimp only
   rw [if_pos rfl]
   have R4:=R'.step g4
   refine ⟨env',W0,H0,W4,_,R4,q4,λkp u W5 H5 g5 r5 q5=>⟨env',W0,H0,W5,_,R4.step g5,q5,λyp u2 W6 H6 g6 r6 q6=>?_⟩⟩
   cases hk:HD kp with
   | none=>rw [hk] at q6;exact q6.elim
   | some kk =>
    rw [hk] at q6
    obtain ⟨hlen,q6⟩:=q6
    have hu:u = kV kk:=DE (S:=λ_=>True) hk r5
    subst hu
    have x6:=(x4.go R4.ok g5).go g5.ok g6
    obtain ⟨vs,h1,h2,h3⟩:=x6.ex
    refine ⟨kk,_,rfl,h1,by rw [List.length_zip,<- h2,Nat.min_self];exact Nat.lt_trans hlen (by decide),hlt,env',W6,FE kb kk,AG kb xb kk yp,?_⟩
    rw [DX h2]
    have R6:=(R4.step g5).step g6
    have keep:∀ a o,(False \/ o.imm = true) -> H6 a = some o -> (bD H6 acc (.dK ((FE kb kk).zip (AG kb vs kk u2)))) a = some o:=λa o z e=>by
     rw [aE (λz2=>by subst z2;rw [h1] at e;cases e;exact z.elim (λz=>z) λz=>by cases z)];exact e
    refine ⟨(R6.tmp hbl x6.new x6.nF x6.nS x6.nL h1 rfl (λ_ _ z=>by cases z)).less hle,?_,⟨⟨_,b5,D3 h2 kk u2,?_⟩,x6.new,x6.nF,x6.nS,x6.nL⟩,q6⟩
    ·refine (ga4.trans ((g5.trans g6).toGa R4.ok)).trans ⟨λV G hG g=>g.tmp hG x6.nF x6.nS,⟨λ_ h=>h,λb o f e=>by rw [aE (λz=>by subst z;exact x6.nF f)];exact e,λb o im e=>keep b o (.inr im) e⟩⟩
    ·exact (h3.dput kk r6).mono (λ_ z=>z) λa o z e=>keep a o z e
 ·have e:i = items.length:=by omega
  subst e
  rw [List.drop_length] at qb
  exact .inl ⟨sr.stop Wb Hb exb,k envb Wb σb Hb kb xb Rb gab ib qb⟩
theorem N1 {K:PySem.W.Frag} {md mb:List Md} {eli:El} {s:lA} {g:gN} {tt:dX} {tk tv:aQ} {n:Nat} {cap:List Nat} {σ:St} {H:Hp} {Q:VK} {cp:b6 -> b6} (hcp:∀ env,cp env = oC n cap env) (hle:i4 mb (eQ n cap md) = true) (hbl:jG mb = true)
  (h:dQ K md (.o .fl) (pDc s g tt tk tv cp) σ H Q):a1J (uB K md eli s) (qW K (eQ n cap md) mb eli g) (oW K mb tt) (dQ K mb .bw tk) (dQ K mb (.v .fl) tv) n cap σ H Q:=by
 obtain ⟨env,W0,H0,W,Q',R,q,k⟩:=h
 refine ⟨env,W0,H0,W,_,R,q,λitems W1 H1 J g1 sr q1=>?_⟩
 intro acc hacc
 rw [hcp] at q1
 have h0acc:H0 acc = none:=R.go.free (g1.free hacc)
 have R1:=R.step g1
 have Rb:=C9 (n:=n) (cap:=cap) R1 (λa=>∃ o,H1 a = some o) (λa o e=>⟨o,e⟩)
 generalize hW1b:({ W1 with L:=λa=>∃ o,H1 a = some o }:Wd) = W1b at Rb
 generalize hW0b:({ W0 with L:=λa=>∃ o,H1 a = some o }:Wd) = W0b at Rb
 have f1:W1b.F = W1.F:=by rw [<- hW1b]
 have s1:W1b.S = W1.S:=by rw [<- hW1b]
 have l1:¬ W1b.L acc:=by rw [<- hW1b];rintro ⟨o,e⟩;rw [hacc] at e;cases e
 have okb:Wok W1b H1:=Rb.ok
 have nF1:¬ W1b.F acc:=λz=>okb.offF hacc z
 have nS1:¬ W1b.S acc:=λz=>okb.offS hacc z
 have gl:Go W1b H1 W1b (bD H1 acc (.dK [])):=Go.laid okb hacc
 have exW:Ex W1 H1 W1b (bD H1 acc (.dK [])):=by
  have x:=gl.ex okb
  exact ⟨λa h=>by rw [f1];exact h,λa o h e=>x.kp a o (by rw [f1];exact h) e,x.im⟩
 refine N3 hle hbl sr q1 (Rb.step gl) exW ⟨⟨[],b5,rfl,.nil⟩,h0acc,nF1,nS1,l1⟩ λenvb Wb σb Hb kb xb Rr ga x qb=>?_
 have gb:Go W1b H1 Wb Hb:=ga.ga W1b H1 hacc gl
 have gf:Go W H { Wb with L:=W.L } Hb:=by
  have a:=g1
  refine ⟨λb h=>gb.lF b (by rw [f1];exact a.lF b h),λb h=>gb.lS b (by rw [s1];exact a.lS b h),λb h=>?_,λb h=>?_,λb o e s=>?_,⟨gb.ok.fF,gb.ok.sS,gb.ok.dj⟩,?_,rfl⟩
  ·rcases gb.nF b h with z | z
   ·exact a.nF b (by rw [<- f1];exact z)
   ·exact .inr (a.free z)
  ·rcases gb.nS b h with z | z
   ·exact a.nS b (by rw [<- s1];exact z)
   ·exact .inr (a.free z)
  ·refine gb.kp b o (a.kp b o e s) ?_
   rw [s1];exact a.nSS e s
  ·show Wb.K = W.K
   rw [gb.kk,<- hW1b];exact a.kk
 obtain ⟨vs,h1,h2,h3⟩:=x.ex
 refine k _ (.ref acc) { Wb with L:=W.L } Hb gf ⟨acc,.dK (kb.zip vs),rfl,?_⟩ qb
 exact ⟨g1.free hacc,x.nF,x.nS,h1,.dic h2 (h3.weak λ_ z=>z.elim)⟩
section
variable {X:Cx} {kx vx target iter:Expr} {ifs:List Expr} {scope:Scope} {pos pos2 pos':Pos} {N':List Str} {n i:Nat} {x:Str} {cap:List Nat} {md mb lm:List Md} {rm:Md} {eli:El} {s:lA} {g:gN} {tt:dX} {tk tv:aQ}
theorem M7 {cp:b6 -> b6} (hN:X.N.Nodup) (hix:X.N[i]? = some x) (hx:EJ X.env.scope x) (hsw:swapsWith (.DictComp kx vx [⟨target,iter,ifs,0⟩] scope pos) (some (.Name x pos')) pos2.line X.env = pure true) (hf:X.fn x = true \/ X.env.scope.names.lookup x = some .local)
  (hm:fJ (md.set i (.o .fl)) = true) (hl:i < md.length)
  (hcp:∀ env,cp env = oC n cap env) (hc:X.calm = true) (S:LcOk X.N X.env.scope scope N' n cap) (hle:i4 mb (eQ n cap md) = true) (hbl:jG mb = true) (hi:VI X md eli target iter s) (hg:∀ C s H fp,VG (aM X N' scope C s H fp) (eQ n cap md) mb eli target g)
  (ht:∀ C s H fp,VTs (aM X N' scope C s H fp) mb ifs tt) (hk:∀ C s H fp,VE (aM X N' scope C s H fp) mb kx .bw tk) (hv:∀ C s H fp,VE (aM X N' scope C s H fp) mb vx (.v .fl) tv) (hs:∀ x,foldedSetIterable iter X.env x = pure x:=by intro _;rfl) :
  VS X md (md.set i (.o .fl)) lm rm (.Assign [.Name x pos'] (.DictComp kx vx [⟨target,iter,ifs,0⟩] scope pos) pos2) (pSet i (pDc s g tt tk tv cp)) :=
 ⟨(K6 (pW hN hix hx hf) hsw hc S hi.h (λC s H fp=>(hg C s H fp).h) (λC s H fp=>(ht C s H fp).h) (λC s H fp=>(hk C s H fp).h) (λC s H fp=>(hv C s H fp).h) hs).imp λD σ H=>by
 rintro ⟨env,W0,H0,W,E,R,q,l⟩
 refine N1 hcp hle hbl ⟨env,W0,H0,W,_,R,q,λx v W1 H1 g1 r1 q1=>?_⟩
 rw [d9] at q1
 exact l.nx _ W1 _ H1 (R.set g1 r1 hm hl) (g1.ex R.ok) q1⟩
end
section
variable {prog:Program} {w:World} {A:Around} {E:Value -> Shared -> Prop} {s:Shared}
abbrev aW (w:World):Obj:={ cls:=.type "set",dict:=none,data:=.set #[] 0 (.fresh 0 0 (!w.params.followText "set-order")) }
theorem D9 {h:Heap} {a:Addr} (e:h.get? a = some (aW w)):bC prog w a (λ_=>false) 0 h:=by
 refine ⟨_,#[],0,_,e,⟨rfl,rfl,rfl⟩,rfl,λe he=>by simp at he,λk=>by simp,by decide,by rfl,rfl,?_,by simp⟩
 cases w.params.followText "set-order" with
 | true=>exact .inl rfl
 | false=>exact .inr ⟨rfl,λ_=>List.Pairwise.nil⟩
theorem qL (a:Value) {Q₁:Value -> Shared -> Prop}
  (h:Q₁ (.ref s.heap.objs.size) { s with heap:=s.heap.push (aW w) }) :
  codeAny (model prog w) A (.call (.builtin "set.__new__") ⟨[.type "set",a],[]⟩) (wants Q₁ E) s:=by
 refine codeAny_of_tree ?_
 show wpAny _ A.in1 (do checkBuiltinCall "set.__new__" ⟨[.type "set",a],[]⟩;again (.builtin "set.__new__" ⟨[.type "set",a],[]⟩)) _ _ s
 refine a0a (wpAny_of_eq (F.newCall_set_1 a) (a0d ⟨plainId_quiet F.plain_set_new _,codeAny_builtin F.entry_set_new ?_⟩))
 rw [Around.under_plainId F.plain_set_new _]
 unfold Builtin.«set.__new__» Builtin.Frozenset.newClass
 have hsub:=sub_set_self
 obtain ⟨hp,g,d,tk,os⟩:=s
 dsimp only
 wp_walk
 refine wpAny_askSetting (a0d ?_)
 dsimp only
 simp only [newObj]
 refine a0a (wpAny_alloc (a0d ?_))
 exact a0d h
section
variable {R:Result -> Shared -> Prop} {I:Addr} {fp wr:List Addr} {G:Array GenState -> Array GenState -> Prop} {n:Nat} {P:Nat -> Value -> Prop} {St:Nat -> Shared -> Prop}
theorem bC.congr {a:Addr} {S S':Int -> Bool} {n n':Nat} {h:Heap} (x:bC prog w a S n h) (e:∀ k,S k = S' k) (en:n = n'):bC prog w a S' n' h:=by
 have:S = S':=funext e
 subst this;subst en;exact x
theorem xB (W:WalksS prog w A.in1 I fp wr G n P St) (S:Addr) (hSf:S ∉ fp)
  (val:Nat -> Int) (hval:∀ i v,P i v -> ∃ t,v = .int (val i) t) (hb:n + 1 < scanBound) :
  ∀ (k i:Nat) (s:Shared),n - i = k -> i <= n -> St i s ->
   bC prog w S (λk'=>(firstMet val i).any (· == k')) (firstMet val i).length s.heap ->
   (∀ s',Moved (S :: wr) G s s' -> bC prog w S (λk'=>(firstMet val n).any (· == k')) (firstMet val n).length s'.heap -> R (.ok (.ret .none)) s') ->
   codeAny (model prog w) A (.builtin "set.update.loop" ⟨[.ref S,.ref I],[]⟩) R s:=by
 have hSw:S ∉ wr:=λh=>hSf (W.sub _ h)
 have hsub:∀ b ∈ wr,b ∈ S :: wr:=λb hb=>a0j _ hb
 intro k
 induction k with
 | zero =>
  intro i s hk hi hst hS hR
  have hin:i = n:=by omega
  subst hin
  refine codeAny_builtin F.entry_set_update_loop ?_
  rw [Around.under_plainId F.plain_set_update_loop _]
  show wpAny _ A.in1 (pyNext (.ref I) >>= _) _ _ s
  refine a0a (W.done s _ _ hst λs' hm=>?_)
  show wpAny _ A.in1 (ret Value.none) _ _ s'
  exact a0d (hR s' (hm.mono hsub) (hS.mono λo e=>hm.heap S _ hSw e))
 | succ k ih =>
  intro i s hk hi hst hS hR
  have hlt:i < n:=by omega
  refine codeAny_builtin F.entry_set_update_loop ?_
  rw [Around.under_plainId F.plain_set_update_loop _]
  show wpAny _ A.in1 (pyNext (.ref I) >>= _) _ _ s
  refine a0a (W.item i s _ _ hlt hst λv s' hP hst' hm=>?_)
  obtain ⟨t,rfl⟩:=hval i v hP
  have hS':bC prog w S (λk'=>(firstMet val i).any (· == k')) (firstMet val i).length s'.heap:=hS.mono λo e=>hm.heap S _ hSw e
  show wpAny _ A.in1 (holding [Value.int (val i) t] (setAdd S (.int (val i) t)) >>= _) _ _ s'
  refine a0a (wpAny_holding ?_)
  unfold setAdd
  refine wpAny_holding ?_
  refine a0a ((intKind prog w).pyHash (k:=val i) (intKind_is _ _ _ _) ?_)
  have hroom:(firstMet val i).length + 1 < scanBound:=by have:=firstMet_length_le val i;omega
  refine k3 (s:={ s' with toks:=s'.toks + 1 }) (intKind_is _ _ _ _) rfl hS' hroom λh' hsb hS2=>?_
  have hSi:bC prog w S (λk'=>(firstMet val (i + 1)).any (· == k')) (firstMet val (i + 1)).length h' :=
   hS2.congr (λk'=>by rw [firstMet_succ,step_any]) (by rw [firstMet_succ,step_length])
  refine a0d ⟨plainId_quiet F.plain_set_update_loop _,ih (i + 1) _ (by omega) hlt (W.frame _ s' _ _ hst' (Nat.le_succ _) λb hb o e=>?_) hSi λs'' hm'' hS''=>?_⟩
  ·rw [hsb.2 b (λh:b = S=>hSf (by rw [<- h];exact hb))];exact e
  ·refine hR s'' (Moved.trans W.gtrans ((hm.mono hsub).then_heap (Nat.le_succ _) λb o hb e=>?_) hm'') hS''
   rw [hsb.2 b (λh:b = S=>hb (by rw [h];exact a0m))];exact e
end
end
end L2
namespace PySem
section
variable {prog:Program} {w:World} {A:Around} {E:Value -> Shared -> Prop} {s:Shared}
set_option maxHeartbeats 3200000 in
theorem call_set_list_x {l:Addr} {items:Array Value} {ns:List Int} {Q:Value -> Shared -> Prop}
  (hh:A.handled = none) (hl:s.heap.IsList l items) (hi:PyProof.Rows.IntsAre items.toList ns) (hb:items.size + 1 < scanBound)
  (h:∀ (h':Heap) (tk:Nat),L2.bC prog w s.heap.objs.size (λk'=>(PyProof.Rows.firstMet (λi=>ns.getD i 0) items.size).any (· == k')) (PyProof.Rows.firstMet (λi=>ns.getD i 0) items.size).length h' ->
   (∀ b o,b < s.heap.objs.size -> s.heap.get? b = some o -> h'.get? b = some o) -> Q (.ref s.heap.objs.size) { s with heap:=h',toks:=tk }) :
  wpAny (model prog w) A (call (.type "set") [.ref l]) Q E s:=by
 obtain ⟨c,tl,hmro⟩:=F.called_set.mro
 have hmade:=F.called_set.made
 have hsub:=F.called_set.sub
 refine wpAny_call (codeAny_of_tree ?_)
 show wpAny _ _ (callAny (.type "set") _) _ _ _
 refine a0d ⟨Code.quiet_builtin _ (by decide +kernel),codeAny_builtin F.entry_type_call ?_⟩
 rw [Around.under_plain (weight_type_call_type "set" [.ref l] []) rfl]
 have h1:=F.called_set.notType
 have h2:=F.called_set.canCreate
 have hct:=F.typeCall_set_1 (.ref l)
 repeat (any_goals (first | assumption | wp_step))
 refine codeAny_mono (L2.qL (w:=w) (.ref l) (E:=E) (Q₁:=λobj s₁=>obj = .ref s.heap.objs.size /\ s₁ = { s with heap:=s.heap.push (L2.aW w) }) ⟨rfl,rfl⟩) λr s₁ hr=>?_
 cases r with
 | error e=>exact hr
 | ok fl =>
  cases fl with
  | ret obj =>
   obtain ⟨rfl,rfl⟩:=hr
   have hS:(s.heap.push (L2.aW w)).get? s.heap.objs.size = some (L2.aW w):=Heap.get?_push_size _ rfl
   have hT:Shared.TypeIs { s with heap:=s.heap.push (L2.aW w) } (.ref s.heap.objs.size) "set" := ⟨_,hS,rfl⟩
   have hli:=F.called_set.init.lookup
   have hbi:=F.called_set.init.bind (.ref s.heap.objs.size)
   repeat (any_goals (first | assumption | wp_step))
   refine codeAny_mono (codeAny_call_builtin (R:=wants (λr s₂=>r = .none /\ ∃ h' tk,s₂ = { s with heap:=h',toks:=tk } /\
     L2.bC prog w s.heap.objs.size (λk'=>(PyProof.Rows.firstMet (λi=>ns.getD i 0) items.size).any (· == k')) (PyProof.Rows.firstMet (λi=>ns.getD i 0) items.size).length h' /\
     (∀ b o,b < s.heap.objs.size -> s.heap.get? b = some o -> h'.get? b = some o)) E) F.called_set.init.plain F.entry_set_init (check_set_init_1 hT ?_)) λr₂ s₂ hr₂=>?_
   ·obtain ⟨ol,hol,hcl,nl,hdl⟩:=hl
    obtain ⟨ocls,odict,odata,oslots⟩:=ol
    simp only at hcl hdl
    subst hcl;subst hdl
    have hol':(s.heap.push (L2.aW w)).get? l = some { cls:=.type "list",dict:=odict,data:=.seq items nl,slots:=oslots }:=a0e _ hol
    have hsls:=F.sub_list_set
    have hslf:=F.sub_list_frozenset
    have hne:(Value.type "list" == Value.type "dict") = false:=by decide
    have hl1:(s.heap.push (L2.aW w)).IsList l items:=⟨_,hol',rfl,nl,rfl⟩
    unfold Builtin.«set.__init__» noKeywords Builtin.Frozenset.updateFrom
    generalize hPI:pyIter = PI
    wp_walk
    subst hPI
    refine wpAny_pyIter_list hl1 ?_
    refine a0a (wpAny_runValue ?_)
    have hlS:l < s.heap.objs.size:=a0n hol
    have hh3:A.in1.in1.in1.handled = none:=by simp [hh]
    have hneI:l ≠ (s.heap.push (L2.aW w)).objs.size:=by
     rw [Heap.size_push];exact Nat.ne_of_lt (Nat.lt_succ_of_lt hlS)
    have hSf:s.heap.objs.size ∉ [(s.heap.push (L2.aW w)).objs.size,l]:=by
     rw [Heap.size_push];simp only [List.mem_cons,List.mem_singleton,List.not_mem_nil,or_false,not_or]
     exact ⟨Nat.ne_of_lt (Nat.lt_succ_self _),Nat.ne_of_gt hlS⟩
    have hval:∀ (i:Nat) (v:Value),items[i]? = some v -> ∃ t,v = .int ((λi=>ns.getD i 0) i) t:=λi v hv =>
     PyProof.Rows.IntsAre.int_at hi i v (by rw [Array.getElem?_toList];exact hv)
    refine L2.xB ((Walks.list hh3 _ l hneI items).toS) s.heap.objs.size
     hSf (λi=>ns.getD i 0) hval hb (items.size - 0) 0 _ (by omega) (Nat.zero_le _)
     ⟨⟨_,Heap.get?_push_size _ rfl,rfl,rfl⟩,(hl1.push _)⟩ ?hS0 ?hR
    case hS0 =>
     have hget:((s.heap.push (L2.aW w)).push { cls:=.type "list_iterator",data:=.fields #[.ref l,.int 0 0] }).get? s.heap.objs.size
       = some (L2.aW w):=a0e _ hS
     exact (L2.D9 hget).congr (λ_=>rfl) rfl
    case hR =>
     intro s' hm hS'
     obtain ⟨h',g',d',tk',os'⟩:=s'
     have eg:g' = s.gens:=hm.gens
     have ed:d' = s.drawn:=hm.drawn
     have eo:os' = s.os:=hm.os
     subst eg;subst ed;subst eo
     show wpAny _ _ _ _ _ _
     refine a0d ?_
     show wpAny _ _ (ret Value.none) _ _ _
     refine a0d ⟨rfl,h',tk',rfl,hS',λb o hb e=>?_⟩
     have hb1:b ≠ s.heap.objs.size:=Nat.ne_of_lt hb
     have hb2:b ≠ (s.heap.push (L2.aW w)).objs.size:=by
      rw [Heap.size_push];exact Nat.ne_of_lt (Nat.lt_succ_of_lt hb)
     exact hm.heap b o (by simp only [List.mem_cons,List.mem_singleton,List.not_mem_nil,or_false,not_or];exact ⟨hb1,hb2⟩) (a0e _ (a0e _ e))
   ·cases r₂ with
    | error e=>exact hr₂
    | ok fl₂ =>
     cases fl₂ with
     | ret r =>
      obtain ⟨rfl,h',tk,rfl,hS',hk'⟩:=hr₂
      repeat (any_goals (first | assumption | wp_step))
      exact h _ _ hS' hk'
     | _=>exact hr₂.elim
  | _=>exact hr.elim
end
end PySem
namespace L2
open PySem PySem.Spec PyProof.Rows
theorem yJ {α β:Type} {f f':α -> Option β}:∀ {l:List α},(∀ a ∈ l,f' a = f a) -> l.filterMap f' = l.filterMap f
 | [],_=>rfl
 | a :: l,h=>by rw [List.filterMap_cons,List.filterMap_cons,h a a0m,yJ λb hb=>h b (a0j _ hb)]
theorem D7 {α β:Type} {a:α} {x:β} {f f':α -> Option β} (h1:f a = none) (h2:f' a = some x):∀ {l:List α},l.Nodup -> a ∈ l -> (∀ b ∈ l,b ≠ a -> f' b = f b) -> (l.filterMap f').Perm (x :: l.filterMap f)
 | [],_,h,_=>by cases h
 | b :: l,nd,h,h3=>by
  have nd':=List.nodup_cons.mp nd
  by_cases e:b = a
  ·subst e
   have same:l.filterMap f' = l.filterMap f:=yJ λc hc=>h3 c (a0j _ hc) λz=>nd'.1 (z ▸ hc)
   rw [List.filterMap_cons,List.filterMap_cons,h1,h2,same]
  ·have hm:a ∈ l:=(List.mem_cons.mp h).resolve_left λz=>e z.symm
   have ih:=D7 h1 h2 nd'.2 hm λc hc=>h3 c (a0j _ hc)
   rw [List.filterMap_cons,List.filterMap_cons,h3 b a0m e]
   cases f b with
   | none=>exact ih
   | some y=>exact (ih.cons y).trans (List.Perm.swap x y _)
theorem J1 {α β:Type} {f:α -> Option β}:∀ {l:List α},(∀ a ∈ l,(f a).isSome = true) -> (l.filterMap f).length = l.length
 | [],_=>rfl
 | a :: l,h=>by
  have:=h a a0m
  rw [List.filterMap_cons]
  cases e:f a with
  | none=>rw [e] at this;cases this
  | some y=>simp [J1 λb hb=>h b (a0j _ hb)]
def lv (M:Nat) (owner:Array (Option Nat)):List (Nat × Nat):=(List.range M).filterMap λj=>(owner.getD j none).map (j,·)
theorem UC {M j k:Nat} {owner:Array (Option Nat)} (hs:owner.size = M) (hj:j < M) (hn:owner.getD j none = none):((lv M (owner.setIfInBounds j (some k))).map (·.2)).Perm (k :: (lv M owner).map (·.2)):=by
 have get:∀ b,(owner.setIfInBounds j (some k)).getD b none = if b = j then some k else owner.getD b none:=λb=>by
  rw [Array.getD_eq_getD_getElem?,Array.getD_eq_getD_getElem?,Array.getElem?_setIfInBounds]
  by_cases e:b = j
  ·subst e;simp [hs,hj]
  ·have e':¬ j = b:=λz=>e z.symm
   simp [e,e']
 have:=D7 (a:=j) (x:=(j,k)) (f:=λi=>(owner.getD i none).map (i,·)) (f':=λi=>((owner.setIfInBounds j (some k)).getD i none).map (i,·)) (by rw [hn];rfl) (by rw [get,if_pos rfl];rfl) (l:=List.range M) List.nodup_range (List.mem_range.mpr hj) λb _ hb=>by rw [get,if_neg hb]
 exact this.map (·.2)
theorem OB {M:Nat} {owner:Array (Option Nat)} (h:(lv M owner).length < M):∃ j,j < M /\ owner.getD j none = none:=by
 refine Classical.byContradiction λhc=>?_
 have:(lv M owner).length = (List.range M).length:=J1 λj hj=>by
  cases e:owner.getD j none with
  | none=>exact absurd ⟨j,List.mem_range.mp hj,e⟩ hc
  | some y=>rfl
 rw [List.length_range] at this
 omega
def lp (mask:Nat):Nat -> Nat -> Nat -> Nat × Nat
 | 0,i,p=>(i,p)
 | t + 1,i,p=>lp mask t (SetTable.leap mask i p).1 (SetTable.leap mask i p).2
theorem JM (mask:Nat):∀ (a b i p:Nat),lp mask (a + b) i p = lp mask b (lp mask a i p).1 (lp mask a i p).2
 | 0,b,i,p=>by rw [Nat.zero_add];rfl
 | a + 1,b,i,p=>by rw [Nat.succ_add];exact JM mask a b _ _
theorem Y4 (mask:Nat):∀ (t i p:Nat),(lp mask t i p).2 = p / 32 ^ t
 | 0,i,p=>by simp [lp]
 | t + 1,i,p=>by
  rw [lp,Y4 mask t]
  show (p / 32) / 32 ^ t = _
  rw [Nat.div_div_eq_div_mul,Nat.pow_succ,Nat.mul_comm]
theorem R8 (mask:Nat):∀ (t i p:Nat),i < mask + 1 -> (lp mask t i p).1 < mask + 1
 | 0,i,p,h=>h
 | t + 1,i,p,h=>R8 mask t _ _ (Nat.mod_lt _ (Nat.succ_pos _))
def a0O (M:Nat):Nat -> Nat -> List Nat
 | 0,_=>[]
 | n + 1,i=>i :: a0O M n ((i * 5 + 1) % M)
def full (M:Nat):Bool:=(List.range M).all λi=>(λo:List Nat=>(List.range M).all λj=>o.contains j) (a0O M M i)
theorem JV {mask:Nat}:∀ {n i j:Nat},j ∈ a0O (mask + 1) n i -> ∃ u,u < n /\ (lp mask u i 0).1 = j
 | 0,i,j,h=>by cases h
 | n + 1,i,j,h=>by
  rcases List.mem_cons.mp h with z | z
  ·exact ⟨0,Nat.succ_pos _,z.symm⟩
  ·obtain ⟨u,hu,e⟩:=JV z
   exact ⟨u + 1,Nat.succ_lt_succ hu,e⟩
theorem J5 {mask:Nat} (hf:full (mask + 1) = true) (h:Int) {j0:Nat} (hj:j0 < mask + 1):∃ t,t < SetTable.turns mask /\ (lp mask t (SetTable.bits h % (mask + 1)) (SetTable.bits h)).1 = j0:=by
 have p0:(lp mask 13 (SetTable.bits h % (mask + 1)) (SetTable.bits h)).2 = 0:=by
  rw [Y4]
  refine Nat.div_eq_of_lt ?_
  unfold SetTable.bits
  have:(h % (2 ^ 64:Int)).toNat < 2 ^ 64:=by
   have h1:h % (2 ^ 64:Int) < 2 ^ 64:=Int.emod_lt_of_pos _ (by decide)
   have h0:0 <= h % (2 ^ 64:Int):=Int.emod_nonneg _ (by decide)
   omega
  exact Nat.lt_of_lt_of_le this (by decide)
 have i0:=R8 mask 13 (SetTable.bits h % (mask + 1)) (SetTable.bits h) (Nat.mod_lt _ (Nat.succ_pos _))
 unfold full at hf
 rw [List.all_eq_true] at hf
 have h1:=hf _ (List.mem_range.mpr i0)
 dsimp only at h1
 rw [List.all_eq_true] at h1
 have h2:=h1 j0 (List.mem_range.mpr hj)
 rw [List.contains_iff_mem] at h2
 obtain ⟨u,hu,e⟩:=JV h2
 refine ⟨13 + u,by unfold SetTable.turns;omega,?_⟩
 rw [JM,p0];exact e
theorem yL {mask:Nat} {owner:Array (Option Nat)} {j0:Nat} (h0:(owner.getD j0 (some 0)).isNone = true):∀ (fuel i p:Nat),(∃ t,t < fuel /\ (lp mask t i p).1 = j0) -> ∃ j,SetTable.layClean.free mask owner fuel i p = some j
 | 0,i,p,h=>by obtain ⟨t,ht,_⟩:=h;omega
 | fuel + 1,i,p,h=>by
  rw [SetTable.layClean.free]
  cases e:(List.range (SetTable.runEnd mask i + 1 - i)).find? λk=>(owner.getD (i + k) (some 0)).isNone with
  | some k=>exact ⟨_,rfl⟩
  | none =>
   dsimp only
   obtain ⟨t,ht,hl⟩:=h
   cases t with
   | zero =>
    exfalso
    have hi:i = j0:=hl
    subst hi
    have:=List.find?_eq_none.mp e 0 (List.mem_range.mpr (by unfold SetTable.runEnd;split <;> omega))
    rw [Nat.add_zero] at this
    exact this h0
   | succ t=>exact yL h0 fuel _ _ ⟨t,by omega,hl⟩
theorem D8 {mask:Nat} {owner:Array (Option Nat)} {j:Nat}:∀ (fuel i p:Nat),SetTable.layClean.free mask owner fuel i p = some j -> (owner.getD j (some 0)).isNone = true
 | 0,i,p,h=>by rw [SetTable.layClean.free] at h;cases h
 | fuel + 1,i,p,h=>by
  rw [SetTable.layClean.free] at h
  cases e:(List.range (SetTable.runEnd mask i + 1 - i)).find? λk=>(owner.getD (i + k) (some 0)).isNone with
  | some k =>
   rw [e] at h
   cases h
   have:=List.find?_some e
   exact this
  | none =>
   rw [e] at h
   exact D8 fuel _ _ h
theorem OG {owner:Array (Option Nat)} {j:Nat} (h:(owner.getD j (some 0)).isNone = true):j < owner.size /\ owner.getD j none = none:=by
 rw [Array.getD_eq_getD_getElem?] at h
 by_cases hj:j < owner.size
 ·rw [Array.getElem?_eq_getElem hj] at h
  refine ⟨hj,?_⟩
  rw [Array.getD_eq_getD_getElem?,Array.getElem?_eq_getElem hj]
  simpa using h
 ·rw [Array.getElem?_eq_none (Nat.le_of_not_lt hj)] at h
  cases h
theorem yQ {mask:Nat} (hf:full (mask + 1) = true):∀ (hs:List Int) (owner:Array (Option Nat)) (k:Nat),owner.size = mask + 1 -> ((lv (mask + 1) owner).map (·.2)).Perm (List.range k) -> k + hs.length <= mask + 1 ->
  ∃ owner',(hs.foldl (λ(acc:Option (Array (Option Nat) × Nat)) h=>do
   let (owner,k) <- acc
   let j <- SetTable.layClean.free mask owner (SetTable.turns mask) (SetTable.bits h % (mask + 1)) (SetTable.bits h)
   pure (owner.setIfInBounds j (some k),k + 1)) (some (owner,k))) = some (owner',k + hs.length) /\ owner'.size = mask + 1 /\ ((lv (mask + 1) owner').map (·.2)).Perm (List.range (k + hs.length))
 | [],owner,k,h1,h2,_=>⟨owner,rfl,h1,h2⟩
 | h :: hs,owner,k,h1,h2,h3=>by
  rw [List.length_cons] at h3
  have hl:(lv (mask + 1) owner).length = k:=by have:=h2.length_eq;simpa using this
  obtain ⟨j0,hj0,hn0⟩:=OB (M:=mask + 1) (owner:=owner) (by omega)
  have h0:(owner.getD j0 (some 0)).isNone = true:=by
   rw [Array.getD_eq_getD_getElem?,Array.getElem?_eq_getElem (by omega)] at hn0 ⊢
   simpa using hn0
  obtain ⟨j,hj⟩:=yL h0 _ _ _ (J5 hf h hj0)
  obtain ⟨jlt,jn⟩:=OG (D8 _ _ _ hj)
  have perm:((lv (mask + 1) (owner.setIfInBounds j (some k))).map (·.2)).Perm (List.range (k + 1)):=by
   refine (UC h1 (by omega) jn).trans ((h2.cons k).trans ?_)
   rw [List.range_succ]
   exact (List.perm_append_singleton k (List.range k)).symm
  obtain ⟨o',e1,e2,e3⟩:=yQ hf hs (owner.setIfInBounds j (some k)) (k + 1) (by simp [h1]) perm (by omega)
  refine ⟨o',?_,e2,?_⟩
  ·rw [List.foldl_cons]
   have e4:(do
    let (owner,k) <- (some (owner,k):Option (Array (Option Nat) × Nat))
    let j <- SetTable.layClean.free mask owner (SetTable.turns mask) (SetTable.bits h % (mask + 1)) (SetTable.bits h)
    pure (owner.setIfInBounds j (some k),k + 1)) = some (owner.setIfInBounds j (some k),k + 1):=by
    show (SetTable.layClean.free mask owner (SetTable.turns mask) (SetTable.bits h % (mask + 1)) (SetTable.bits h)).bind (λj=>some (owner.setIfInBounds j (some k),k + 1)) = _
    rw [hj];rfl
   refine Eq.trans (congrArg (λz=>List.foldl _ z hs) e4) ?_
   rw [e1,List.length_cons];congr 2;omega
  ·rw [List.length_cons,show k + (hs.length + 1) = k + 1 + hs.length by omega];exact e3
theorem DM {M m:Nat}:lv M (Array.replicate m none) = []:=by
 unfold lv
 rw [List.filterMap_eq_nil_iff]
 intro j _
 rw [Array.getD_eq_getD_getElem?,Array.getElem?_replicate]
 split <;> rfl
theorem O0 {mask finger moves:Nat} {led plain:Bool} {hs:Array Int} (hf:full (mask + 1) = true) (hl:hs.size <= mask + 1) :
  ∃ t order,SetTable.laid mask finger moves led plain hs = some (t,order) /\ order.toList.Perm (List.range hs.size) /\ t.mask = mask /\ t.place.size = hs.size /\ t.dummies = #[]:=by
 obtain ⟨o,e1,e2,e3⟩:=yQ hf hs.toList (Array.replicate (mask + 1) none) 0 (by simp) (by rw [DM];exact .refl _) (by simpa using hl)
 have e4:SetTable.layClean mask hs = some o:=by
  unfold SetTable.layClean
  rw [<- Array.foldl_toList]
  refine Eq.trans (congrArg (Option.map (·.1)) e1) rfl
 rw [Nat.zero_add,a0l] at e3
 have len:(lv (mask + 1) o).length = hs.size:=by have:=e3.length_eq;simpa using this
 refine ⟨_,_,by unfold SetTable.laid;rw [e4];rfl,?_,rfl,?_,rfl⟩
 ·show (((lv (mask + 1) o).map (·.2)).toArray).toList.Perm _
  simpa using e3
 ·show (((lv (mask + 1) o).map (·.1)).toArray).size = _
  simpa using len
theorem XU:full 8 = true:=by decide +kernel
theorem TC:full 16 = true:=by decide +kernel
theorem TF:full 32 = true:=by decide +kernel
theorem TH:full 64 = true:=by decide +kernel
section
variable {prog:Program} {w:World} {A:Around} {E:Value -> Shared -> Prop} {s:Shared}
theorem JQ {Q:Value -> Shared -> Prop} (h:Q (.ref s.heap.objs.size) { s with heap:=s.heap.push (aW w) }):wpAny (model prog w) A (newSet (.type "set")) Q E s:=by
 unfold newSet setsByText
 refine a0a (a0a (wpAny_askSetting (a0d ?_)))
 dsimp only
 simp only [newObj]
 exact a0a (wpAny_alloc (a0d h))
def MF (w:World) (h:Heap) (a:Addr) (mask:Nat):Prop:=∃ o ep mv,h.get? a = some o /\ o.ExactSet /\ o.data = .set #[] ep ⟨mask,#[],#[],0,!w.params.followText "set-order",mv,true⟩
theorem JC {mask finger moves:Nat} {led plain:Bool}:SetTable.laid mask finger moves led plain #[] = some (⟨mask,#[],#[],finger,led,moves,plain⟩,#[]):=by
 unfold SetTable.laid
 have e:SetTable.layClean mask #[] = some (Array.replicate (mask + 1) none):=by
  unfold SetTable.layClean
  rw [<- Array.foldl_toList];rfl
 rw [e]
 show some (_,_) = _
 have e2:(List.range (mask + 1)).filterMap (λj=>((Array.replicate (mask + 1) (none:Option Nat)).getD j none).map (j,·)) = []:=DM
 rw [e2];rfl
theorem zR {a:Addr} {m0 wanted:Nat} {Q:Unit -> Shared -> Prop} (hE:MF w s.heap a m0) (hw:SetTable.sizeAbove wanted <= 64) (k:∀ h',Heap.SameBut a s.heap h' -> MF w h' a (SetTable.sizeAbove wanted - 1) -> Q () { s with heap:=h' }) :
  wpAny (model prog w) A (setRelay a wanted) Q E s:=by
 obtain ⟨o,ep,mv,ho,hex,hd⟩:=hE
 unfold setRelay
 refine a0a (wpAny_setState_of ho hd (by simp [SetTable.fits,SetTable.fill]) ?_)
 dsimp only
 rw [if_neg (by rw [sizeLine_eq];omega)]
 have e:SetTable.relaid ⟨m0,#[],#[],0,!w.params.followText "set-order",mv,true⟩ (Array.map (·.1) (#[]:Array (Int × Value))) wanted = some (⟨SetTable.sizeAbove wanted - 1,#[],#[],0,!w.params.followText "set-order",SetTable.movedTo ⟨m0,#[],#[],0,!w.params.followText "set-order",mv,true⟩ (SetTable.sizeAbove wanted - 1),true⟩,#[]):=by
  unfold SetTable.relaid
  rw [show Array.map (·.1) (#[]:Array (Int × Value)) = #[] by simp]
  exact JC
 rw [e]
 show wpAny _ _ (pure (#[],_) >>= _) _ _ _
 refine a0a (a0d ?_)
 refine wpAny_storeSet_of ho hd (k _ (Heap.SameBut.update _ a _) ?_) (by simp)
 obtain ⟨h1,_⟩:=SetOf_store (knd:=intKind prog w) (S':=λ_=>false) (es':=#[]) (t':=⟨SetTable.sizeAbove wanted - 1,#[],#[],0,!w.params.followText "set-order",SetTable.movedTo ⟨m0,#[],#[],0,!w.params.followText "set-order",mv,true⟩ (SetTable.sizeAbove wanted - 1),true⟩) ho hex hd (λe he=>by simp at he) (λk=>by simp) (by decide) (by simp [SetTable.fits,SetTable.fill])
 exact ⟨_,_,_,h1,hex,rfl⟩
def bJ (m:Nat):Nat:=if m * 5 ≥ 21 then SetTable.sizeAbove (m * 2) - 1 else 7
def DN (m:Nat):Bool:=[7,15,31,63].contains (bJ m) && decide (m <= bJ m) && decide (SetTable.sizeAbove (m * 2) <= 64)
theorem OC:(List.range 32).all DN = true:=by decide +kernel
theorem lQ (m:Fin 32):(bJ m = 7 \/ bJ m = 15 \/ bJ m = 31 \/ bJ m = 63) /\ (m:Nat) <= bJ m /\ SetTable.sizeAbove (m * 2) <= 64:=by
 have h:=List.all_eq_true.mp OC m.1 (List.mem_range.mpr m.2)
 unfold DN at h
 rw [Bool.and_eq_true,Bool.and_eq_true,decide_eq_true_iff,decide_eq_true_iff,List.contains_iff_mem] at h
 refine ⟨?_,h.1.2,h.2⟩
 simpa using h.1.1
theorem JN {m:Nat} (h:m < 32):full (bJ m + 1) = true:=by
 have h1:bJ m = 7 \/ bJ m = 15 \/ bJ m = 31 \/ bJ m = 63:=(lQ ⟨m,h⟩).1
 generalize bJ m = M at h1
 rcases h1 with e | e | e | e
 ·subst e;exact XU
 ·subst e;exact TC
 ·subst e;exact TF
 ·subst e;exact TH
theorem tG {a:Addr} {m:Nat} {Q:Unit -> Shared -> Prop} (hE:s.heap.get? a = some (aW w)) (hm:m < 32) (k:∀ h',Heap.SameBut a s.heap h' -> MF w h' a (bJ m) -> Q () { s with heap:=h' }) :
  wpAny (model prog w) A (setRoomFor a m) Q E s:=by
 have hE0:MF w s.heap a 7:=⟨_,0,0,hE,⟨rfl,rfl,rfl⟩,rfl⟩
 unfold setRoomFor
 refine a0a (wpAny_setState_of (es:=#[]) (ep:=0) (t:=.fresh 0 0 (!w.params.followText "set-order")) hE rfl (by rfl) ?_)
 dsimp only
 have e:(SetTable.fresh 0 0 (!w.params.followText "set-order")).roomFor m = if m * 5 ≥ 21 then some (m * 2) else none:=by
  unfold SetTable.roomFor
  show (if (0 + m) * 5 ≥ 7 * 3 then some ((0 + m) * 2) else none) = _
  rw [Nat.zero_add]
 rw [e]
 by_cases h:m * 5 ≥ 21
 ·rw [if_pos h]
  have em:bJ m = SetTable.sizeAbove (m * 2) - 1:=if_pos h
  refine zR hE0 (lQ ⟨m,hm⟩).2.2 λh' sb hE'=>k h' sb ?_
  rw [em];exact hE'
 ·rw [if_neg h]
  have em:bJ m = 7:=if_neg h
  have:=k s.heap (Heap.SameBut.refl a s.heap) (by rw [em];exact hE0)
  exact a0d this
theorem J2 {α:Type} (xs:Array α):(List.range xs.size).filterMap (λi=>xs[i]?) = xs.toList:=by
 have:(List.range xs.size).filterMap (λi=>xs[i]?) = (List.range xs.toList.length).filterMap (λi=>xs.toList[i]?):=by simp
 rw [this]
 induction xs.toList with
 | nil=>rfl
 | cons a l ih =>
  rw [List.length_cons,List.range_succ_eq_map,List.filterMap_cons]
  simp only [List.getElem?_cons_zero,List.filterMap_map]
  congr 1
theorem OD {a b:Addr} {S:Int -> Bool} {n:Nat} {each:Sem Unit} {Q:Unit -> Shared -> Prop} (hE:s.heap.get? a = some (aW w)) (hne:a ≠ b) (hX:bC prog w b S n s.heap) (hn:n < 32)
  (k:∀ h',Heap.SameBut a s.heap h' -> bC prog w a S n h' -> Q () { s with heap:=h' }):wpAny (model prog w) A (setMerge a b each) Q E s:=by
 obtain ⟨o,es,ep,t,ho,hex,hd,hel,hmem,hb,hf,hsz,hwk,hnd⟩:=hX
 unfold setMerge
 rw [if_neg (by simpa using hne)]
 refine a0a (wpAny_setState_of ho hd hf ?_)
 dsimp only
 by_cases he:es.isEmpty = true
 ·rw [if_pos he]
  have e0:es = #[]:=by simpa using he
  subst e0
  have:=k s.heap (Heap.SameBut.refl a s.heap) ((D9 hE).congr (λj=>by
   cases hj:S j with
   | false=>rfl
   | true=>obtain ⟨e,h,_⟩:=(hmem j).mp hj;simp at h) (by simpa using hsz))
  exact a0d this
 ·rw [if_neg he]
  refine a0a (tG hE (by omega) λh1 sb1 hE1=>?_)
  obtain ⟨o1,ep1,mv1,ho1,hex1,hd1⟩:=hE1
  refine a0a (wpAny_setState_of (s:={ s with heap:=h1 }) ho1 hd1 (by simp [SetTable.fits,SetTable.fill]) ?_)
  dsimp only
  have ok:=lQ ⟨es.size,by omega⟩
  have hle:es.size <= bJ es.size:=ok.2.1
  have wkled:w.params.followText "set-order" = true \/ t.led = true:=hwk.imp id λz=>z.1
  have fin:∀ (es':Array (Int × Value)) (t':SetTable),es'.toList.Perm es.toList -> t'.fits es'.size = true -> HB (w.params.followText "set-order") t' -> wpAny (model prog w) A (storeSet a es' t') Q E { s with heap:=h1 }:=by
   intro es' t' hp hf' hw'
   have hel':ElemsOf (intKind prog w) es'.toList:=hel.perm hp
   have hmem':∀ k,S k = true ↔ ∃ e ∈ es'.toList,(intKind prog w).is k e.2 = true:=λk=>by
    rw [hmem k]
    constructor
    ·rintro ⟨e,h,z⟩;exact ⟨e,hp.mem_iff.mpr h,z⟩
    ·rintro ⟨e,h,z⟩;exact ⟨e,hp.mem_iff.mp h,z⟩
   have hz:es'.size = es.size:=by rw [<- a0l,hp.length_eq,a0l]
   have hb':es'.size < scanBound:=by rw [hz];exact hb
   refine wpAny_storeSet_of (s:={ s with heap:=h1 }) ho1 hd1 (k _ (sb1.trans (Heap.SameBut.update _ a _)) ?_) (fits_of_scanBound hb')
   obtain ⟨h2,_⟩:=SetOf_store (knd:=intKind prog w) (S':=S) ho1 hex1 hd1 hel' hmem' hb' hf'
   exact ⟨_,es',_,t',h2,hex1,rfl,hel',hmem',hb',hf',by rw [hz];exact hsz,hw',(hp.map _).nodup_iff.mpr hnd⟩
  have hfits:=hf
  simp only [SetTable.fits,Bool.and_eq_true,beq_iff_eq,decide_eq_true_eq] at hfits
  unfold SetTable.road
  rw [if_neg (by simp [SetTable.fill])]
  by_cases hr:((bJ es.size == t.mask) && t.dummies.isEmpty) = true
  ·rw [if_pos hr]
   refine fin es _ (.refl _) ?_ ?_
   ·have:SetTable.fits { t with finger:=0,led:=(!w.params.followText "set-order") && t.led,moves:=mv1,plain:=true && t.plain } es.size = t.fits es.size:=rfl
    exact this.trans hf
   ·rcases hwk with z | z
    ·exact .inl z
    ·cases hbt:w.params.followText "set-order" with
     | true=>exact .inl rfl
     | false=>exact .inr ⟨by simp [z.1],λq=>z.2 (by simpa using q)⟩
  ·rw [if_neg hr]
   obtain ⟨t',order,e1,e2,e3,e4,e5⟩:=O0 (mask:=bJ es.size) (finger:=0) (moves:=mv1) (led:=(!w.params.followText "set-order") && t.led) (plain:=true && t.plain) (hs:=es.map (·.1)) (JN (by omega)) (by simp;omega)
   obtain ⟨r1,r2,r3⟩:=yP e1
   rw [Array.size_map] at e2 e4
   have hperm:(order.filterMap (es[·]?)).toList.Perm es.toList:=by
    rw [Array.toList_filterMap]
    have:=e2.filterMap (λi=>es[i]?)
    rw [J2] at this
    exact this
   have hsz':(order.filterMap (es[·]?)).size = es.size:=by rw [<- a0l,hperm.length_eq,a0l]
   have e1':SetTable.laid (SetTable.mask ⟨bJ es.size,#[],#[],0,!w.params.followText "set-order",mv1,true⟩) 0 mv1 ((!w.params.followText "set-order") && t.led) (true && t.plain) (es.map (·.1)) = some (t',order):=e1
   dsimp only
   rw [e1']
   show wpAny _ _ ((if ((order.filterMap (es[·]?)).size != es.size) = true then (unsupported "internal:set-table-lost-an-element" >>= λ_=>pure (order.filterMap (es[·]?),t')) else pure (order.filterMap (es[·]?),t')) >>= _) _ _ _
   rw [hsz',if_neg (by simp)]
   refine a0a (a0d ?_)
   refine fin _ t' hperm ?_ ?_
   ·rw [hsz']
    simp only [SetTable.fits,Bool.and_eq_true,beq_iff_eq,decide_eq_true_eq]
    refine ⟨e4,?_⟩
    unfold SetTable.fill
    rw [e4,e5,e3]
    simpa using hle
   ·rcases hwk with z | z
    ·exact .inl z
    ·cases hbt:w.params.followText "set-order" with
     | true=>exact .inl rfl
     | false=>exact .inr ⟨by rw [r1,hbt];simp [z.1],λ_=>r3⟩
end
theorem dP {α:Type} (xs:Array α) (p:Nat):(SetTable.eraseAt xs p).toList = xs.toList.eraseIdx p:=by
 unfold SetTable.eraseAt
 rw [List.eraseIdx_eq_take_drop_succ,Array.toList_append]
 congr 1
 ·simp
 ·simp [List.take_of_length_le]
theorem iY {α:Type} {xs:Array α} {p:Nat} (h:p < xs.size):(SetTable.eraseAt xs p).size = xs.size - 1:=by
 rw [<- a0l,dP,List.length_eraseIdx,a0l,if_pos h]
theorem sV {α:Type} (xs:Array α) (p:Nat) (x:α):(SetTable.insertAt xs p x).size = xs.size + 1:=by
 unfold SetTable.insertAt
 simp
 omega
theorem FF {t:SetTable} {i n:Nat} (hf:t.fits n = true) (hi:i < n):(t.drop i).fits (n - 1) = true /\ (t.drop i).led = t.led /\ (t.drop i).plain = t.plain /\ (vJ t.place -> vJ (t.drop i).place):=by
 simp only [SetTable.fits,Bool.and_eq_true,beq_iff_eq,decide_eq_true_eq] at hf ⊢
 have hp:i < t.place.size:=by omega
 unfold SetTable.drop
 rw [Array.getElem?_eq_getElem hp]
 dsimp only
 refine ⟨⟨by rw [iY hp];omega,?_⟩,rfl,rfl,λhr=>?_⟩
 ·have h2:=hf.2
  unfold SetTable.fill at h2 ⊢
  dsimp only
  rw [iY hp,sV]
  omega
 ·unfold vJ at hr ⊢
  rw [dP]
  exact hr.sublist (List.eraseIdx_sublist ..)
theorem HQ {α:Type} {l:List α} {i:Nat} {e:α} (h:l[i]? = some e):l = l.take i ++ e :: l.drop (i + 1) /\ l.eraseIdx i = l.take i ++ l.drop (i + 1):=by
 obtain ⟨hi,rfl⟩:=a0i.mp h
 refine ⟨?_,List.eraseIdx_eq_take_drop_succ ..⟩
 rw [<- List.drop_eq_getElem_cons hi,List.take_append_drop]
section
variable {prog:Program} {w:World} {A:Around} {E:Value -> Shared -> Prop} {s:Shared}
theorem TN {k k':Int} {v:Value} (h:(intKind prog w).is k v = true) (h':(intKind prog w).is k' v = true):k = k':=by
 obtain ⟨t,rfl⟩:=bW h
 obtain ⟨t',e⟩:=bW h'
 cases e;rfl
theorem FD {a:Addr} {S:Int -> Bool} {n:Nat} {k:Int} {x:Value} {Q:Bool -> Shared -> Prop} (hkey:(intKind prog w).is k x = true) (hsc:x.scannable = true) (hS:bC prog w a S n s.heap)
  (h:∀ h',Heap.SameBut a s.heap h' -> bC prog w a (λk'=>S k' && !decide (k' = k)) (if S k then n - 1 else n) h' -> Q (S k) { s with heap:=h' }) :
  wpAny (model prog w) A (setDiscardHashed a x ((intKind prog w).hash k)) Q E s:=by
 obtain ⟨o,es,ep,t,ho,hex,hd,hel,hmem,hb,hf,hn,hwk,hnd⟩:=hS
 unfold setDiscardHashed setFind setFindIn
 refine a0a (a0a (wpAny_setState_of ho hd hf ?_))
 dsimp only
 rw [byScan_of hsc hb hel]
 simp only [↓reduceIte]
 refine a0a (wpAny_rule ?_)
 refine a0a (wpAny_setScan_of hkey ho hd hf hel ?_)
 cases hr:List.findIdx? (λe=>(intKind prog w).is k e.2) es.toList with
 | none =>
  dsimp only
  have hSk:S k = false:=by
   cases hk:S k with
   | false=>rfl
   | true=>obtain ⟨e,he,hp⟩:=(hmem k).mp hk;have:=List.findIdx?_eq_none_iff.mp hr e he;rw [hp] at this;exact Bool.noConfusion this
  have:=h s.heap (Heap.SameBut.refl a s.heap) ⟨o,es,ep,t,ho,hex,hd,hel,λk'=>by
   rw [<- hmem k',Bool.and_eq_true]
   refine ⟨λz=>z.1,λz=>⟨z,?_⟩⟩
   by_cases e:k' = k
   ·rw [e,hSk] at z;cases z
   ·simp [e],hb,hf,by rw [hSk];exact hn,hwk,hnd⟩
  rw [hSk] at this
  exact a0d (a0d this)
 | some j =>
  dsimp only
  obtain ⟨hj,hpj,_⟩:=List.findIdx?_eq_some_iff_getElem.mp hr
  have hSk:S k = true:=(hmem k).mpr ⟨es.toList[j],List.getElem_mem hj,hpj⟩
  have hj':j < es.size:=by simpa using hj
  obtain ⟨sp,er⟩:=HQ (a0b hj)
  rw [Nat.zero_add]
  refine a0d ?_
  refine a0a (wpAny_setState_of ho hd hf ?_)
  dsimp only
  obtain ⟨f1,f2,f3,f4⟩:=FF hf hj'
  have hel':ElemsOf (intKind prog w) (SetTable.eraseAt es j).toList:=by
   rw [dP,er]
   intro e he
   refine hel e ?_
   rw [sp]
   rcases List.mem_append.mp he with z | z
   ·exact List.mem_append_left _ z
   ·exact List.mem_append_right _ (a0j _ z)
  have hmem':∀ k',(S k' && !decide (k' = k)) = true ↔ ∃ e ∈ (SetTable.eraseAt es j).toList,(intKind prog w).is k' e.2 = true:=by
   intro k'
   rw [Bool.and_eq_true,hmem k',dP,er]
   constructor
   ·rintro ⟨⟨e,he,z⟩,hne⟩
    have hne:k' ≠ k:=by simpa using hne
    refine ⟨e,?_,z⟩
    rw [sp] at he
    rcases List.mem_append.mp he with y | y
    ·exact List.mem_append_left _ y
    ·rcases List.mem_cons.mp y with y | y
     ·subst y;exact absurd (TN z hpj) hne
     ·exact List.mem_append_right _ y
   ·rintro ⟨e,he,z⟩
    have hin:e ∈ es.toList:=by
     rw [sp]
     rcases List.mem_append.mp he with y | y
     ·exact List.mem_append_left _ y
     ·exact List.mem_append_right _ (a0j _ y)
    refine ⟨⟨e,hin,z⟩,?_⟩
    have:k' ≠ k:=by
     rintro rfl
     obtain ⟨t1,e1⟩:=bW z
     obtain ⟨t2,e2⟩:=bW hpj
     rw [sp,List.map_append,a0f] at hnd
     have nd:=List.nodup_append.mp hnd
     have i1:c7 e.2 = k':=by rw [e1];rfl
     have i2:c7 (es.toList[j]).2 = k':=by rw [e2];rfl
     rcases List.mem_append.mp he with y | y
     ·exact nd.2.2 _ (List.mem_map.mpr ⟨e,y,i1⟩) _ a0m i2.symm
     ·exact (List.nodup_cons.mp nd.2.1).1 (by rw [i2];exact List.mem_map.mpr ⟨e,y,i1⟩)
    simp [this]
  have hz:(SetTable.eraseAt es j).size = es.size - 1:=iY hj'
  have hb':(SetTable.eraseAt es j).size < scanBound:=by rw [hz];omega
  have hff:(t.drop j).fits (SetTable.eraseAt es j).size = true:=by rw [hz];exact f1
  refine a0a (wpAny_storeSet_of ho hd ?_ (fits_of_scanBound hb'))
  obtain ⟨h2,_⟩:=SetOf_store (knd:=intKind prog w) (S':=λk'=>S k' && !decide (k' = k)) ho hex hd hel' hmem' hb' hff
  have:=h _ (Heap.SameBut.update _ a _) ⟨_,_,_,_,h2,hex,rfl,hel',hmem',hb',hff,by rw [hSk,hz,hn];rfl,hwk.imp id λz=>⟨f2.trans z.1,λq=>f4 (z.2 (f3 ▸ q))⟩,by
   rw [dP,er]
   refine hnd.sublist ?_
   conv=>rhs;rw [sp]
   exact (List.Sublist.append (List.Sublist.refl _) (List.sublist_cons_self _ _)).map _⟩
  rw [hSk] at this
  exact a0a (wpAny_point (a0d this))
theorem T9 {a:Addr} {S:Int -> Bool} {n m:Nat} {k:Int} {x:Value} {Q:Unit -> Shared -> Prop} (hkey:(intKind prog w).is k x = true) (hsc:x.scannable = true) (hS:bC prog w a S n s.heap) (hn:n <= m) (hm:m + 1 < scanBound)
  (h:∀ h' n',Heap.SameBut a s.heap h' -> bC prog w a (λk'=>if k' = k then !S k else S k') n' h' -> n' <= m + 1 -> Q () { s with heap:=h' }) :
  wpAny (model prog w) A (holding [x] (do if !(<- setDiscardHashed a x ((intKind prog w).hash k)) then let _ <- setAddHashed a x ((intKind prog w).hash k))) Q E s:=by
 refine wpAny_holding (a0a (FD hkey hsc hS λh1 sb1 hS1=>?_))
 cases hSk:S k with
 | true =>
  rw [hSk] at hS1
  refine a0d (h h1 _ sb1 (hS1.congr (λk'=>?_) rfl) (by show n - 1 <= m + 1;omega))
  by_cases e:k' = k
  ·subst e;simp [hSk]
  ·simp [e]
 | false =>
  rw [hSk] at hS1
  refine a0a (k3 (s:={ s with heap:=h1 }) hkey hsc hS1 (by show n + 1 < scanBound;omega) λh2 sb2 hS2=>a0d (h h2 _ (sb1.trans sb2) (hS2.congr (λk'=>?_) rfl) ?_))
  ·by_cases e:k' = k
   ·subst e;simp [hSk]
   ·simp [e]
  ·rw [if_neg a0k]
   split <;> omega
end
section
variable {prog:Program} {w:World} {A:Around} {E:Value -> Shared -> Prop} {s:Shared}
theorem WV {b:Addr} {es:Array (Int × Value)} {ep:Nat} {t:SetTable} {Q:Array (Int × Value) -> Shared -> Prop} (hS:SetAt s.heap b es ep t) (hd:w.params.followText "set-order" = true \/ ((!t.plain && decide (es.size > 1)) = false /\ (!t.led && decide (es.size > 1)) = false))
  (h:∀ ys:Array (Int × Value),ys.toList.Perm es.toList -> Q ys s):wpAny (model prog w) A (setWalk b) Q E s:=by
 unfold setWalk
 refine a0a (hS.state ?_)
 dsimp only
 refine a0a (fP ?_)
 cases hbt:w.params.followText "set-order" with
 | true =>
  rw [if_pos rfl]
  exact a0a (wpAny_askSetting (a0d (h _ (dR _ _))))
 | false =>
  obtain ⟨h1,h2⟩:=hd.resolve_left (by rw [hbt];exact a0k)
  rw [if_neg a0k]
  rw [if_neg (by show ¬ ((!t.plain && decide (es.size > 1)) = true);rw [h1];exact a0k)]
  refine a0a ?_
  show wpAny _ _ (if (!t.led && decide (es.size > 1)) = true then unsupported "set:maker-not-led" else pure ()) _ _ _
  rw [h2,if_neg a0k]
  exact a0d (a0d (h es (.refl _)))
theorem qO {β:Type} (b:β) (g:(Int × Value) -> β -> Sem (ForInStep β)):∀ (l:List (Int × Value)),(∀ e ∈ l,g e b = pure (.yield b)) -> (forIn l b g:Sem β) = pure b
 | [],_=>by simp
 | e :: l,h=>by
  rw [List.forIn_cons,h e a0m]
  simp only [pure_bind]
  exact qO b g l λx hx=>h x (a0j _ hx)
theorem P6 {a b:Addr} {es es':Array (Int × Value)} {ep ep':Nat} {t t':SetTable} {Q:Bool -> Shared -> Prop} (hS:SetAt s.heap b es ep t) (hS':SetAt s.heap a es' ep' t') (h1:ElemsOf (intKind prog w) es.toList) (h2:ElemsOf (intKind prog w) es'.toList)
  (h:Q true s):wpAny (model prog w) A (setsQuiet [b,a]) Q E s:=by
 have isInt:∀ {l:List (Int × Value)},ElemsOf (intKind prog w) l -> ∀ e ∈ l,∃ k t,e.2 = Value.int k t:=λhl e he=>by
  obtain ⟨⟨k,hk,_⟩,_⟩:=hl e he
  obtain ⟨t,e2⟩:=bW hk
  exact ⟨k,t,e2⟩
 unfold setsQuiet setEntries
 have inner:∀ {l:Array (Int × Value)},ElemsOf (intKind prog w) l.toList -> (forIn l ((none:Option Bool),()) (λx __s=>match x with
   | (fst,x)=>match x with
    | Value.ref a=>do
     let __do_lift <- specialOf x (Str.ofString "__eq__")
     if (__do_lift != some (Value.builtin "object.__eq__")) = true then pure (ForInStep.done (some false,())) else pure (ForInStep.yield (none,()))
    | x=>pure (ForInStep.yield (none,()))):Sem (Option Bool × Unit)) = pure (none,()):=by
  intro l hl
  rw [<- Array.forIn_toList]
  refine qO _ _ _ λe he=>?_
  obtain ⟨k,t,ev⟩:=isInt hl e he
  obtain ⟨e1,e2⟩:=e
  dsimp only at ev
  subst ev
  rfl
 refine a0a ?_
 rw [List.forIn_cons]
 refine a0a (a0a (a0a (hS.state (a0d ?_))))
 refine a0a (wpAny_of_eq (inner h1) (a0d ?_))
 dsimp only
 rw [List.forIn_cons]
 refine a0a (a0a (a0a (hS'.state (a0d ?_))))
 refine a0a (wpAny_of_eq (inner h2) (a0d ?_))
 dsimp only
 rw [List.forIn_nil]
 exact a0d (a0d h)
theorem bC.at_ {a:Addr} {S:Int -> Bool} {n:Nat} {h:Heap} (x:bC prog w a S n h):∃ es ep t,SetAt h a es ep t /\ ElemsOf (intKind prog w) es.toList /\ (∀ k,S k = true ↔ ∃ e ∈ es.toList,(intKind prog w).is k e.2 = true) /\ es.size < scanBound /\ es.size = n /\ HB (w.params.followText "set-order") t /\ (es.toList.map λe=>c7 e.2).Nodup:=by
 obtain ⟨o,es,ep,t,ho,hex,hd,hel,hmem,hb,hf,hn,hwk,hnd⟩:=x
 exact ⟨es,ep,t,⟨⟨o,ho,hex,hd⟩,hf⟩,hel,hmem,hb,hn,hwk,hnd⟩
theorem LR {a b:Addr} {S S':Int -> Bool} {n n':Nat} {es:Array (Int × Value)} {ep:Nat} {t:SetTable} {Q:Array (Int × Value) -> Shared -> Prop} (hab:a ≠ b) (hS:SetAt s.heap b es ep t) (hel:ElemsOf (intKind prog w) es.toList) (hwk:HB (w.params.followText "set-order") t) (hX:bC prog w a S' n' s.heap)
  (h:∀ (ys:Array (Int × Value)) h',ys.toList.Perm es.toList -> Heap.SameBut a s.heap h' -> bC prog w a S' n' h' -> Q ys { s with heap:=h' }):wpAny (model prog w) A (setWalkUnseen b [a] (some a)) Q E s:=by
 unfold setWalkUnseen
 refine a0a (hS.state ?_)
 dsimp only
 refine a0a (fP ?_)
 have stay:∀ ys:Array (Int × Value),ys.toList.Perm es.toList -> Q ys s:=λys hp=>h ys s.heap hp (Heap.SameBut.refl a s.heap) hX
 by_cases hc:(w.params.followText "set-order" || t.led && t.plain || decide (es.size <= 1)) = true
 ·rw [if_pos hc]
  refine WV hS ?_ stay
  cases hbt:w.params.followText "set-order" with
  | true=>exact .inl rfl
  | false =>
   right
   rw [hbt,Bool.false_or,Bool.or_eq_true] at hc
   have hl:=(hwk.resolve_left (by rw [hbt];exact a0k)).1
   rw [hl]
   refine ⟨?_,by simp⟩
   rcases hc with z | z
   ·rw [Bool.and_eq_true] at z;rw [z.2];rfl
   ·have:¬ es.size > 1:=by have:=of_decide_eq_true z;omega
    simp [this]
 ·rw [if_neg hc]
  obtain ⟨es',ep',t',hS',hel',hmem',hb',hn',hwk',hnd'⟩:=hX.at_
  refine a0a (P6 hS hS' hel hel' ?_)
  rw [if_neg (by simp)]
  refine a0a (wpAny_rule ?_)
  refine a0a (hS'.state ?_)
  dsimp only
  have hbt:w.params.followText "set-order" = false:=by
   cases hq:w.params.followText "set-order" with
   | false=>rfl
   | true=>rw [hq] at hc;exact absurd rfl hc
  have hl:=(hwk.resolve_left (by rw [hbt];exact a0k)).1
  split
  ·obtain ⟨⟨o,ho,hex,hd⟩,hf⟩:=hS'
   refine a0a (wpAny_storeSet_of ho hd ?_ (fits_of_scanBound hb'))
   have hf2:SetTable.fits { t' with led:=t'.led && t.led,plain:=t'.plain && t.plain } es'.size = true:=hf
   obtain ⟨h2,_⟩:=SetOf_store (knd:=intKind prog w) (S':=S') ho hex hd hel' hmem' hb' hf2
   refine a0d (h es _ (.refl _) (Heap.SameBut.update _ a _) ⟨_,_,_,_,h2,hex,rfl,hel',hmem',hb',hf2,hn',?_,hnd'⟩)
   exact hwk'.imp id λz=>⟨by show (t'.led && t.led) = true;rw [z.1,hl];rfl,λq=>z.2 (by have:(t'.plain && t.plain) = true:=q;rw [Bool.and_eq_true] at this;exact this.1)⟩
  ·exact a0d (stay es (.refl _))
theorem D6 {a b:Addr} {es0:Array (Int × Value)} {ep:Nat} {t:SetTable} {Q:Unit -> Shared -> Prop} (id:String) (hab:a ≠ b):∀ (ys:List (Int × Value)) (s:Shared) (S:Int -> Bool) (n m:Nat),SetAt s.heap b es0 ep t -> ElemsOf (intKind prog w) ys -> bC prog w a S n s.heap -> n <= m -> m + ys.length + 1 < scanBound ->
  (∀ h' n' S',Heap.SameBut a s.heap h' -> bC prog w a S' n' h' -> n' <= m + ys.length -> (∀ k,S' k = ((ys.filter λe=>decide (c7 e.2 = k)).foldl (λq _=>!q) (S k))) -> Q () { s with heap:=h' }) ->
  wpAny (model prog w) A (forIn ys PUnit.unit (λ(x:Int × Value) (__s:PUnit)=>match x with
   | (h,x)=>do
    (holding [x] (do
     let __do_lift <- setDiscardHashed a x h
     if (!__do_lift) = true then do
      let _ <- setAddHashed a x h
      pure ()
     else pure ()):Sem Unit)
    Builtin.Frozenset.unchanged id b ep
    pure (ForInStep.yield PUnit.unit))) (λ_ s'=>Q () s') E s
 | [],s,S,n,m,hb,hel,hX,hn,hm,k=>by
  rw [List.forIn_nil]
  exact a0d (k s.heap n S (Heap.SameBut.refl a s.heap) hX hn λj=>rfl)
 | e :: ys,s,S,n,m,hb,hel,hX,hn,hm,k=>by
  obtain ⟨⟨k0,hk0,hh0⟩,hsc⟩:=hel e a0m
  obtain ⟨e1,e2⟩:=e
  dsimp only at hk0 hh0 hsc
  rw [List.length_cons] at hm
  rw [List.forIn_cons]
  dsimp only
  subst hh0
  refine a0a (a0a (T9 hk0 hsc hX hn (by omega) λh1 n1 sb1 hX1 hn1=>?_))
  have hb1:SetAt h1 b es0 ep t:=hb.keeps λo e=>(sb1.2 b (Ne.symm hab)).trans e
  unfold Builtin.Frozenset.unchanged setEpoch
  refine a0a (a0a (a0a (hb1.state (s:={ s with heap:=h1 }) (a0d ?_))))
  rw [if_neg (by simp)]
  refine a0d (a0d ?_)
  dsimp only
  refine D6 id hab ys { s with heap:=h1 } _ n1 (m + 1) hb1 (λx hx=>hel x (a0j _ hx)) hX1 hn1 (by omega) λh2 n2 S2 sb2 hX2 hn2 hS2=>?_
  refine k h2 n2 S2 (sb1.trans sb2) hX2 (by rw [List.length_cons];omega) λj=>?_
  rw [hS2 j,List.filter_cons]
  obtain ⟨tk,rfl⟩:=bW hk0
  show List.foldl _ (if j = k0 then !S k0 else S j) _ = List.foldl _ (S j) (if decide (k0 = j) = true then _ else _)
  by_cases z:k0 = j
  ·subst z;simp
  ·have z':¬ j = k0:=λq=>z q.symm
   simp [z,z']
end
theorem sT:entryFor table "set.__xor__" = some Builtin.«frozenset.__xor__»:=entryFor_alias (id' := "frozenset.__xor__") (by kernel_rfl) rfl (by decide +kernel) (by kernel_rfl)
section
variable {prog:Program} {w:World} {A:Around} {E:Value -> Shared -> Prop} {s:Shared}
theorem bC.typeIs {a:Addr} {S:Int -> Bool} {n:Nat} {s:Shared} (x:bC prog w a S n s.heap):s.TypeIs (.ref a) "set" := by
 obtain ⟨o,es,ep,t,ho,hex,_⟩:=x
 exact ⟨o,ho,hex.1⟩
theorem mE {a:Addr} {Q:Bool -> Shared -> Prop} (hT:s.TypeIs (.ref a) "set") (h:Q true s):wpAny (model prog w) A (Builtin.Frozenset.isAnySet (.ref a)) Q E s:=by
 unfold Builtin.Frozenset.isAnySet
 show wpAny _ _ (isInstance (.ref a) (.type "set") >>= _) _ _ _
 exact a0a (wpAny_isInstance hT sub_set_self (a0d h))
theorem tY {α:Type}:∀ (l:List α) (q:Bool),l.foldl (λq _=>!q) q = if l.length % 2 = 0 then q else !q
 | [],q=>rfl
 | a :: l,q=>by
  rw [List.foldl_cons,tY l,List.length_cons]
  by_cases h:l.length % 2 = 0
  ·rw [if_pos h,if_neg (by omega)]
  ·rw [if_neg h,if_pos (by omega),Bool.not_not]
theorem ZO {a b:Addr} {S T:Int -> Bool} {n m:Nat} {Q:Value -> Shared -> Prop} (hA:bC prog w a S n s.heap) (hB:bC prog w b T m s.heap) (hn:n < 1000) (hm:m < 32)
  (k:∀ h' r U,(∀ b o,s.heap.get? b = some o -> h'.get? b = some o) -> bC prog w s.heap.objs.size U r h' -> r <= n + m -> (∀ j,U j = (S j != T j)) -> Q (.ref s.heap.objs.size) { s with heap:=h' }) :
  wpAny (model prog w) A (binaryOp .BitXor (.ref a) (.ref b)) Q E s:=by
 have tA:=hA.typeIs
 have tB:=hB.typeIs
 refine wpAny_binaryOp_same (op:=.BitXor) tA tB F.fills_set_xor F.slot_set_xor (wpAny_call_entry F.slot_set_xor tA sT ?_ (F.args_set_xor_2 _ _))
 unfold Builtin.«frozenset.__xor__»
 show wpAny _ _ (do
  let (self,other) <- Builtin.Frozenset.slot1 "__xor__" ⟨[.ref a,.ref b],[]⟩
  if !(<- (Builtin.Frozenset.isAnySet self <&&> Builtin.Frozenset.isAnySet other)) then rule (toString "frozenset." ++ toString "__xor__" ++ toString ".declined");return <- ret .notImplemented
  ret (<- (do
   let result <- Builtin.Frozenset.newFrom (toString "frozenset." ++ toString "__xor__" ++ toString "") (<- Builtin.Frozenset.baseOf (<- Builtin.Frozenset.addrOf self)) other
   holding [result] (Builtin.Frozenset.symmetricDifferenceUpdate (toString "frozenset." ++ toString "__xor__" ++ toString "") (<- Builtin.Frozenset.addrOf result) (.ref a))
   return result))) _ _ _
 unfold Builtin.Frozenset.slot1
 refine a0a (wpAny_of_eq (a:=(Value.ref a,Value.ref b)) rfl ?_)
 dsimp only
 refine a0a ?_
 show wpAny _ _ (Builtin.Frozenset.isAnySet (.ref a) >>= _) _ _ _
 refine a0a (mE tA ?_)
 show wpAny _ _ (Builtin.Frozenset.isAnySet (.ref b)) _ _ _
 refine mE tB ?_
 rw [if_neg (by simp)]
 refine a0a ?_
 unfold Builtin.Frozenset.baseOf Builtin.Frozenset.newFrom Builtin.Frozenset.addrOf
 refine a0a (a0d (a0a (a0a (wpAny_isInstance tA sub_set_self (a0d ?_)))))
 rw [if_pos rfl]
 refine a0a (a0a (JQ ?_))
 generalize hp:s.heap.objs.size = p at *
 have hE:(s.heap.push (aW w)).get? p = some (aW w):=by rw [<- hp];exact Heap.get?_push_size _ rfl
 have kp:∀ c o,s.heap.get? c = some o -> (s.heap.push (aW w)).get? c = some o:=λc o e=>a0e _ e
 have nep:∀ {c:Addr} {o:Obj},s.heap.get? c = some o -> p ≠ c:=λe=>by rw [<- hp];exact Nat.ne_of_gt (a0n e)
 have hA0:bC prog w a S n (s.heap.push (aW w)):=hA.mono λo e=>kp a o e
 have hB0:bC prog w b T m (s.heap.push (aW w)):=hB.mono λo e=>kp b o e
 have hpa:p ≠ a:=by obtain ⟨o,_,_,_,e,_⟩:=hA;exact nep e
 have hpb:p ≠ b:=by obtain ⟨o,_,_,_,e,_⟩:=hB;exact nep e
 generalize s.heap.push (aW w) = h0 at hE kp hA0 hB0
 refine a0a (a0d (a0a (wpAny_holding ?_)))
 unfold Builtin.Frozenset.updateFrom
 refine a0a (mE (s:={ s with heap:=h0 }) hB0.typeIs ?_)
 rw [if_pos rfl]
 unfold Builtin.Frozenset.addrOf Builtin.Frozenset.merge setEpoch
 refine a0a (a0d ?_)
 obtain ⟨esb,epb,tb,hSb,_⟩:=hB0.at_
 refine a0a (a0a (hSb.state (s:={ s with heap:=h0 }) (a0d ?_)))
 refine OD (s:={ s with heap:=h0 }) hE hpb hB0 hm λh1 sb1 hX1=>?_
 have hA1:bC prog w a S n h1:=hA0.mono λo e=>(sb1.2 a (Ne.symm hpa)).trans e
 refine a0d ?_
 refine a0a (a0d (a0a (wpAny_holding ?_)))
 unfold Builtin.Frozenset.symmetricDifferenceUpdate
 rw [if_neg (by simpa using Ne.symm hpa)]
 refine a0a (wpAny_typeOf (s:={ s with heap:=h1 }) hA1.typeIs ?_)
 rw [if_neg (by decide)]
 refine a0a (mE (s:={ s with heap:=h1 }) hA1.typeIs ?_)
 rw [if_pos rfl]
 unfold Builtin.Frozenset.addrOf setEpoch
 refine a0a (a0d (a0a (a0d ?_)))
 obtain ⟨esa,epa,ta,hSa,hela,hmema,hba,hna,hwka,hnda⟩:=hA1.at_
 refine a0a (a0a (hSa.state (s:={ s with heap:=h1 }) (a0d ?_)))
 refine wpAny_holding (a0a (LR (s:={ s with heap:=h1 }) (S:=S) (n:=n) hpa hSa hela hwka hX1 λys h2 hperm sb2 hX2=>?_))
 have hS2:SetAt h2 a esa epa ta:=hSa.keeps λo e=>(sb2.2 a (Ne.symm hpa)).trans e
 have hly:ys.toList.length = n:=by rw [hperm.length_eq,a0l,hna]
 rw [<- Array.forIn_toList]
 have h4096:scanBound = 4096:=rfl
 refine a0a (D6 (Q:=λ_ s'=>wpAny (model prog w) A.in1 (pure ()) _ E s') _ hpa ys.toList { s with heap:=h2 } T m m hS2 (λe he=>hela e (hperm.mem_iff.mp he)) hX2 (Nat.le_refl _) (by rw [hly];omega) λh3 r U sb3 hX3 hr hU=>?_)
 refine a0d (a0d (a0d ⟨_,rfl,(λz=>by cases z),k h3 r U (λc o e=>?_) hX3 (by rw [hly] at hr;omega) λj=>?_⟩))
 ·have hc:=Ne.symm (nep e)
  exact (sb3.2 c hc).trans ((sb2.2 c hc).trans ((sb1.2 c hc).trans (kp c o e)))
 ·rw [hU j,tY]
  have e1:(ys.toList.filter λe=>decide (c7 e.2 = j)).length = (esa.toList.filter λe=>decide (c7 e.2 = j)).length:=(hperm.filter _).length_eq
  have e2:(esa.toList.filter λe=>decide (c7 e.2 = j)).length = (esa.toList.map λe=>c7 e.2).count j:=by
   rw [List.count_eq_countP,List.countP_map,List.countP_eq_length_filter]
   first
    | rfl
    | (congr 2;funext e;show decide (c7 e.2 = j) = (c7 e.2 == j);by_cases z:c7 e.2 = j <;> simp [z])
  have e3:S j = true ↔ j ∈ esa.toList.map λe=>c7 e.2:=by
   rw [hmema j,List.mem_map]
   constructor
   ·rintro ⟨e,he,hk⟩
    obtain ⟨t,e2⟩:=bW hk
    exact ⟨e,he,by rw [e2];rfl⟩
   ·rintro ⟨e,he,hk⟩
    obtain ⟨⟨k',hk',_⟩,_⟩:=hela e he
    obtain ⟨t,e2⟩:=bW hk'
    have:k' = j:=by rw [<- hk,e2];rfl
    subst this
    exact ⟨e,he,hk'⟩
  rw [e1,e2]
  cases hS:S j with
  | true =>
   have hm1:=e3.mp hS
   have c1:(esa.toList.map λe=>c7 e.2).count j = 1:=by
    have h1:=List.nodup_iff_count.mp hnda j
    have h2:=List.count_pos_iff.mpr hm1
    omega
   rw [c1]
   cases T j <;> rfl
  | false =>
   have hm1:j ∉ esa.toList.map λe=>c7 e.2:=λz=>by rw [e3.mpr z] at hS;cases hS
   rw [List.count_eq_zero.mpr hm1]
   cases T j <;> rfl
end
section
variable {X:Cx}
theorem IA:bootBuiltins "set" = some (.type "set"):=by rfl
def L4 (P:Program) (w:World) (K:PySem.W.Frag):List V -> Hp -> VK -> Prop:=λxs H Q=>∃ p ns,xs = [.ref p] /\ cT K H p (List.map V.int ns) /\ ns.length <= 1000 /\
 ∀ (a:Addr) (S:Int -> Bool) (n:Nat),H a = none -> (∀ k,S k = true ↔ k ∈ ns) -> n <= ns.length -> Q (.ref a) (bD H a (d3 P w a S n))
theorem tV (hc:X.calm = true):dD X (.type "set") (L4 X.prog X.w X.K):=by
 intro pins s σ H xs us Q I r h
 obtain ⟨p,ns,rfl,hp,hl,q⟩:=h
 obtain ⟨u,rfl,ru⟩:=gV r
 cases ru
 obtain ⟨its,rv,hp',hz⟩:=I.list hp
 have hi:IntsAre its ns:=g9 rv
 have hvl:its.length = ns.length:=IntsAre.length hi
 have h4096:scanBound = 4096:=rfl
 refine call_set_list_x (I.ok.hd hc) hp'.isList (by simpa using hi) (by simp;omega) λh' tk hX hk=>?_
 have kp:∀ b u,s.heap.get? b = some u -> h'.get? b = some u:=λb o e=>hk b o (a0n e) e
 refine ⟨.ref s.heap.objs.size,_,I.laid (a:=s.heap.objs.size) (t':=tk) kp (Nat.le_refl _) hX.ok,rfl,q _ _ _ (I.hok.fresh (Nat.le_refl _)) (λk=>?_) ?_⟩
 ·have e1:((List.range its.length).map λi=>ns.getD i 0) = ns:=by
   rw [hvl]
   apply List.ext_getElem
   ·simp
   ·intro i h1 h2
    simp [a0g,a0b h2]
  rw [firstMet_any]
  simp only [List.size_toArray]
  rw [e1,List.any_eq_true]
  simp
 ·have:=firstMet_length_le (λi=>ns.getD i 0) its.toArray.size
  simp only [List.size_toArray] at this ⊢
  omega
def Z1 (P:Program) (w:World):R2:=λx y H Q=>∃ a b S T n m,x = .ref a /\ y = .ref b /\ H a = some (d3 P w a S n) /\ H b = some (d3 P w b T m) /\ n < 1000 /\ m < 32 /\
 ∀ (c:Addr) (U:Int -> Bool) (r:Nat),H c = none -> r <= n + m -> (∀ j,U j = (S j != T j)) -> Q (.ref c) (bD H c (d3 P w c U r))
theorem Inv.setX {pins:List (Addr × Obj)} {σ:St} {H:Hp} {s:Shared} {p:Addr} {S:Int -> Bool} {n:Nat} (I:Inv X pins σ H s) (hp:H p = some (d3 X.prog X.w p S n)):bC X.prog X.w p S n s.heap:=by
 obtain ⟨hX,_,_⟩ : bC X.prog X.w p S n s.heap /\ (∃ o,s.heap.get? p = some o) /\ (∀ h1 h2:Heap,bC X.prog X.w p S n h1 -> (∀ o,h1.get? p = some o -> h2.get? p = some o) -> bC X.prog X.w p S n h2):=I.hok p _ hp
 exact hX
theorem Y8:mB X (binaryOp .BitXor) (Z1 X.prog X.w):=by
 intro pins s σ H x y v u Q I rx ry h
 obtain ⟨a,b,S,T,n,m,rfl,rfl,ha,hb,hn,hm,q⟩:=h
 cases rx;cases ry
 refine ZO (I.setX ha) (I.setX hb) hn hm λh' r U kp hX hr hU=>?_
 exact ⟨.ref s.heap.objs.size,_,I.laid (a:=s.heap.objs.size) (t':=s.toks) kp (Nat.le_refl _) hX.ok,rfl,q _ _ _ (I.hok.fresh (Nat.le_refl _)) hr hU⟩
end
def l9 (ns ms:List Int):List Int:=(ns.filter λk=>!decide (k ∈ ms)) ++ (ms.filter λk=>!decide (k ∈ ns))
theorem kC {ns ms:List Int} {k:Int}:k ∈ l9 ns ms ↔ (k ∈ ns /\ k ∉ ms) \/ (k ∈ ms /\ k ∉ ns):=by
 unfold l9
 rw [List.mem_append,List.mem_filter,List.mem_filter]
 simp
def gS (n:Nat) (x:PV) (K:List Int -> Prop):Prop:=match x with
 | .lst xs=>(match PV.ints xs with
  | some ns=>ns.length < n /\ K ns
  | none=>False)
 | _=>False
theorem uC {n:Nat} {ns:List Int} {K:List Int -> Prop} (hl:ns.length < n) (q:K ns):gS n (.lst (ns.map PV.int)) K:=by unfold gS;simp only [PV.ints_map];exact ⟨hl,q⟩
theorem rA {n:Nat} {x:PV} {K:List Int -> Prop} (h:gS n x K):∃ xs ns,x = .lst xs /\ PV.ints xs = some ns /\ ns.length < n /\ K ns:=by
 unfold gS at h
 cases x with
 | lst xs =>
  dsimp only at h
  cases hi:PV.ints xs with
  | none=>rw [hi] at h;exact h.elim
  | some ns=>rw [hi] at h;exact ⟨xs,ns,rfl,hi,h.1,h.2⟩
 | _=>exact h.elim
def pSortXor (a b:aQ):aQ:=λenv Q=>a env λx=>gS 32 x λns=>b env λy=>gS 32 y λms=>Q (.lst ((aJ (l9 ns ms)).map PV.int))
section
variable {X:Cx} {md:List Md} {a b:Expr} {pa pb:aQ} {p p1 p2 pos pos1 pos2 pos3:Pos}
theorem zS {G:Addr -> Prop} {H:Hp} {v:V} {xs:List PV} {ns:List Int} (r:Rep G H v (.lst xs)) (h:PV.ints xs = some ns):∃ l,v = .ref l /\ H l = some (.lst (List.map V.int ns)):=by
 rw [PV.ints_of h] at r
 obtain ⟨l,vs,rfl,_,e,rs⟩:=Rep.ofList r
 rw [rs.ints] at e
 exact ⟨l,rfl,e⟩
theorem CJ (hc:X.calm = true) (hg0:X.env.scope.names.lookup ("sorted" : Str) = some .globalImplicit) (hm0:X.mg "sorted" = none) (hg1:X.env.scope.names.lookup ("set" : Str) = some .globalImplicit) (hm1:X.mg "set" = none) (ha:VE X md a .bw pa) (hb:VE X md b .bw pb)
  (h1:starEach [a] X.env = (false,eval a X.env) :: starEach [] X.env:=by rfl) (h1':starEach [b] X.env = (false,eval b X.env) :: starEach [] X.env:=by rfl)
  (h2:starEach [.BinOp (.Call (.Name "set" p1) [a] [] pos1) .BitXor (.Call (.Name "set" p2) [b] [] pos2) pos3] X.env = (false,eval (.BinOp (.Call (.Name "set" p1) [a] [] pos1) .BitXor (.Call (.Name "set" p2) [b] [] pos2) pos3) X.env) :: starEach [] X.env:=by rfl)
  (hl1:(backTo pos1 (starEach [] X.env)).any (·.1) = false:=by rfl) (hl1':(backTo pos2 (starEach [] X.env)).any (·.1) = false:=by rfl) (hl2:(backTo pos (starEach [] X.env)).any (·.1) = false:=by rfl) :
  VE X md (.Call (.Name "sorted" p) [.BinOp (.Call (.Name "set" p1) [a] [] pos1) .BitXor (.Call (.Name "set" p2) [b] [] pos2) pos3] [] pos) (.o .fl) (pSortXor pa pb) :=
 ⟨(kD (tW hc) hg0 hm0 i9 (eW (zG Y8 (fT (tV hc) hg1 hm1 IA (eW ha.h j8 h1) (by decide) (by decide) h1 hl1) (fT (tV hc) hg1 hm1 IA (eW hb.h j8 h1') (by decide) (by decide) h1' hl1')) j8 h2) (by decide) (by decide) h2 hl2).imp λσ H Q h=>by
 obtain ⟨env,W0,H0,W,Q',R,q,k⟩:=h
 refine ⟨env,W0,H0,W,_,R,q,λx v W1 H1 g1 r1 q1=>?_⟩
 obtain ⟨xs,ns,rfl,hi,hlt,q1⟩:=rA q1
 obtain ⟨l,rfl,e⟩:=zS r1 hi
 have R1:=R.step g1
 refine ⟨l,ns,rfl,cT.of e,by omega,λc S n hc' hS hn=>?_⟩
 have gl:Go W1 H1 W1 (bD H1 c (d3 X.prog X.w c S n)):=Go.laid R1.ok hc'
 have R2:=R1.step gl
 refine ⟨env,W0,H0,W1,_,R2,q1,λy u W3 H3 g3 r3 q3=>?_⟩
 obtain ⟨ys,ms,rfl,hi2,hlt2,q3⟩:=rA q3
 obtain ⟨l',rfl,e'⟩:=zS r3 hi2
 have R3:=R2.step g3
 refine ⟨l',ms,rfl,cT.of e',by omega,λc2 T m hc2 hT hm=>?_⟩
 have gl2:Go W3 H3 W3 (bD H3 c2 (d3 X.prog X.w c2 T m)):=Go.laid R3.ok hc2
 have at1:H3 c = some (d3 X.prog X.w c S n):=g3.kp c _ b5 λz=>R1.ok.offS hc' z
 have nc:c ≠ c2:=λz=>by rw [z,hc2] at at1;cases at1
 refine ⟨c,c2,S,T,n,m,rfl,rfl,by rw [aE nc];exact at1,b5,by omega,by omega,λc3 U r hc3 hr hU=>?_⟩
 have gl3:Go W3 (bD H3 c2 (d3 X.prog X.w c2 T m)) W3 (bD (bD H3 c2 (d3 X.prog X.w c2 T m)) c3 (d3 X.prog X.w c3 U r)):=Go.laid gl2.ok hc3
 refine ⟨c3,U,r,rfl,b5,by omega,λl2 zs hl2' hlt3 hms=>?_⟩
 have:zs = aJ (l9 ns ms):=A5 hlt3 λj=>by
  rw [<- hms j,hU j,kC,<- hS j,<- hT j]
  cases S j <;> cases T j <;> simp
 subst this
 exact (k.after ((((g1.trans gl).trans g3).trans gl2).trans gl3)).newL gl3.ok hl2' (kZ _) q3⟩
end
def tyB (T:String) (x:PV):Prop:=match x with
 | .str _=>T = "str"
 | .lst _=>T = "list"
 | .dic _ _=>T = "dict"
 | _=>False
def pBm (T:String) (pm:PV -> PN) (a:aQ) (t:kP):aQ:=λenv Q=>a env λx=>tyB T x /\ t env λys=>pm x ys Q
structure SimB (r:V -> List V -> Hp -> VK -> Prop) (m0:Md) (ms:List Md) (m:Md) (pm:PV -> PN):Prop where
 h:∀ (B H0:Hp) (W:Wd) (H:Hp) (v:V) (x:PV) (vs:List V) (ys:List PV) (Q:PV -> Prop) (K:VK),Wok W H -> ResE B H0 W H m0 v x -> ResEs B H0 W H ms vs ys -> pm x ys Q -> i8 B W H m Q K -> r v vs H K
def Md.see:Md -> Bool
 | .p _=>true
 | .bw=>true
 | .v _=>true
 | _=>false
theorem QF {K:PySem.W.Frag} {B H0 H:Hp} {W:Wd} {m:Md} {v:V} {x:PV} {T:String} (r:ResE B H0 W H m v x) (w:Wok W H) (hm:m.see = true) (t:tyB T x):ZX K T v H:=by
 have r':Rep (λa=>¬ W.S a) H v x:=r.lend w (by cases m <;> first | rfl | cases hm)
 cases x with
 | str s=>cases r';exact t
 | lst xs=>obtain ⟨a,vs,rfl,_,e,_⟩:=r'.ofList;exact .inl ⟨t,_,cT.of e⟩
 | dic ks xs=>obtain ⟨a,vs,rfl,_,e,_⟩:=r'.ofDic;exact .inr (.inr (.inl ⟨t,.inl ⟨_,e⟩⟩))
 | _=>exact (show False from t).elim
theorem ResE.see {B H0 H0' H1 H2:Hp} {W1 W2:Wd} {m:Md} {v:V} {x:PV} (r:ResE B H0 W1 H1 m v x) (hm:m.see = true) (w:Wok W1 H1) (g:Go W1 H1 W2 H2):ResE B H0' W2 H2 m v x:=by
 have:=r.go w g
 cases m <;> first | exact this | cases hm
section
variable {X:Cx} {md:List Md} {e o:Expr} {es:List Expr} {pt:kP} {pe:aQ} {el:El} {T id:String} {r:V -> List V -> Hp -> VK -> Prop} {ms:List Md} {m0 m:Md} {pm:PV -> PN} {name:Str} {apos cpos pos p:Pos}
theorem RQ (pa:PlainAttrs T) (slot:Slot T name id) (hty:typeOf (.builtin id) = pure (.type "method_descriptor")) (hm:QM X id r) (hs:SimB r m0 ms m pm) (hsee:m0.see = true) (ho:VE X md o m0 pe) (ha:VA X md (e :: es) ms pt)
  (hbase:attributeBase o name X.env (eval o X.env) = eval o X.env:=by rfl)
  (hfew:((backTo cpos (starEach (e :: es) X.env)).all (λx=>!x.1) && (backToKw cpos (keywordEach [] X.env)).all (λx=>x.1.isSome)
   && decide ((e :: es).length + ([]:List Keyword).length + (if ([]:List Keyword).isEmpty then 0 else 1) < 30)) = true:=by rfl)
  (hline:(apos.endLine == cpos.line) = true:=by rfl) (hse:starEach (e :: es) X.env = (false,eval e X.env) :: starEach es X.env:=by rfl) (hplain:(backTo cpos (starEach es X.env)).any (·.1) = false:=by rfl) :
  VE X md (.Call (.Attribute o name apos) (e :: es) [] cpos) m (pBm T pm pe pt):=⟨(RE pa slot hty hm.h ho.h ha.h hbase hfew hline hse hplain).imp λσ H K=>by
 rintro ⟨env,W0,H0,W,Q,R,q,k⟩
 refine ⟨env,W0,H0,W,_,R,q,λx v W1 H1 g1 r1 q1=>⟨QF r1 g1.ok hsee q1.1,env,W0,H0,W1,_,R.step g1,q1.2,λys vs W2 H2 g2 r2 q2=>?_⟩⟩
 exact hs.h H0 H1 W2 H2 v x vs ys Q K g2.ok (r1.see hsee g1.ok g2) r2 q2 (k.after (g1.trans g2))⟩
end
theorem FC {ks:List b9}:∀ {vs:List V} {xs:List PV},vs.length = xs.length -> ∀ {k:b9},yB ks xs k = none -> nI (ks.zip vs) k = none:=by
 induction ks with
 | nil=>intro vs xs _ k _;rfl
 | cons a ks ih =>
  intro vs xs hl k e
  cases xs with
  | nil=>cases vs with
   | nil=>rfl
   | cons=>cases hl
  | cons y xs =>
   cases vs with
   | nil=>cases hl
   | cons v vs =>
    unfold yB at e
    rw [List.zip_cons_cons,List.find?_cons] at e
    rw [List.zip_cons_cons]
    by_cases h:a = k
    ·rw [decide_eq_true h] at e;cases e
    ·rw [decide_eq_false h] at e
     rw [kM (p:=(a,v)) h]
     exact ih (xs:=xs) (by simpa using hl) e
def KR:V -> List V -> Hp -> VK -> Prop:=λx vs H Q=>∃ a kvs k z,x = .ref a /\ vs = [kV k,z] /\ H a = some (.dK kvs) /\ Q ((nI kvs k).getD z) H
theorem zL {X:Cx} (hu:X.A.units + 64 < cLine):QM X "dict.get" KR:=⟨by
 intro pins s σ H x xs v us Q I rx rv h
 obtain ⟨a,kvs,k,z,rfl,rfl,e,q⟩:=h
 cases rx
 obtain ⟨u,w,rfl,r1,r2⟩:=ED rv
 exact S7 (by omega) I (xP.k e) r1 r2 λw' s' I' r'=>⟨_,H,I',r',q⟩⟩
def qY:PV -> PN:=λx ys Q=>match x,ys with
 | .dic ks xs,[y,z]=>(match HD y with
  | some k=>Q ((yB ks xs k).getD z)
  | none=>False)
 | _,_=>False
theorem vB {el:El}:SimB KR (.p el) [.bw,.v el] (.v el) qY:=⟨λB H0 W H v x vs ys Q K w r rs q k=>by
 obtain ⟨u1,y1,u2,y2,rfl,rfl,r1,r2⟩:=rs.two
 unfold qY at q
 cases x with
 | dic ks xs =>
  dsimp only at q
  cases hk:HD y1 with
  | none=>rw [hk] at q;exact q.elim
  | some kk =>
   rw [hk] at q
   dsimp only at q
   obtain ⟨a,us,rfl,e,hl,rr⟩:=RepP.ofDic r
   have hu:u1 = kV kk:=DE (S:=λ_=>True) hk r1
   subst hu
   refine ⟨a,_,kk,u2,rfl,rfl,e,?_⟩
   cases hg:yB ks xs kk with
   | none =>
    rw [hg] at q
    rw [FC rr.len hg]
    exact k.val w r2 q
   | some z =>
    rw [hg] at q
    obtain ⟨w',e1,e2⟩:=rr.dget hg
    rw [e1]
    exact k.val w e2 q
 | _=>exact q.elim⟩
abbrev XZ:b9 -> PV
 | .inl i=>.int i
 | .inr s=>.str s
section
variable {prog:Program} {w:World} {A:Around} {R:Result -> Shared -> Prop} {I:Addr} {fp wr:List Addr} {n:Nat} {P:Nat -> Value -> Prop} {St:Nat -> Heap -> Prop} {kw:List (Str × Value)} {d:Value}
theorem G2 (W:Walks prog w A.in1 I fp wr n P St) (bt:Nat -> Nat -> Bool) (hcmp:CmpOf prog w A.in1 .Gt P bt) (S:Addr) (hSf:S ∉ fp) :
  ∀ (k j:Nat) (s:Shared) (vb:Value) (c:Nat),n - (j + 1) = k -> j + 1 <= n -> St (j + 1) s.heap -> P (argBest bt j) vb ->
  s.heap.get? S = some { cls:=.type "list",dict:=none,data:=.seq #[vb,vb] c,slots:=#[] } ->
  (∀ v h' tk,P (argBest bt (n - 1)) v -> (∀ b o,b ∉ wr -> b ≠ S -> s.heap.get? b = some o -> h'.get? b = some o) -> R (.ok (.ret v)) { s with heap:=h',toks:=tk }) ->
  codeAny (model prog w) A (.builtin "max.loop" ⟨[.ref I,.none,.ref S],kw⟩) R s:=by
 have hSw:S ∉ wr:=λh=>hSf (W.sub _ h)
 have hname:(toString "max" ++ toString ".loop" : String) = "max.loop" := by decide
 intro k
 induction k with
 | zero =>
  intro j s vb c hk hj hst hPb hS hR
  have hin:j + 1 = n:=by omega
  refine codeAny_builtin F.entry_max_loop ?_
  rw [Around.under_plainId F.plain_max_loop _]
  show wpAny _ A.in1 (seqItems? (.ref S) >>= _) _ _ s
  refine a0a (wpAny_seqItems hS rfl ?_)
  show wpAny _ A.in1 (tryCatch (pyNext (.ref I)) _ >>= _) _ _ s
  refine a0a (wpAny_tryCatch (W.done s _ _ (hin ▸ hst) λh' tk hk'=>?_))
  have hS':=hk' S _ hSw hS
  show wpAny _ A.in1 (updateSeq S (λ_=>#[]) >>= _) _ _ _
  refine a0a ?_
  refine wpAny_updateSeq hS' rfl (a0a (wpAny_letGo (a0d ?_)))
  refine hR vb _ tk (by rw [<- hin];exact hPb) λb o hbw hbS e=>(Heap.get?_update_other _ _ (Ne.symm hbS)).trans (hk' b o hbw e)
 | succ k ih =>
  intro j s vb c hk hj hst hPb hS hR
  have hlt:j + 1 < n:=by omega
  refine codeAny_builtin F.entry_max_loop ?_
  rw [Around.under_plainId F.plain_max_loop _]
  show wpAny _ A.in1 (seqItems? (.ref S) >>= _) _ _ s
  refine a0a (wpAny_seqItems hS rfl ?_)
  show wpAny _ A.in1 (tryCatch (pyNext (.ref I)) _ >>= _) _ _ s
  refine a0a (wpAny_tryCatch (W.item (j + 1) s _ _ hlt hst λv h' tk hP hst' hk'=>?_))
  have hS':=hk' S _ hSw hS
  show wpAny _ A.in1 (tryCatch (holding [v,v] (richCompare .Gt v vb >>= _)) _ >>= _) _ _ _
  refine a0a (wpAny_tryCatch (wpAny_holding (a0a (hcmp (j + 1) (argBest bt j) v vb _ _ _ hP hPb ?_))))
  refine a0a (wpAny_holding (wpAny_truthy_bool ?_))
  refine a0a (wpAny_letGo (a0d ?_))
  cases hb:bt (j + 1) (argBest bt j) with
  | true =>
   simp only [if_true]
   refine a0a ?_
   refine wpAny_updateSeq hS' rfl (a0a (wpAny_letGo ?_))
   rw [hname]
   refine a0d ⟨plainId_quiet F.plain_max_loop _,ih (j + 1) _ v _ (by omega) hlt (W.frame _ _ _ hst' λb hbf o e=>?_) (by simp only [argBest,hb,if_true];exact hP) (Heap.get?_update_self _ hS' rfl)
    λv' h'' tk'' hP' hk''=>?_⟩
   ·exact (Heap.get?_update_other _ _ (λh:S = b=>hSf (by rw [h];exact hbf))).trans e
   ·exact hR v' h'' tk'' hP' λb o hbw hbS e=>hk'' b o hbw hbS ((Heap.get?_update_other _ _ (Ne.symm hbS)).trans (hk' b o hbw e))
  | false =>
   simp only [Bool.false_eq_true,if_false]
   refine a0a (wpAny_letGo ?_)
   rw [hname]
   refine a0d ⟨plainId_quiet F.plain_max_loop _,ih (j + 1) _ vb c (by omega) hlt hst' (by simp only [argBest,hb,Bool.false_eq_true,if_false];exact hPb) hS' λv' h'' tk'' hP' hk''=>?_⟩
   exact hR v' h'' tk'' hP' λb o hbw hbS e=>hk'' b o hbw hbS (hk' b o hbw e)
theorem BJ (W:Walks prog w A.in1 I fp wr n P St) (bt:Nat -> Nat -> Bool) (hcmp:CmpOf prog w A.in1 .Gt P bt) (S:Addr) (hSf:S ∉ fp) {s:Shared} {c:Nat} (hst:St 0 s.heap)
  (hS:s.heap.get? S = some { cls:=.type "list",dict:=none,data:=.seq #[] c,slots:=#[] })
  (hD:n = 0 -> ∀ h' tk,(∀ b o,b ∉ wr -> b ≠ S -> s.heap.get? b = some o -> h'.get? b = some o) -> R (.ok (.ret d)) { s with heap:=h',toks:=tk })
  (hR:0 < n -> ∀ v h' tk,P (argBest bt (n - 1)) v -> (∀ b o,b ∉ wr -> b ≠ S -> s.heap.get? b = some o -> h'.get? b = some o) -> R (.ok (.ret v)) { s with heap:=h',toks:=tk }) :
  codeAny (model prog w) A (.builtin "max.loop" ⟨[.ref I,.none,.ref S],[("default",d)]⟩) R s:=by
 have hSw:S ∉ wr:=λh=>hSf (W.sub _ h)
 have hname:(toString "max" ++ toString ".loop" : String) = "max.loop" := by decide
 refine codeAny_builtin F.entry_max_loop ?_
 rw [Around.under_plainId F.plain_max_loop _]
 show wpAny _ A.in1 (seqItems? (.ref S) >>= _) _ _ s
 refine a0a (wpAny_seqItems hS rfl ?_)
 show wpAny _ A.in1 (tryCatch (pyNext (.ref I)) _ >>= _) _ _ s
 by_cases hn:0 < n
 ·refine a0a (wpAny_tryCatch (W.item 0 s _ _ hn hst λv h' tk hP hst' hk'=>?_))
  have hS':=hk' S _ hSw hS
  show wpAny _ A.in1 (updateSeq S (λ_=>#[v,v]) >>= _) _ _ _
  refine a0a ?_
  refine wpAny_updateSeq hS' rfl ?_
  rw [hname]
  refine a0d ⟨plainId_quiet F.plain_max_loop _,G2 W bt hcmp S hSf _ 0 _ v _ rfl hn (W.frame _ _ _ hst' λb hbf o e=>?_) hP (Heap.get?_update_self _ hS' rfl) λv' h'' tk'' hP' hk''=>?_⟩
  ·exact (Heap.get?_update_other _ _ (λh:S = b=>hSf (by rw [h];exact hbf))).trans e
  ·exact hR hn v' h'' tk'' hP' λb o hbw hbS e=>hk'' b o hbw hbS ((Heap.get?_update_other _ _ (Ne.symm hbS)).trans (hk' b o hbw e))
 ·have h0:n = 0:=by omega
  refine a0a (wpAny_tryCatch (W.done s _ _ (h0 ▸ hst) λh' tk hk'=>?_))
  show wpAny _ A.in1 (rule _ >>= _) _ _ _
  refine a0a (wpAny_rule (a0d ?_))
  exact hD h0 h' tk λb o hbw _ e=>hk' b o hbw e
end
section
variable {prog:Program} {w:World} {A:Around} {E:Value -> Shared -> Prop} {s:Shared} {l:Addr} {d:Value}
theorem vT {id:String} {b:Builtin} {args:List Value} {kw:List (Str × Value)} {Q:Value -> Shared -> Prop} (hk:builtinKind id = none) (hp:plainId id = true) (hb:entryFor table id = some b) (ha:argsOk id ⟨args,kw⟩)
  (hc:wpAny (model prog w) A.in1 (b ⟨args,kw⟩) (λfin s'=>match fin with | .done f=>(match (Except.ok f:Result) with | .ok (.ret v)=>Q v s' | .ok _=>False | .error e=>E e s') | .again c'=>c'.quiet = true /\ codeAny (model prog w) A c' (λr s'=>match r with | .ok (.ret v)=>Q v s' | .ok _=>False | .error e=>E e s') s') E s) :
  wpAny (model prog w) A (call (.builtin id) args kw) Q E s:=by
 refine wpAny_call (codeAny_call_builtin hp hb ?_)
 simp only [checkBuiltinCall,hk]
 cases hsig:Manifest.signature? id with
 | none=>exact a0d hc
 | some sig =>
  have ha':Bind.checkArgs id sig ⟨args,kw⟩ = pure ():=by simpa only [argsOk,hsig] using ha
  simp only [ha']
  exact a0d hc
theorem EV (a d:Value):argsOk "max" ⟨[a],[(Str.ofString "default",d)]⟩:=by unfold argsOk;kernel_rfl
theorem G1 {xs:Array (Int × Tok)} {Q:Value -> Shared -> Prop} (hh:A.handled = none) (hl:s.heap.IsList l (intItems xs))
  (h0:xs.size = 0 -> ∀ h' tk,(∀ b o,s.heap.get? b = some o -> h'.get? b = some o) -> Q d { s with heap:=h',toks:=tk })
  (h:0 < xs.size -> ∀ v h' tk,(intItems xs)[argBest (λi j=>decide (numAt xs i > numAt xs j)) (xs.size - 1)]? = some v -> (∀ b o,s.heap.get? b = some o -> h'.get? b = some o) -> Q v { s with heap:=h',toks:=tk }) :
  wpAny (model prog w) A (call (.builtin "max") [.ref l] [(Str.ofString "default",d)]) Q E s:=by
 have hname:(toString "max" ++ toString ".loop" : String) = "max.loop" := by decide
 have hsz:(intItems xs).size = xs.size:=by simp [intItems]
 refine vT F.kind_max F.plain_max F.entry_max (EV _ _) ?_
 show wpAny _ A.in1 (Builtin.Builtins.bindParams "max" ["key", "default"] 0 ⟨[],[(Str.ofString "default",d)]⟩ >>= _) _ _ s
 refine a0a (wpAny_of_eq (show Builtin.Builtins.bindParams "max" ["key", "default"] 0 ⟨[],[(Str.ofString "default",d)]⟩ = pure [none,some d] from rfl) ?_)
 refine a0a (a0d ?_)
 refine a0a (iter_intList hl λs₂ e st hfp hlI=>?_)
 subst e
 refine a0a (wpAny_newObj_type ?_)
 have W:=Walks.list (prog:=prog) (w:=w) (A:=A.in1) hh _ l hlI (intItems xs)
 rw [hname]
 refine a0d ⟨plainId_quiet F.plain_max_loop _,BJ W _ (CmpOf.ints_gt (numAt xs) (λ_ _=>intItems_at)) _ (λhm=>Nat.lt_irrefl _ (hfp _ hm)) (W.frame _ _ _ st λb _ o e=>a0e _ e) (Heap.get?_push_size _ rfl) (λhn h' tk hk=>?_) λhn v h' tk hP hk=>?_⟩
 ·exact h0 (by omega) h' tk λb o e=>hk b o (λz=>by rw [List.mem_singleton] at z;exact absurd (a0n e) (by rw [z];exact Nat.lt_irrefl _)) (Nat.ne_of_lt (Nat.lt_trans (a0n e) (by rw [Heap.size_push];exact Nat.lt_succ_self _))) (a0e _ (a0e _ e))
 ·exact h (by omega) v h' tk (by rw [hsz] at hP;exact hP) λb o e=>hk b o (λz=>by rw [List.mem_singleton] at z;exact absurd (a0n e) (by rw [z];exact Nat.lt_irrefl _)) (Nat.ne_of_lt (Nat.lt_trans (a0n e) (by rw [Heap.size_push];exact Nat.lt_succ_self _))) (a0e _ (a0e _ e))
end
structure QD (X:Cx) (id:String) (r:List V -> V -> Hp -> VK -> Prop):Prop where
 h:∀ (pins:List (Addr × Obj)) (s:Shared) (σ:St) (H:Hp) (xs:List V) (us:List Value) (dv:V) (d:Value) (Q:VK),Inv X pins σ H s -> aU xs us -> b7 dv d -> r xs dv H Q ->
  wpAny (model X.prog X.w) X.A (call (.builtin id) us [(Str.ofString "default",d)]) (EP X pins σ Q) X.xe s
structure SimD (r:List V -> V -> Hp -> VK -> Prop) (pr:List PV -> PV -> (PV -> Prop) -> Prop):Prop where
 h:∀ (B H0:Hp) (W:Wd) (H:Hp) (vs:List V) (xs:List PV) (dv:V) (d:PV) (Q:PV -> Prop) (K:VK),Wok W H -> ResEs B H0 W H [.bw] vs xs -> Rep (λ_=>False) H dv d -> pr xs d Q -> i8 B W H (.v .fl) Q K -> r vs dv H K
def pClD (pr:List PV -> PV -> (PV -> Prop) -> Prop) (a:kP) (d:aQ):aQ:=λenv Q=>a env λxs=>d env λz=>pr xs z Q
theorem A8 {X:Cx} {md:List Md} {e d:Expr} {pt:kP} {pd:aQ} {id:String} {x:Str} {p pos kp:Pos} {r:List V -> V -> Hp -> VK -> Prop} {pr:List PV -> PV -> (PV -> Prop) -> Prop} (hc:QD X id r) (hs:SimD r pr) (hg:X.env.scope.names.lookup x = some .globalImplicit) (hm:X.mg x = none) (hv:bootBuiltins x = some (.builtin id))
  (ha:VA X md [e] [.bw] pt) (hd:VE X md d (.v .fl) pd) (hn:x ≠ "__name__") (hdb:(x == ("__debug__" : Str)) = false)
  (he:backTo pos (starEach [e] X.env) = (false,eval e X.env) :: backTo pos (starEach [] X.env):=by rfl) (hpl:(backTo pos (starEach [e] X.env)).any (·.1) = false:=by rfl):VE X md (.Call (.Name x p) [e] [⟨some (Str.ofString "default"),d,kp⟩] pos) (.v .fl) (pClD pr pt pd):=⟨by
 intro pins s σ H Q I h
 obtain ⟨env,W0,H0,W,Q',R,q,k⟩:=h
 refine wpAny_Call_Name_kw (o7 I hg hm hv ?_ hn hdb)
 refine callWith_kw (rest:=[]) ?_ he hpl
 refine c5 (ha.h pos pins s σ H _ I ⟨env,W0,H0,W,_,R,q,λxs vs W1 H1 g1 r1 q1=>(show dQ X.K md (.v .fl) pd σ H1 (λdv H2=>r vs dv H2 Q) from ⟨env,W0,H0,W1,_,R.step g1,q1,λy dv W2 H2 g2 r2 q2=>?_⟩)⟩) λus s1 ⟨vs,H1,I1,r1,q1⟩=>?_
 ·exact hs.h H0 H W2 H2 vs xs dv y Q' Q g2.ok (r1.go g1.ok g2) r2 q2 (k.after (g1.trans g2))
 ·refine kws_cons (c5 (hd.h pins s1 σ H1 _ I1 q1) λdv s2 ⟨y,H2,I2,r2,q2⟩=>kws_nil ?_)
  exact hc.h pins s2 σ H2 vs us y dv Q I2 r1 r2 q2⟩
def RK:List V -> V -> Hp -> VK -> Prop:=λxs d H Q=>∃ p ns,xs = [.ref p] /\ H p = some (.lst (List.map V.int ns)) /\ (ns = [] -> Q d H) /\ (ns ≠ [] -> ∀ M ∈ ns,(∀ a ∈ ns,a <= M) -> Q (.int M) H)
theorem KN {X:Cx} (hc:X.calm = true):QD X "max" RK:=⟨by
 intro pins s σ H xs us dv d Q I r rd h
 obtain ⟨p,ns,rfl,hp,q0,q⟩:=h
 obtain ⟨u,rfl,ru⟩:=gV r
 cases ru
 obtain ⟨_,its,n,v,l,g⟩:=I.lstM hp
 have hi:IntsAre its ns:=g9 v
 have hl:s.heap.IsList p its.toArray:=⟨_,g,rfl,n,rfl⟩
 obtain ⟨ys,ey⟩:=hi.allInts.items
 rw [ey] at hl
 have e3:numsOf its.toArray.toList = ns:=hi.numsOf
 rw [ey] at e3
 have e4:=wB e3
 have hsz:ys.size = ns.length:=by rw [e4,a0c,a0l]
 refine G1 (I.ok.hd hc) hl (λhz h' tk hk=>⟨_,H,I.kept hk,rd,q0 (List.length_eq_zero_iff.mp (by omega))⟩) λhz v h' tk hv hk=>?_
 obtain ⟨t,rfl⟩:=intItems_at hv
 obtain ⟨h1,h2⟩:=argBest_gt (numAt ys) (ys.size - 1)
 refine ⟨.int _,H,I.kept hk,⟨t,rfl⟩,q (λz=>by rw [z,List.length_nil] at hsz;omega) _ ?_ λa ha=>?_⟩
 ·rw [numAt_eq,e4];exact getD_mem (by rw [a0c,a0l];omega)
 ·rw [e4] at ha
  obtain ⟨j,hj,rfl⟩:=mem_getD ha
  rw [a0c,a0l] at hj
  rw [<- numAt_eq];exact h2 j (by omega)⟩
def lV:List PV -> PV -> (PV -> Prop) -> Prop:=λxs d Q=>match xs with
 | [.lst ys]=>(match PV.ints ys with
  | some ns=>(ns = [] -> Q d) /\ (ns ≠ [] -> ∀ M ∈ ns,(∀ a ∈ ns,a <= M) -> Q (.int M))
  | none=>False)
 | _=>False
theorem K5 {ns:List Int} {d:PV} {Q:PV -> Prop} (q0:ns = [] -> Q d) (q:ns ≠ [] -> ∀ M ∈ ns,(∀ a ∈ ns,a <= M) -> Q (.int M)):lV [.lst (ns.map PV.int)] d Q:=by unfold lV;simp only [PV.ints_map];exact ⟨q0,q⟩
theorem zW:SimD RK lV:=⟨λB H0 W H vs xs dv d Q K w r rd q k=>by
 obtain ⟨v,x,rfl,rfl,r1⟩:=r.one
 unfold lV at q
 cases x with
 | lst ys =>
  dsimp only at q
  cases hi:PV.ints ys with
  | none=>rw [hi] at q;exact q.elim
  | some ns =>
   rw [hi] at q
   have r1':Rep (λa=>¬ W.S a) H v (.lst ys):=r1
   rw [PV.ints_of hi] at r1'
   obtain ⟨a,us,rfl,_,e,rr⟩:=Rep.ofList r1'
   rw [rr.ints] at e
   exact ⟨a,ns,rfl,e,λz=>k.atom w rd (q.1 z),λz M hM hm=>k.atom w (.int M) (q.2 z M hM hm)⟩
 | _=>exact q.elim⟩
end L2
namespace PySem
open Sem (wp)
theorem lk_list_keys:typeLookup (.type "list") "keys" = pure none:=am_miss_of_fast (by kernel_rfl)
section
variable {prog:Program} {w:World} {A:Around} {E:Value -> Shared -> Prop} {s:Shared}
theorem noKeys {a:Addr} {xs:Array Value} {k:Nat} {sl:Array (Option Value)} {Q:Option Value -> Shared -> Prop} (hx:s.heap.get? a = some { cls:=.type "list",dict:=none,data:=.seq xs k,slots:=sl }) (hA:A.handled = none)
  (h:∀ h' tk,(∀ b o,s.heap.get? b = some o -> h'.get? b = some o) -> Q none { s with heap:=h',toks:=tk }):wpAny (model prog w) A (getAttr? (.ref a) "keys") Q E s:=by
 obtain ⟨hp,g,d,tk,os⟩:=s
 have ty:∀ n,(⟨hp,g,d,n,os⟩ : Shared).TypeIs (.ref a) "list" := λ_=>⟨_,hx,rfl⟩
 have g1:=sub_AttributeError
 have g3:=F.slot_list_getattribute.lookup;have g4:=F.slot_list_getattribute.bind (.ref a)
 have g5:=am_list_getattr_none
 unfold getAttr? getAttrBy? getAttrBy
 repeat (any_goals (first | assumption | exact ty _ | ((with_reducible show wpAny _ _ (call (Value.builtin "list.__getattribute__") _ _) _ _ _);refine call_meets F.slot_list_getattribute (ty _) am_entry_list_getattribute (F.args_list_getattribute_2 _ _) (meets_getattribute_miss_list a xs k sl "keys" _ lk_list_keys (by decide +kernel)) ⟨hx,hA,λh' n e nx=>?_⟩) | wp_step))
 obtain ⟨_,_,he⟩:=nx.there
 show wpAny _ _ (getattributeRaised _ _ _ _ _ _ _) _ _ _
 unfold getattributeRaised
 repeat (any_goals (first | assumption | wp_step))
 exact h _ _ nx.of.keeps
theorem plain_du_loop:plainId "dict.update.loop" = true:=by decide +kernel
theorem entry_du_loop:entryFor table "dict.update.loop" = some Builtin.«dict.update.loop»:=entryFor_of_tree (by kernel_rfl)
end
end PySem
namespace L2
open PySem PySem.Spec PyProof.Rows
def iV (h:Heap) (us:List Value) (ps:List (b9 × Value)):Prop:=Paired (λ(u:Value) (p:b9 × Value)=>∃ b k,u = .ref b /\ IsTup h b #[k,p.2] /\ b7 (kV p.1) k) us ps
theorem iV.get:∀ {h:Heap} {us:List Value} {ps:List (b9 × Value)},iV h us ps -> ∀ {i:Nat} {u:Value},us[i]? = some u -> ∃ b k p,u = .ref b /\ ps[i]? = some p /\ IsTup h b #[k,p.2] /\ b7 (kV p.1) k
 | _,_,_,.nil,i,u,e=>by simp at e
 | _,_,_,.cons (b:=p) r t,0,u,e=>by
  simp at e;subst e
  obtain ⟨b,k,h1,h2,h3⟩:=r
  exact ⟨b,k,p,h1,rfl,h2,h3⟩
 | _,_,_,.cons r t,i + 1,u,e=>iV.get (show iV _ _ _ from t) (by simpa using e)
section
variable {prog:Program} {w:World} {A:Around} {s:Shared} {R:Result -> Shared -> Prop}
theorem N4 {h0:Heap} {l it d:Addr} {its:Array Value} {ps:List (b9 × Value)} (hl:h0.IsList l its) (hp:iV h0 its.toList ps) (hA:A.handled = none) (hdi:d ≠ it) (hd0:h0.get? d = none) (hi0:h0.get? it = none) :
  ∀ (n i:Nat) (s:Shared) (t:Tok) (kvs:List (b9 × Value)),its.size = i + n -> (∀ b o,h0.get? b = some o -> s.heap.get? b = some o) -> s.heap.IsListIter it l i -> s.heap.DictOf (aV prog w) d kvs -> kvs.length + n <= sizeLine ->
   (∀ h' tk,(∀ b o,h0.get? b = some o -> h'.get? b = some o) -> h'.DictOf (aV prog w) d (merged kvs (ps.drop i)) -> R (.ok (.ret .none)) { s with heap:=h',toks:=tk }) ->
   codeAny (model prog w) A (.builtin "dict.update.loop" ⟨[.ref d,.ref it,.int i t,.none],[]⟩) R s:=by
 have hlen:its.toList.length = ps.length:=Paired.length hp
 intro n
 induction n with
 | zero =>
  intro i s t kvs hn hk hit hd hz hR
  refine codeAny_builtin entry_du_loop ?_
  rw [Around.under_plainId plain_du_loop _]
  unfold Builtin.«dict.update.loop»
  obtain ⟨ol,e1,e2⟩:=hl
  refine a0a (wpAny_pyNext_list_end (A:=A.in1) hA hit ⟨ol,hk _ _ e1,e2⟩ (by rw [Array.getElem?_eq_none];omega) λh' eb=>?_)
  show wpAny _ _ (Builtin.Dict.addKeywords d [] >>= _) _ _ _
  refine a0a (a0d (a0d ?_))
  have:=hR h' s.toks (λb o e=>eb b o (λz=>by subst z;rw [hi0] at e;cases e) (hk b o e))
  rw [List.drop_eq_nil_of_le (by rw [<- hlen,a0l];omega)] at this
  exact this (hd.extBut eb hdi)
 | succ n ih =>
  intro i s t kvs hn hk hit hd hz hR
  have hlt:i < its.size:=by omega
  have hu:its.toList[i]? = some its[i]:=by rw [Array.getElem?_toList,Array.getElem?_eq_getElem hlt]
  obtain ⟨b,k,p,eb,ep,tb,rk⟩:=hp.get hu
  refine codeAny_builtin entry_du_loop ?_
  rw [Around.under_plainId plain_du_loop _]
  unfold Builtin.«dict.update.loop»
  have hl':=hl
  obtain ⟨ol,e1,e2⟩:=hl'
  refine a0a (wpAny_pyNext_list_item hit ⟨ol,hk _ _ e1,e2⟩ (x:=.ref b) (by rw [<- eb];exact Array.getElem?_eq_getElem hlt) λh1 hit1 sb1=>?_)
  have k1:∀ b o,h0.get? b = some o -> h1.get? b = some o:=λc o e=>(sb1.2 c (λz=>by subst z;rw [hi0] at e;cases e)).trans (hk c o e)
  obtain ⟨ob,t1,t2,nn,t3⟩:=tb
  have tb1:=k1 _ _ t1
  have hd1:h1.DictOf (aV prog w) d kvs:=hd.sameBut sb1 hdi
  refine a0a (wpAny_holding ?_)
  refine a0a (wpAny_tryCatch ?_)
  unfold Builtin.Dict.pairItems
  refine a0a (wpAny_typeOf ⟨ob,tb1,t2⟩ ?_)
  rw [if_pos (by decide)]
  refine a0a (wpAny_seqItems tb1 t3 (a0d ?_))
  show wpAny _ _ (holding [k,p.2] (dictSet d k p.2)) _ _ _
  refine wpAny_holding (wpAny_dictSet_pairs (knd:=aV prog w) (k:=p.1) (u7 rk) hd1 (λh2 hd2 sb2=>?_) (by omega))
  refine a0d ⟨plainId_quiet plain_du_loop _,?_⟩
  have:=stored_length_le kvs p.1 p.2
  refine ih (i + 1) _ _ (stored kvs p.1 p.2) (by omega) (λc o e=>(sb2.2 c (λz=>by subst z;rw [hd0] at e;cases e)).trans (k1 c o e)) ?_ hd2 (by omega) λh' tk hk' hd'=>hR h' tk hk' ?_
  ·obtain ⟨oo,q1,q2⟩:=hit1
   exact ⟨oo,(sb2.2 it (Ne.symm hdi)).trans q1,q2⟩
  ·rw [List.drop_eq_getElem_cons (by rw [<- hlen,a0l];omega)]
   have e':ps[i]'(by rw [<- hlen,a0l];omega) = p:=by
    have:=a0b (l:=ps) (i:=i) (by rw [<- hlen,a0l];omega)
    rw [ep] at this;exact (Option.some.inj this).symm
   rw [e']
   exact hd'
theorem B4 {E:Value -> Shared -> Prop} {Q:Value -> Shared -> Prop} {l:Addr} {its:Array Value} {n:Nat} {sl:Array (Option Value)} {ps:List (b9 × Value)} (hl:s.heap.get? l = some { cls:=.type "list",dict:=none,data:=.seq its n,slots:=sl }) (hp:iV s.heap its.toList ps) (hA:A.handled = none) (hz:ps.length <= sizeLine)
  (h:∀ h' tk,(∀ b o,s.heap.get? b = some o -> h'.get? b = some o) -> h'.DictOf (aV prog w) s.heap.objs.size (merged [] ps) -> Q (.ref s.heap.objs.size) { s with heap:=h',toks:=tk }) :
  wpAny (model prog w) A (call (.type "dict") [.ref l]) Q E s:=by
 have hlen:its.toList.length = ps.length:=Paired.length hp
 refine callType_codes (Q₁:=λobj s1=>obj = .ref s.heap.objs.size /\ s1 = { s with heap:=s.heap.push { cls:=.type "dict",data:=.dict #[] } }) F.kt_called_dict (F.kt_typeCall_dict_1 _) F.entry_dict_init (kt_code_dict_new _ ⟨rfl,rfl⟩) ?_
 rintro obj s1 ⟨rfl,rfl⟩
 have hn:(s.heap.push { cls:=.type "dict",data:=.dict #[] }).DictOf (aV prog w) s.heap.objs.size []:=Heap.DictOf.new s.heap
 have k1:∀ b o,s.heap.get? b = some o -> (s.heap.push { cls:=.type "dict",data:=.dict #[] }).get? b = some o:=λb o e=>a0e _ e
 refine ⟨hn.typeIs,F.args_dict_init_2 _ _,?_⟩
 unfold Builtin.«dict.__init__»;refine a0a ?_;unfold Builtin.Dict.selfAndRest
 refine a0a (wpAny_notOrdered_dict hn.typeIs ?_)
 show wpAny _ _ (pure (s.heap.objs.size,[Value.ref l])) _ _ _
 refine a0d ?_
 show wpAny _ _ (Builtin.Dict.updateFrom "dict.__init__" s.heap.objs.size (.ref l) [] .none) _ _ _
 unfold Builtin.Dict.updateFrom
 refine a0a (wpAny_typeOf (T := "list") ⟨_,k1 _ _ hl,rfl⟩ ?_)
 rw [if_pos (by decide)]
 refine a0a (noKeys (k1 _ _ hl) hA λh2 tk k2=>?_)
 rw [if_pos (show (none:Option Value).isNone = true from rfl)]
 refine a0a (wpAny_rule (a0a (wpAny_pyIter_list (items:=its) ⟨_,k2 _ _ (k1 _ _ hl),rfl,n,rfl⟩ ?_)))
 refine a0d ⟨plainId_quiet plain_du_loop _,?_⟩
 have ne1:∀ b o,s.heap.get? b = some o -> b ≠ s.heap.objs.size:=λb o e z=>absurd (a0n e) (by rw [z];exact Nat.lt_irrefl _)
 obtain ⟨od,_,_,ed,_⟩:=id hn
 have lt2:s.heap.objs.size < h2.objs.size:=a0n (k2 _ _ ed)
 have none_ge:∀ (hh:Heap) (b:Addr),hh.objs.size <= b -> hh.get? b = none:=λhh b z=>by
  cases q:hh.get? b with
  | none=>rfl
  | some o=>exact absurd (a0n q) (Nat.not_lt.mpr z)
 refine N4 (A:=A.in1) (h0:=s.heap) (l:=l) (it:=h2.objs.size) (d:=s.heap.objs.size) (its:=its) (ps:=ps) ⟨_,hl,rfl,n,rfl⟩ hp hA (Nat.ne_of_lt lt2) (none_ge _ _ (Nat.le_refl _)) (none_ge _ _ (by omega)) its.size 0 _ _ [] (by omega) ?_ ?_ ?_ ?_ λh' tk' hk' hd'=>?_
 ·exact λb o e=>a0e _ (k2 _ _ (k1 _ _ e))
 ·exact ⟨_,Heap.get?_push_size _ rfl,rfl,rfl⟩
 ·obtain ⟨o,es,ep,q,r⟩:=hn
  exact ⟨o,es,ep,a0e _ (k2 _ _ q),r⟩
 ·rw [List.length_nil,Nat.zero_add,<- a0l,hlen];exact hz
 ·exact ⟨rfl,h h' tk' hk' hd'⟩
end
def vI (H:Hp) (vs:List V) (ps:List (b9 × V)):Prop:=Paired (λ(v:V) (p:b9 × V)=>∃ b,v = .ref b /\ H b = some (.tup [kV p.1,p.2])) vs ps
def KS:List V -> Hp -> VK -> Prop:=λxs H Q=>∃ (l:Addr) (vs:List V) (ps:List (b9 × V)),xs = [.ref l] /\ H l = some (.lst vs) /\ vI H vs ps /\ (ps.map (·.1)).Nodup /\ ps.length <= sizeLine /\ ∀ d,H d = none -> Q (.ref d) (bD H d (.dK ps))
theorem JZ {P:Program} {w:World} {H:Hp} {h:Heap} (hok:l7 P w H h) {vs:List V} {ps:List (b9 × V)} (r:vI H vs ps):∀ {us:List Value},aU vs us -> ∃ qs,iV h us qs /\ KV ps qs:=by
 unfold vI at r
 induction r with
 | nil=>intro us t;cases t;exact ⟨[],.nil,.nil⟩
 | cons h1 _ ih =>
  intro us t
  cases t with
  | cons t1 t2 =>
   obtain ⟨qs,q1,q2⟩:=ih t2
   obtain ⟨b,rfl,e⟩:=h1
   cases t1
   obtain ⟨_,its,rv,it⟩:=(show cF P w H h b (.tup _) from hok b _ e)
   obtain ⟨u,v,rfl,r1,r2⟩:=ED rv
   exact ⟨(_,v) :: qs,.cons ⟨b,u,rfl,it,r1⟩ q1,.cons ⟨rfl,r2⟩ q2⟩
theorem NY {ps:List (b9 × V)} {qs:List (b9 × Value)} (h:KV ps qs):qs.map (·.1) = ps.map (·.1):=by
 unfold KV at h
 induction h with
 | nil=>rfl
 | cons h1 _ ih=>rw [a0f,a0f,ih,h1.1]
theorem KI {X:Cx} (hc:X.calm = true):QC X (.type "dict") KS:=⟨by
 intro pins s σ H xs us Q I r h
 obtain ⟨l,vs,ps,rfl,e,hp,nd,hz,q⟩:=h
 obtain ⟨u,rfl,ru⟩:=gV r
 cases ru
 obtain ⟨_,its,n,rv,ho⟩:=(show cF X.prog X.w H s.heap l (.lst vs) from I.hok l _ e)
 obtain ⟨qs,q1,q2⟩:=JZ I.hok hp rv
 have hl:ps.length = qs.length:=Paired.length q2
 refine B4 (its:=its.toArray) (ps:=qs) ho (by simpa using q1) (I.ok.hd hc) (by rw [<- hl];exact hz) λh' tk kp hd=>?_
 rw [merged_nil_of_nodup qs (by rw [NY q2];exact nd)] at hd
 exact ⟨.ref s.heap.objs.size,_,I.laid (t':=tk) kp (Nat.le_refl _) (B7 hz (beq_eq_false_iff_ne.mpr (Ne.symm (Nat.ne_of_lt I.big))) q2 hd),rfl,q _ (I.hok.fresh (Nat.le_refl _))⟩⟩
def qZ:PN:=λxs Q=>match xs with
 | [.lst ys]=>∃ ps:List (b9 × PV),ys = ps.map (λp=>.tup [XZ p.1,p.2]) /\ (ps.map (·.1)).Nodup /\ ps.length <= 1000 /\ Q (.dic (ps.map (·.1)) (ps.map (·.2)))
 | _=>False
theorem PF {G:Addr -> Prop} {H:Hp} {v:V} {k:b9} (r:Rep G H v (XZ k)):v = kV k:=by
 cases k with
 | inl i=>exact r.ofInt
 | inr s=>exact r.ofStr
theorem uN {G:Addr -> Prop} {H:Hp}:∀ {ps:List (b9 × PV)} {vs:List V},Reps G H vs (ps.map λp=>.tup [XZ p.1,p.2]) -> ∃ us,us.length = ps.length /\ vI H vs ((ps.map (·.1)).zip us) /\ Reps G H us (ps.map (·.2))
 | [],vs,r=>by
  have:=r.len
  cases vs with
  | nil=>exact ⟨[],rfl,.nil,.nil⟩
  | cons=>cases this
 | p :: ps,vs,r=>by
  cases vs with
  | nil=>have:=r.len;cases this
  | cons v vs =>
   have r':Reps G H vs (ps.map λp=>.tup [XZ p.1,p.2]):=⟨by have:=r.len;simpa using this,λi u z e1 e2=>r.at_ (i + 1) u z (by simpa using e1) (by simpa using e2)⟩
   obtain ⟨us,h1,h2,h3⟩:=uN r'
   obtain ⟨b,ws,rfl,e,rr⟩:=(r.at_ 0 _ _ rfl rfl:Rep G H v (.tup [XZ p.1,p.2])).ofTup
   have hl:=rr.len
   match ws,hl with
   | [w1,w2],_ =>
    have k1:=PF (rr.at_ 0 w1 _ rfl rfl)
    subst k1
    exact ⟨w2 :: us,by simp [h1],.cons ⟨b,rfl,e⟩ h2,.cons (rr.at_ 1 w2 _ rfl rfl) h3⟩
theorem GA {el:El}:SimC KS [.p el] (.o el) qZ:=⟨λB H0 W H vs xs Q K w r q k=>by
 obtain ⟨v,x,rfl,rfl,r1⟩:=r.one
 unfold qZ at q
 cases x with
 | lst ys =>
  obtain ⟨ps,rfl,nd,hz,q⟩:=q
  obtain ⟨a,us,rfl,e,rr⟩:=RepP.ofList r1
  obtain ⟨ws,h1,h2,h3⟩:=uN rr
  have e1:((ps.map (·.1)).zip ws).map (·.1) = ps.map (·.1):=by rw [List.map_fst_zip];simp [h1]
  refine ⟨a,us,_,rfl,e,h2,by rw [e1];exact nd,?_,λd hd=>?_⟩
  ·rw [List.length_zip,a0c,h1]
   exact Nat.le_trans (by omega:_ <= 1000) (by decide)
  ·exact k.newB w hd (Body.dic (by simp [h1]) h3) q
 | _=>exact q.elim⟩
open PySem PySem.W PyProof.Rows
section
variable {O:KeyOrd} {K:Nat -> O.α} {cmp:Nat -> Nat -> (Bool -> Shared -> Prop) -> Shared -> Prop} {s:Shared} {n:Nat}
variable (hc:∀ i j (C:Bool -> Shared -> Prop),i < n -> j < n -> C (O.blt (K i) (K j)) s -> cmp i j C s) (hn:0 < n)
include hc hn
omit hc hn in
omit hc hn in
end
abbrev RD.pC (x:PV):aQ:=λ_ Q=>Q x
abbrev RD.pVar (i:Nat):aQ:=λenv Q=>match l8 env i with
 | some (some x)=>Q x
 | _=>False
abbrev RD.pOp (r:P2) (a b:aQ):aQ:=λenv Q=>a env λx=>b env λy=>r x y Q
abbrev RD.pUn (r:PV -> (PV -> Prop) -> Prop) (a:aQ):aQ:=λenv Q=>a env λx=>r x Q
abbrev RD.pNil:kP:=λ_ Q=>Q []
abbrev RD.pCons (a:aQ) (r:kP):kP:=λenv Q=>a env λx=>r env λxs=>Q (x :: xs)
abbrev RD.pCl (r:PN) (a:kP):aQ:=λenv Q=>a env λxs=>r xs Q
abbrev RD.pBo (a:aQ):dX:=λenv Q=>a env λx=>match x with
 | .bl b=>Q b
 | _=>False
abbrev RD.pAnd (a b:dX):dX:=λenv Q=>a env λk=>Br k (b env Q) (Q false)
abbrev RD.pOr (a b:dX):dX:=λenv Q=>a env λk=>Br k (Q true) (b env Q)
abbrev RD.pNot (a:dX):dX:=λenv Q=>a env λk=>Q (!k)
abbrev RD.pChain (r r':P2) (a b c:aQ):aQ:=λenv Q=>a env λx=>b env λy=>r x y λz=>match z with
 | .bl k=>Br k (c env λw=>r' y w Q) (Q (.bl false))
 | _=>False
abbrev RD.pFlat (a:aQ):aQ:=λenv Q=>a env λx=>x.flat = true /\ Q x
abbrev RD.pFlatL (a:aQ):aQ:=λenv Q=>a env λx=>match x with
 | .lst xs=>PV.flats xs = true /\ Q (.lst xs)
 | _=>False
abbrev RD.pLst (a:kP):aQ:=λenv Q=>a env λxs=>Q (.lst xs)
abbrev RD.pTup (a:kP):aQ:=λenv Q=>a env λxs=>Q (.tup xs)
abbrev RD.pI (C:Int -> Int -> Prop) (f:Int -> Int -> PV):P2:=λx y Q=>match x,y with
 | .int i,.int j=>C i j /\ Q (f i j)
 | _,_=>False
abbrev RD.pI0 (f:Int -> Int -> PV):P2:=λx y Q=>match x,y with
 | .int i,.int j=>Q (f i j)
 | _,_=>False
abbrev RD.pU (f:Int -> PV):PV -> (PV -> Prop) -> Prop:=λx Q=>match x with
 | .int i=>Q (f i)
 | _=>False
abbrev RD.pAddS:P2:=λx y Q=>match x,y with
 | .str i,.str j=>i.length + j.length <= sizeLine /\ Q (.str (i ++ j))
 | _,_=>False
abbrev RD.pIsN:P2:=λx y Q=>match y with
 | .non=>Q (.bl x.isNon)
 | _=>False
abbrev RD.pNotN:P2:=λx y Q=>match y with
 | .non=>Q (.bl (!x.isNon))
 | _=>False
abbrev RD.pNoPart:HN:=λ_ Q=>Q none
abbrev RD.pPart (a:aQ):HN:=λenv Q=>a env λx=>match x with
 | .int i=>Q (some i)
 | _=>False
abbrev RD.pSlL (x:PV) (lo hi:Option Int) (Q:PV -> Prop):Prop:=match x with
 | .lst xs=>Q (.lst (sQ xs lo hi))
 | _=>False
abbrev RD.pSlT (x:PV) (lo hi:Option Int) (Q:PV -> Prop):Prop:=match x with
 | .tup xs=>¬ (HT.sIx xs.length 0 lo = 0 /\ HT.sIx xs.length xs.length hi = xs.length) /\ Q (.tup (sQ xs lo hi))
 | _=>False
abbrev RD.pSlice (r:PV -> Option Int -> Option Int -> (PV -> Prop) -> Prop) (a:aQ) (lo hi:HN):aQ:=λenv Q=>a env λx=>lo env λl=>hi env λh=>r x l h Q
abbrev RD.pCat:P2:=λx y Q=>match x,y with
 | .lst xs,.lst ys=>xs.length + ys.length <= sizeLine /\ Q (.lst (xs ++ ys))
 | _,_=>False
abbrev RD.pRep:P2:=λx y Q=>match x,y with
 | .lst xs,.int k=>-(2 ^ 63) <= k /\ k < 2 ^ 63 /\ xs.length * k.toNat <= sizeLine /\ Q (.lst (List.replicate k.toNat xs).flatten)
 | _,_=>False
abbrev RD.pLen:PN:=λxs Q=>match xs with
 | [.lst ys]=>Q (.int ys.length)
 | [.tup ys]=>Q (.int ys.length)
 | [.str s]=>s.length <= sizeLine /\ Q (.int s.length)
 | _=>False
abbrev RD.pLenScr:PN:=λxs Q=>match xs with
 | [.scr ns]=>Q (.int ns.length)
 | _=>False
abbrev RD.pMax2:PN:=λxs Q=>match xs with
 | [.int i,.int j]=>Q (.int (max i j))
 | _=>False
abbrev RD.pMin2:PN:=λxs Q=>match xs with
 | [.int i,.int j]=>Q (.int (min i j))
 | _=>False
abbrev RD.pInt1:PN:=λxs Q=>match xs with
 | [.int i]=>Q (.int i)
 | [.bl b]=>Q (.int (if b then 1 else 0))
 | _=>False
abbrev RD.pNext:bE:=λE env=>E.nx env
abbrev RD.pSeq (p q:bE):bE:=λE env=>p { E with nx:=q E } env
abbrev RD.pIfS (c:dX) (a b:bE):bE:=λE env=>c env λk=>Br k (a E env) (b E env)
abbrev RD.pRet (a:aQ):bE:=λE env=>a env E.rt
abbrev RD.pSet (i:Nat) (a:aQ):bE:=λE env=>a env λx=>E.nx (gH env i (some x))
abbrev RD.pgName (i:Nat):gN:=λx env R=>R (gH env i (some x))
abbrev RD.pgNil:pF:=λxs env R=>match xs with
 | []=>R env
 | _=>False
abbrev RD.pgCons (g:gN) (u:pF):pF:=λxs env R=>match xs with
 | x :: r=>g x env λenv'=>u r env' R
 | []=>False
abbrev RD.pgTup (n:Nat) (g:pF):gN:=λx env R=>match x with
 | .tup xs=>xs.length = n /\ g xs env R
 | _=>False
abbrev RD.pAsg (a:aQ) (g:gN):bE:=λE env=>a env λx=>g x env E.nx
abbrev RD.piLst (a:aQ):lA:=λenv Q=>a env λx=>match x with
 | .lst xs=>Q xs
 | _=>False
abbrev RD.piTup (a:aQ):lA:=λenv Q=>a env λx=>match x with
 | .tup xs=>Q xs
 | _=>False
abbrev RD.piRng1 (a:aQ):lA:=λenv Q=>a env λx=>match x with
 | .int j=>-(2 ^ 62) <= j /\ j < 2 ^ 62 /\ Q (c8 0 j.toNat)
 | _=>False
abbrev RD.pFor (s:lA) (g:gN) (b:bE):bE:=λE env=>s env λitems=>mQ g b E items env
abbrev RD.tyP (T:String) (x:PV):Prop:=match x with
 | .lst _=>T = "list"
 | .dic _ _=>T = "dict"
 | _=>False
abbrev RD.pMethT (T:String) (i:Nat) (pm:PV -> List PV -> (PV -> Prop) -> Prop) (t:kP):bE:=λE env=>match l8 env i with
 | some (some x)=>RD.tyP T x /\ t env λys=>pm x ys λx'=>E.nx (gH env i (some x'))
 | _=>False
abbrev RD.pmAppend:PV -> List PV -> (PV -> Prop) -> Prop:=λx ys R=>match x,ys with
 | .lst xs,[y]=>xs.length < sizeLine /\ R (.lst (xs ++ [y]))
 | _,_=>False
abbrev RD.pPut (i:Nat) (pe pj:aQ):bE:=λE env=>pe env λy=>match l8 env i with
 | some (some (.lst xs))=>pj env λj=>(match j with
  | .int k=>(match sN xs.length k with
   | some n=>E.nx (gH env i (some (.lst (xs.set n y))))
   | none=>False)
  | _=>False)
 | _=>False
abbrev RD.pLc (s:lA) (g:gN) (tt:dX) (te:aQ) (cp:b6 -> b6):aQ:=λenv Q=>s env λitems=>items.length <= sizeLine /\ fA g tt te Q items [] (cp env)
abbrev RD.pTrue:dX:=λ_ Q=>Q true
abbrev RD.pEqI:P2:=RD.pI0 λi j=>.bl (decide (i = j))
abbrev RD.pNeI:P2:=RD.pI0 λi j=>.bl (!decide (i = j))
abbrev RD.pAddI:P2:=RD.pI0 λi j=>.int (i + j)
abbrev RD.pSubI:P2:=RD.pI0 λi j=>.int (i - j)
abbrev RD.pMulI:P2:=RD.pI sO λi j=>.int (i * j)
abbrev RD.pPowI:P2:=RD.pI sP λi j=>.int (i ^ j.toNat)
abbrev RD.pLtI:P2:=RD.pI0 λi j=>.bl (decide (i < j))
abbrev RD.pLeI:P2:=RD.pI0 λi j=>.bl (decide (i <= j))
abbrev RD.pGtI:P2:=RD.pI0 λi j=>.bl (decide (j < i))
abbrev RD.pNegI:PV -> (PV -> Prop) -> Prop:=RD.pU λi=>.int (-i)
abbrev RD.pListR (a:aQ):aQ:=λenv Q=>a env λx=>match x with
 | .int j=>0 <= j /\ j <= 1000 /\ Q (.lst (c8 0 j.toNat))
 | _=>False
abbrev RD.pEmAdd (te:aQ):AE:=λacc env K=>te env λv=>match v with
 | .int i=>acc.length < 63 /\ K (acc ++ [i]) env
 | _=>False
abbrev RD.pEmIn (s:lA) (g:gN) (tt:dX) (a:AE):AE:=λacc env K=>s env λitems=>jR g tt a K items acc env
abbrev RD.pSortSc (s:lA) (g:gN) (tt:dX) (a:AE) (cp:b6 -> b6):aQ:=λenv Q=>s env λitems=>jR g tt a (λacc _=>Q (.lst ((aJ acc).map PV.int))) items [] (cp env)
abbrev RD.piEnum (a:aQ):lA:=λenv Q=>a env λx=>match x with
 | .lst xs=>Q (oT xs)
 | _=>False
abbrev RD.pPar (i j:Nat) (pa:kP):bE:=λE env=>pa env λxs=>match xs with
 | [x,y]=>E.nx (gH (gH env i (some x)) j (some y))
 | _=>False
abbrev RD.pRev (a k:aQ):aQ:=λenv Q=>a env λx=>k env λy=>match x,y with
 | .lst xs,.int i=>i = -1 /\ Q (.lst xs.reverse)
 | _,_=>False
abbrev RD.pDPut (n:Nat) (pe pj:aQ):bE:=λE env=>pe env λy=>match l8 env n with
 | some (some (.dic ks xs))=>pj env λj=>(match HD j with
  | some k=>ks.length < 1000 /\ E.nx (gH env n (some (.dic (FE ks k) (AG ks xs k y))))
  | none=>False)
 | _=>False
abbrev RD.piZip (a b:aQ):lA:=λenv Q=>a env λx=>b env λy=>match x,y with
 | .lst xs,.lst ys=>Q (tJ xs ys)
 | _,_=>False
abbrev RD.pOrL (a b:aQ):aQ:=λenv Q=>a env λx=>match x with
 | .lst xs=>Br (!xs.isEmpty) (Q (.lst xs)) (b env Q)
 | _=>False
abbrev RD.pPutAt (i:Nat) (y:PV) (pj:aQ) (Kp:b6 -> Prop) (env:b6):Prop:=match l8 env i with
 | some (some (.lst xs))=>pj env λj=>(match j with
  | .int k=>(match sN xs.length k with
   | some n=>Kp (gH env i (some (.lst (xs.set n y))))
   | none=>False)
  | _=>False)
 | _=>False
abbrev RD.pPut2 (i i':Nat) (pe pj pj':aQ):bE:=λE env=>pe env λt=>match t with
 | .tup [y,z]=>RD.pPutAt i y pj (λenv1=>RD.pPutAt i' z pj' E.nx env1) env
 | _=>False
abbrev RD.pDc (s:lA) (g:gN) (tt:dX) (tk tv:aQ) (cp:b6 -> b6):aQ:=λenv Q=>s env λitems=>tD g tt tk tv Q items [] [] (cp env)
abbrev RD.pSortXor (a b:aQ):aQ:=λenv Q=>a env λx=>gS 32 x λns=>b env λy=>gS 32 y λms=>Q (.lst ((aJ (l9 ns ms)).map PV.int))
abbrev RD.tyB (T:String) (x:PV):Prop:=match x with
 | .str _=>T = "str"
 | .lst _=>T = "list"
 | .dic _ _=>T = "dict"
 | _=>False
abbrev RD.pBm (T:String) (pm:PV -> PN) (a:aQ) (t:kP):aQ:=λenv Q=>a env λx=>RD.tyB T x /\ t env λys=>pm x ys Q
abbrev RD.pClD (pr:List PV -> PV -> (PV -> Prop) -> Prop) (a:kP) (d:aQ):aQ:=λenv Q=>a env λxs=>d env λz=>pr xs z Q
theorem a0A:@RD.pC = @pC:=rfl
theorem T6:@RD.pVar = @pVar:=rfl
theorem XN:@RD.pOp = @pOp:=rfl
theorem XQ:@RD.pUn = @pUn:=rfl
theorem SR:@RD.pNil = @pNil:=rfl
theorem N7:@RD.pCons = @pCons:=rfl
theorem XH:@RD.pCl = @pCl:=rfl
theorem XG:@RD.pBo = @pBo:=rfl
theorem SA:@RD.pAnd = @pAnd:=rfl
theorem XO:@RD.pOr = @pOr:=rfl
theorem SS:@RD.pNot = @pNot:=rfl
theorem IL:@RD.pChain = @pChain:=rfl
theorem NA:@RD.pFlat = @pFlat:=rfl
theorem IN:@RD.pFlatL = @pFlatL:=rfl
theorem SM:@RD.pLst = @pLst:=rfl
theorem T5:@RD.pTup = @pTup:=rfl
theorem a0B:@RD.pI = @pI:=rfl
theorem XJ:@RD.pI0 = @pI0:=rfl
theorem a0C:@RD.pU = @pU:=rfl
theorem N6:@RD.pAddS = @pAddS:=rfl
theorem SJ:@RD.pIsN = @pIsN:=rfl
theorem NH:@RD.pNotN = @pNotN:=rfl
theorem FH:@RD.pNoPart = @pNoPart:=rfl
theorem NI:@RD.pPart = @pPart:=rfl
theorem T3:@RD.pSlL = @pSlL:=rfl
theorem T4:@RD.pSlT = @pSlT:=rfl
theorem IS:@RD.pSlice = @pSlice:=rfl
theorem SD:@RD.pCat = @pCat:=rfl
theorem SX:@RD.pRep = @pRep:=rfl
theorem SL:@RD.pLen = @pLen:=rfl
theorem FG:@RD.pLenScr = @pLenScr:=rfl
theorem NC:@RD.pMax2 = @pMax2:=rfl
theorem ND:@RD.pMin2 = @pMin2:=rfl
theorem NB:@RD.pInt1 = @pInt1:=rfl
theorem NG:@RD.pNext = @pNext:=rfl
theorem T1:@RD.pSeq = @pSeq:=rfl
theorem SI:@RD.pIfS = @pIfS:=rfl
theorem SY:@RD.pRet = @pRet:=rfl
theorem T2:@RD.pSet = @pSet:=rfl
theorem IU:@RD.pgName = @pgName:=rfl
theorem NN:@RD.pgNil = @pgNil:=rfl
theorem IT:@RD.pgCons = @pgCons:=rfl
theorem NO:@RD.pgTup = @pgTup:=rfl
theorem SC:@RD.pAsg = @pAsg:=rfl
theorem NP:@RD.piLst = @piLst:=rfl
theorem NQ:@RD.piTup = @piTup:=rfl
theorem IW:@RD.piRng1 = @piRng1:=rfl
theorem SG:@RD.pFor = @pFor:=rfl
theorem XS:@RD.tyP = @tyP:=rfl
theorem IQ:@RD.pMethT = @pMethT:=rfl
theorem B9:@RD.pmAppend = @pmAppend:=rfl
theorem SW:@RD.pPut = @pPut:=rfl
theorem XM:@RD.pLc = @pLc:=rfl
theorem NM:@RD.pTrue = @pTrue:=rfl
theorem SF:@RD.pEqI = @pEqI:=rfl
theorem SQ:@RD.pNeI = @pNeI:=rfl
theorem N5:@RD.pAddI = @pAddI:=rfl
theorem NL:@RD.pSubI = @pSubI:=rfl
theorem NE:@RD.pMulI = @pMulI:=rfl
theorem NJ:@RD.pPowI = @pPowI:=rfl
theorem SO:@RD.pLtI = @pLtI:=rfl
theorem SK:@RD.pLeI = @pLeI:=rfl
theorem SH:@RD.pGtI = @pGtI:=rfl
theorem NF:@RD.pNegI = @pNegI:=rfl
theorem IP:@RD.pListR = @pListR:=rfl
theorem IM:@RD.pEmAdd = @pEmAdd:=rfl
theorem N9:@RD.pEmIn = @pEmIn:=rfl
theorem FI:@RD.pSortSc = @pSortSc:=rfl
theorem IV:@RD.piEnum = @piEnum:=rfl
theorem SV:@RD.pPar = @pPar:=rfl
theorem SZ:@RD.pRev = @pRev:=rfl
theorem N8:@RD.pDPut = @pDPut:=rfl
theorem NR:@RD.piZip = @piZip:=rfl
theorem SU:@RD.pOrL = @pOrL:=rfl
theorem IR:@RD.pPutAt = @pPutAt:=rfl
theorem NK:@RD.pPut2 = @pPut2:=rfl
theorem XI:@RD.pDc = @pDc:=rfl
theorem B8:@RD.pSortXor = @pSortXor:=rfl
theorem XR:@RD.tyB = @tyB:=rfl
theorem XF:@RD.pBm = @pBm:=rfl
theorem SE:@RD.pClD = @pClD:=rfl
structure NV (N:List Str) (nm:Str) (st:Stmt) (x:Str) (i:Nat):Prop where
 lo:EJ (aA st) x
 h:∀ {P:Program} {w:World} {K:PySem.W.Frag} {mg:Str -> Option Value} {base:Heap} {f:Addr} {cdv:Value} {A:Around} {outer:List Env} {s:Shared} {H:Hp} {E:XK} {pos:Pos},QE (cI iU P w K mg base N nm (aA st) f cdv A outer s H E).nox (.Name x pos) (dU i)
theorem RA {N:List Str} {nm:Str} {st:Stmt} {x:Str} {i:Nat} (lo:EJ (aA st) x) (h1:N[i]? = some x) (h2:(x == ("__debug__" : Str)) = false) (h3:(x == ("__classdict__" : Str)) = false):NV N nm st x i:=⟨lo,KG h1 (lo.elim Or.inl (λz=>Or.inr (Or.inl z))) h2 h3⟩
structure NVs (N:List Str) (st:Stmt):Prop where
 h:∀ x ∈ N,((aA st).names.lookup x = some NameKind.local \/ (aA st).names.lookup x = some NameKind.cell) /\ (x == ("__debug__" : Str)) = false /\ (x == ("__classdict__" : Str)) = false
theorem NVs.nv {N:List Str} {nm:Str} {st:Stmt} {x:Str} {i:Nat} (s:NVs N st) (e:N[i]? = some x):NV N nm st x i:=RA (s.h x (List.mem_of_getElem? e)).1 e (s.h x (List.mem_of_getElem? e)).2.1 (s.h x (List.mem_of_getElem? e)).2.2
theorem TB {N P:List Str} {sc:Scope} (a:sc.kind = .function) (b:sc.isCoroutine = false) (c:sc.isGenerator = false) (d:N.take P.length = P) (h:N.Nodup /\ (∀ x ∈ P,sc.names.lookup x = some .local \/ sc.names.lookup x = some .cell) /\ ∀ y ∈ sc.names,y.2 ≠ .free):FnScope N P sc:=⟨a,b,c,h.1,d,h.2.1,h.2.2⟩
abbrev GL (st:Stmt) (x:String):Prop:=(aA st).names.lookup (Str.ofString x) = some NameKind.globalImplicit
structure DfA (K:PySem.W.Frag) (x:Str) (st:Stmt):Prop where
 ex:∃ (f:Addr) (oc:Value) (od an:Option Addr) (osl:Array (Option Value)) (kV doc pm cdv ct:Value),PySem.W.nsIn K mainGlobals x = some (some (.ref f)) /\ K.lookup f = some ⟨oc,od,.func (PySem.W.fnOf x x (cK st) (bI st) (aA st) .none kV doc pm an cdv ct),osl⟩ /\ PySem.W.codeIn K cdv x = true /\ PySem.W.keepIn K (.ref f) = true
theorem S8 {K:PySem.W.Frag} {x:Str} {st:Stmt} {f:Addr} {oc:Value} {od an:Option Addr} {osl:Array (Option Value)} {kV doc pm cdv ct:Value} (a:PySem.W.nsIn K mainGlobals x = some (some (.ref f)))
  (l:K.lookup f = some ⟨oc,od,.func (PySem.W.fnOf x x (cK st) (bI st) (aA st) .none kV doc pm an cdv ct),osl⟩) (c:PySem.W.codeIn K cdv x = true) (k:PySem.W.keepIn K (.ref f) = true):DfA K x st:=⟨⟨f,oc,od,an,osl,kV,doc,pm,cdv,ct,a,l,c,k⟩⟩
theorem DfA.df {K:PySem.W.Frag} {h:Heap} {mg:Str -> Option Value} {x:Str} {st:Stmt} (D:DfA K x st) (X:K.In h) (G:h.Ns mainGlobals mg):Df K mg x st:=by
 obtain ⟨f,oc,od,an,osl,kV,doc,pm,cdv,ct,a,l,c,k⟩:=D.ex
 exact XD X G a l c k
theorem pT {N N':List Str} {osc scope:Scope} {n:Nat} {cap:List Nat} (k:scope.kind = .function) (l:N'.length = n + cap.length) (h:(∀ y ∈ scope.names,y.2 ≠ .cell) /\ (∀ y ∈ scope.names,y.2 = .local -> scope.names.lookup y.1 = some .local) /\ (∀ y ∈ scope.names,y.2 = .free -> osc.names.lookup y.1 = some .cell) /\ (N'.drop n = cap.map λi=>N.getD i Str.empty) /\ (∀ i ∈ cap,i < N.length) /\ ∀ x ∈ N'.drop n,scope.names.lookup x = some NameKind.free):LcOk N osc scope N' n cap:=⟨k,h.1,h.2.1,h.2.2.1,h.2.2.2.1,h.2.2.2.2.1,h.2.2.2.2.2,l⟩
theorem a0L {f:FuncData} {ps:List Str}:∀ {us:List Value},us.length = 1 -> (∀ a:Value,bindArgs f ⟨[a],[]⟩ = pure (ps.zip [a])) -> bindArgs f ⟨us,[]⟩ = pure (ps.zip us)
 | [a],_,k=>k a
theorem UA {f:FuncData} {ps:List Str}:∀ {us:List Value},us.length = 2 -> (∀ a b:Value,bindArgs f ⟨[a,b],[]⟩ = pure (ps.zip [a,b])) -> bindArgs f ⟨us,[]⟩ = pure (ps.zip us)
 | [a,b],_,k=>k a b
theorem a0M {f:FuncData} {ps:List Str}:∀ {us:List Value},us.length = 3 -> (∀ a b c:Value,bindArgs f ⟨[a,b,c],[]⟩ = pure (ps.zip [a,b,c])) -> bindArgs f ⟨us,[]⟩ = pure (ps.zip us)
 | [a,b,c],_,k=>k a b c
theorem a0N {f:FuncData} {ps:List Str}:∀ {us:List Value},us.length = 4 -> (∀ a b c d:Value,bindArgs f ⟨[a,b,c,d],[]⟩ = pure (ps.zip [a,b,c,d])) -> bindArgs f ⟨us,[]⟩ = pure (ps.zip us)
 | [a,b,c,d],_,k=>k a b c d
abbrev S6 (st:PV -> b6) (rn:(PV -> Prop) -> Prop) (r:bE):PN:=λxs R=>match xs with
 | [a0]=>r { nx:=λ_=>rn R,rt:=R } (st a0)
 | _=>False
theorem WY {N:List Str} {rm:Md} {st:PV -> b6} {rn:(PV -> Prop) -> Prop} {r p:bE} (e:r = p) (hs:∀ a0,st a0 = cP N [a0]:=by (intros;rfl)) (hr:∀ R,rn R = iI rm R:=by (intro _;rfl)):∀ xs R,S6 st rn r xs R -> p { nx:=λ_=>iI rm R,rt:=R } (cP N xs):=λxs R h=>by
 match xs,h with
 | [a0],h =>
  subst e
  have h2:r { nx:=λ_=>rn R,rt:=R } (st a0):=h
  rw [hs,show (λ_:b6=>rn R) = λ_=>iI rm R from funext λ_=>hr R] at h2
  exact h2
abbrev xN (st:PV -> PV -> b6) (rn:(PV -> Prop) -> Prop) (r:bE):PN:=λxs R=>match xs with
 | [a0,a1]=>r { nx:=λ_=>rn R,rt:=R } (st a0 a1)
 | _=>False
theorem yF {N:List Str} {rm:Md} {st:PV -> PV -> b6} {rn:(PV -> Prop) -> Prop} {r p:bE} (e:r = p) (hs:∀ a0 a1,st a0 a1 = cP N [a0,a1]:=by (intros;rfl)) (hr:∀ R,rn R = iI rm R:=by (intro _;rfl)):∀ xs R,xN st rn r xs R -> p { nx:=λ_=>iI rm R,rt:=R } (cP N xs):=λxs R h=>by
 match xs,h with
 | [a0,a1],h =>
  subst e
  have h2:r { nx:=λ_=>rn R,rt:=R } (st a0 a1):=h
  rw [hs,show (λ_:b6=>rn R) = λ_=>iI rm R from funext λ_=>hr R] at h2
  exact h2
abbrev QU (st:PV -> PV -> PV -> b6) (rn:(PV -> Prop) -> Prop) (r:bE):PN:=λxs R=>match xs with
 | [a0,a1,a2]=>r { nx:=λ_=>rn R,rt:=R } (st a0 a1 a2)
 | _=>False
theorem S9 {N:List Str} {rm:Md} {st:PV -> PV -> PV -> b6} {rn:(PV -> Prop) -> Prop} {r p:bE} (e:r = p) (hs:∀ a0 a1 a2,st a0 a1 a2 = cP N [a0,a1,a2]:=by (intros;rfl)) (hr:∀ R,rn R = iI rm R:=by (intro _;rfl)):∀ xs R,QU st rn r xs R -> p { nx:=λ_=>iI rm R,rt:=R } (cP N xs):=λxs R h=>by
 match xs,h with
 | [a0,a1,a2],h =>
  subst e
  have h2:r { nx:=λ_=>rn R,rt:=R } (st a0 a1 a2):=h
  rw [hs,show (λ_:b6=>rn R) = λ_=>iI rm R from funext λ_=>hr R] at h2
  exact h2
abbrev a09 (st:PV -> PV -> PV -> PV -> b6) (rn:(PV -> Prop) -> Prop) (r:bE):PN:=λxs R=>match xs with
 | [a0,a1,a2,a3]=>r { nx:=λ_=>rn R,rt:=R } (st a0 a1 a2 a3)
 | _=>False
theorem a1B {N:List Str} {rm:Md} {st:PV -> PV -> PV -> PV -> b6} {rn:(PV -> Prop) -> Prop} {r p:bE} (e:r = p) (hs:∀ a0 a1 a2 a3,st a0 a1 a2 a3 = cP N [a0,a1,a2,a3]:=by (intros;rfl)) (hr:∀ R,rn R = iI rm R:=by (intro _;rfl)):∀ xs R,a09 st rn r xs R -> p { nx:=λ_=>iI rm R,rt:=R } (cP N xs):=λxs R h=>by
 match xs,h with
 | [a0,a1,a2,a3],h =>
  subst e
  have h2:r { nx:=λ_=>rn R,rt:=R } (st a0 a1 a2 a3):=h
  rw [hs,show (λ_:b6=>rn R) = λ_=>iI rm R from funext λ_=>hr R] at h2
  exact h2
abbrev kO (k:Nat) (x:Str) (ps:List Str) (ms:List Md) (rm:Md) (d:PN) (P:Program) (w:World) (K:PySem.W.Frag) (mg:Str -> Option Value) (base:Heap):Prop:=Cal P w K mg base k x ps (M9 K ms rm d)
structure SN (N ps:List Str) (st:Stmt):Prop where
 s:FnScope N ps (aA st)
 n:NVs N st
theorem bK {N P:List Str} {st:Stmt} (h1:(aA st).kind = .function:=by rfl) (h2:(aA st).isCoroutine = false:=by rfl) (h3:(aA st).isGenerator = false:=by rfl) (h4:N.take P.length = P:=by rfl)
  (h5:N.Nodup /\ (∀ x ∈ P,(aA st).names.lookup x = some .local \/ (aA st).names.lookup x = some .cell) /\ ∀ y ∈ (aA st).names,y.2 ≠ .free:=by decide +kernel)
  (h6:∀ x ∈ N,((aA st).names.lookup x = some NameKind.local \/ (aA st).names.lookup x = some NameKind.cell) /\ (x == ("__debug__" : Str)) = false /\ (x == ("__classdict__" : Str)) = false:=by decide +kernel):SN N P st:=⟨TB h1 h2 h3 h4 h5,⟨h6⟩⟩
def Md.lendb:Md -> Bool
 | .no=>false
 | .st=>false
 | .scr=>false
 | _=>true
def Md.peekb (el:El):Md -> Bool
 | .v e=>e.le el
 | .o e=>e.le el
 | .z e=>e.le el
 | .p e=>e.le el
 | .c e=>e.le el
 | _=>false
section
variable {X:Cx} {md:List Md} {e:Expr} {i:Nat}
theorem LV (h:QE X e (dU i)) (hm:(md.getD i .no).lendb = true):VE X md e .bw (pVar i):=by
 cases hmd:md.getD i .no with
 | o el=>exact d6 (m:=.p el) (xD h hmd) rfl
 | no=>rw [hmd] at hm;cases hm
 | st=>rw [hmd] at hm;cases hm
 | scr=>rw [hmd] at hm;cases hm
 | _=>exact d6 (aR h hmd rfl) rfl
theorem ZL (el:El) (h:QE X e (dU i)) (hm:(md.getD i .no).peekb el = true):VE X md e (.p el) (pVar i):=by
 cases hmd:md.getD i .no with
 | o k=>exact d6 (m:=.p k) (xD h hmd) (by rw [hmd] at hm;exact hm)
 | no=>rw [hmd] at hm;cases hm
 | st=>rw [hmd] at hm;cases hm
 | scr=>rw [hmd] at hm;cases hm
 | bw=>rw [hmd] at hm;cases hm
 | _=>exact d6 (aR h hmd rfl) (by rw [hmd] at hm;exact hm)
end
section
variable {P:Program} {w:World} {K:PySem.W.Frag} {mg:Str -> Option Value} {base:Heap} {N ps:List Str} {nm:Str} {st:Stmt} {f:Addr} {cdv:Value} {A:Around} {outer:List Env} {s:Shared} {H:Hp} {E:XK} {md lm:List Md} {m rm:Md} {el:El} {x:Str} {i:Nat} {pos pos':Pos} {a:Expr} {pe:aQ}
theorem vb (z:SN N ps st) (e:N[i]? = some x:=by rfl) (hm:(md.getD i .no).lendb = true:=by rfl):VE (cI iU P w K mg base N nm (aA st) f cdv A outer s H E).nox md (.Name x pos) .bw (pVar i):=LV (z.n.nv e).h hm
theorem vp (el:El) (z:SN N ps st) (e:N[i]? = some x:=by rfl) (hm:(md.getD i .no).peekb el = true:=by rfl):VE (cI iU P w K mg base N nm (aA st) f cdv A outer s H E).nox md (.Name x pos) (.p el) (pVar i):=ZL el (z.n.nv e).h hm
theorem vr (m:Md) (z:SN N ps st) (e:N[i]? = some x:=by rfl) (hm:md.getD i .no = m:=by rfl) (hl:m.own = false:=by rfl):VE (cI iU P w K mg base N nm (aA st) f cdv A outer s H E).nox md (.Name x pos) m (pVar i):=aR (z.n.nv e).h hm hl
theorem vk (el:El) (z:SN N ps st) (e:N[i]? = some x:=by rfl) (hm:md.getD i .no = .o el:=by rfl):VE (cI iU P w K mg base N nm (aA st) f cdv A outer s H E).nox md (.Name x pos) (.p el) (pVar i):=xD (z.n.nv e).h hm
theorem qn (z:SN N ps st) (e:N[i]? = some x:=by rfl):QE (cI iU P w K mg base N nm (aA st) f cdv A outer s H E).nox (.Name x pos) (dU i):=(z.n.nv e).h
theorem ln (z:SN N ps st) (i:Nat) (e:N[i]? = some x:=by rfl):EJ (aA st) x:=(z.n.nv (nm:=x) e).lo
theorem gn (i:Nat) (z:SN N ps st) (e:N[i]? = some x:=by rfl) (hm:fJ (md.set i (.v el)) = true:=by rfl) (hl:i < md.length:=by decide):VG (cI iU P w K mg base N nm (aA st) f cdv A outer s H E).nox md (md.set i (.v el)) el (.Name x pos) (pgName i):=QJ z.s.nd e (ln z i e) (.inl rfl) hm hl
theorem jC (i:Nat) (z:SN N ps st) (he:VE (cI iU P w K mg base N nm (aA st) f cdv A outer s H E).nox md a m pe) (e:N[i]? = some x:=by rfl) (hs:swapsWith a (some (.Name x pos')) pos.line (cI iU P w K mg base N nm (aA st) f cdv A outer s H E).nox.env = pure false:=by rfl) (hm:fJ (md.set i m) = true:=by rfl) (hl:i < md.length:=by decide):VS (cI iU P w K mg base N nm (aA st) f cdv A outer s H E).nox md (md.set i m) lm rm (.Assign [.Name x pos'] a pos) (pSet i pe):=WU z.s.nd e (ln z i e) hs (.inl rfl) he hm hl
theorem gD (h:(aA st).names.lookup x = some .globalImplicit:=by decide +kernel):(cI iU P w K mg base N nm (aA st) f cdv A outer s H E).nox.env.scope.names.lookup x = some .globalImplicit:=h
theorem cD (h:(aA st).names.lookup x = some .cell:=by decide +kernel):(cI iU P w K mg base N nm (aA st) f cdv A outer s H E).nox.env.scope.names.lookup x = some .cell:=h
end
section
variable {X:Cx} {N':List Str} {scope:Scope} {C:Addr} {s1:Shared} {H1:Hp} {fp:List Addr} {i:Nat} {x:Str} {pos:Pos} {md:List Md} {m:Md} {el:El}
theorem gL (h:scope.names.lookup x = some .globalImplicit:=by decide +kernel):(aM X N' scope C s1 H1 fp).env.scope.names.lookup x = some .globalImplicit:=YR h
theorem qo (hi:N'[i]? = some x:=by rfl) (h:scope.names.lookup x = some .local:=by decide +kernel) (hd:(x == ("__debug__" : Str)) = false:=by decide +kernel) (hcd:(x == ("__classdict__" : Str)) = false:=by decide +kernel):QE (aM X N' scope C s1 H1 fp) (.Name x pos) (dU i):=KM hi h hd hcd
theorem qk (ho:X.env.scope.names.lookup x = some .cell) (hi:N'[i]? = some x:=by rfl) (h:scope.names.lookup x = some .free:=by decide +kernel) (hk:X.env.scope.kind = .function:=by rfl) (hd:(x == ("__debug__" : Str)) = false:=by decide +kernel) (hcd:(x == ("__classdict__" : Str)) = false:=by decide +kernel):QE (aM X N' scope C s1 H1 fp) (.Name x pos) (dU i):=KH hi h hk ho hd hcd
theorem bo (hi:N'[i]? = some x:=by rfl) (h:scope.names.lookup x = some .local:=by decide +kernel) (hd:(x == ("__debug__" : Str)) = false:=by decide +kernel) (hcd:(x == ("__classdict__" : Str)) = false:=by decide +kernel) (hm:(md.getD i .no).lendb = true:=by rfl):VE (aM X N' scope C s1 H1 fp) md (.Name x pos) .bw (pVar i):=LV (KM hi h hd hcd) hm
theorem bk (ho:X.env.scope.names.lookup x = some .cell) (hi:N'[i]? = some x:=by rfl) (h:scope.names.lookup x = some .free:=by decide +kernel) (hk:X.env.scope.kind = .function:=by rfl) (hd:(x == ("__debug__" : Str)) = false:=by decide +kernel) (hcd:(x == ("__classdict__" : Str)) = false:=by decide +kernel) (hm:(md.getD i .no).lendb = true:=by rfl):VE (aM X N' scope C s1 H1 fp) md (.Name x pos) .bw (pVar i):=LV (KH hi h hk ho hd hcd) hm
theorem gq (i:Nat) (hN:N'.Nodup:=by decide +kernel) (hi:N'[i]? = some x:=by rfl) (h:scope.names.lookup x = some .local:=by decide +kernel) (hm:fJ (md.set i (.v el)) = true:=by rfl) (hl:i < md.length:=by decide):VG (aM X N' scope C s1 H1 fp) md (md.set i (.v el)) el (.Name x pos) (pgName i):=M4 (YS hN hi h) hm hl
end
section
variable {X:Cx} {md:List Md} {e:Expr} {es:List Expr} {pt:kP} {p pos:Pos} {k n:Nat} {x:Str} {ps:List Str} {ms:List Md} {m rm:Md} {pn:PN}
theorem dA (hr:Room n X.A) (C:Cal X.prog X.w X.K X.mg X.base k x ps (M9 X.K ms rm pn)) (ha:VA X md (e :: es) ms pt) (hg:X.env.scope.names.lookup x = some .globalImplicit) (hk:k <= n:=by decide) (hm:ms.all lB = true:=by rfl) (hrm:n5 rm = true:=by rfl)
  (hdb:(x == ("__debug__" : Str)) = false:=by decide +kernel) (he:starEach (e :: es) X.env = (false,eval e X.env) :: starEach es X.env:=by rfl) (hpl:(backTo pos (starEach es X.env)).any (·.1) = false:=by rfl):VE X md (.Call (.Name x p) (e :: es) [] pos) rm (pCl pn pt):=WO C (hr.mono hk) hm hrm ha hg hdb he hpl
end
section
variable {P:Program} {w:World} {K:PySem.W.Frag} {mg:Str -> Option Value} {base:Heap} {N ps:List Str} {nm:Str} {st:Stmt} {f:Addr} {cdv:Value} {A:Around} {outer:List Env} {s:Shared} {H:Hp} {E:XK} {md lm:List Md} {rm:Md} {el eli:El} {x:Str} {pos pos' pos2:Pos}
 {elt target iter:Expr} {ifs:List Expr} {scope:Scope} {si:lA} {g:gN} {tt:dX} {te:aQ} {cp:b6 -> b6}
theorem AI (N':List Str) (n:Nat) (cap:List Nat) (mb:List Md) (hi:VI (cI iU P w K mg base N nm (aA st) f cdv A outer s H E).nox md eli target iter si) (hg:∀ C s1 H1 fp,VG (aM (cI iU P w K mg base N nm (aA st) f cdv A outer s H E).nox N' scope C s1 H1 fp) (eQ n cap md) mb eli target g) (ht:∀ C s1 H1 fp,VTs (aM (cI iU P w K mg base N nm (aA st) f cdv A outer s H E).nox N' scope C s1 H1 fp) mb ifs tt) (he:∀ C s1 H1 fp,VE (aM (cI iU P w K mg base N nm (aA st) f cdv A outer s H E).nox N' scope C s1 H1 fp) mb elt (.v el) te)
  (hcp:∀ env,cp env = oC n cap env:=by intro _;rfl) (h1:scope.kind = .function:=by rfl) (h2:N'.length = n + cap.length:=by rfl)
  (h3:(∀ y ∈ scope.names,y.2 ≠ .cell) /\ (∀ y ∈ scope.names,y.2 = .local -> scope.names.lookup y.1 = some .local) /\ (∀ y ∈ scope.names,y.2 = .free -> (aA st).names.lookup y.1 = some .cell) /\ (N'.drop n = cap.map λi=>N.getD i Str.empty) /\ (∀ i ∈ cap,i < N.length) /\ ∀ x ∈ N'.drop n,scope.names.lookup x = some NameKind.free:=by decide +kernel)
  (hle:i4 mb (eQ n cap md) = true:=by rfl) (hbl:jG mb = true:=by rfl) (hs:∀ x,foldedSetIterable iter (cI iU P w K mg base N nm (aA st) f cdv A outer s H E).nox.env x = pure x:=by intro _;rfl) :
  VE (cI iU P w K mg base N nm (aA st) f cdv A outer s H E).nox md (.ListComp elt [⟨target,iter,ifs,0⟩] scope pos) (.o el) (pLc si g tt te cp):=ZJ hcp rfl (pT (osc:=aA st) h1 h2 h3) hle hbl hi hg ht he hs
theorem X0 (i:Nat) (z:SN N ps st) (N':List Str) (n:Nat) (cap:List Nat) (mb:List Md) (hi:VI (cI iU P w K mg base N nm (aA st) f cdv A outer s H E).nox md eli target iter si) (hg:∀ C s1 H1 fp,VG (aM (cI iU P w K mg base N nm (aA st) f cdv A outer s H E).nox N' scope C s1 H1 fp) (eQ n cap md) mb eli target g) (ht:∀ C s1 H1 fp,VTs (aM (cI iU P w K mg base N nm (aA st) f cdv A outer s H E).nox N' scope C s1 H1 fp) mb ifs tt) (he:∀ C s1 H1 fp,VE (aM (cI iU P w K mg base N nm (aA st) f cdv A outer s H E).nox N' scope C s1 H1 fp) mb elt (.v el) te)
  (e:N[i]? = some x:=by rfl) (hsw:swapsWith (.ListComp elt [⟨target,iter,ifs,0⟩] scope pos) (some (.Name x pos')) pos2.line (cI iU P w K mg base N nm (aA st) f cdv A outer s H E).nox.env = pure true:=by rfl) (hm:fJ (md.set i (.o el)) = true:=by rfl) (hl:i < md.length:=by decide)
  (hcp:∀ env,cp env = oC n cap env:=by intro _;rfl) (h1:scope.kind = .function:=by rfl) (h2:N'.length = n + cap.length:=by rfl)
  (h3:(∀ y ∈ scope.names,y.2 ≠ .cell) /\ (∀ y ∈ scope.names,y.2 = .local -> scope.names.lookup y.1 = some .local) /\ (∀ y ∈ scope.names,y.2 = .free -> (aA st).names.lookup y.1 = some .cell) /\ (N'.drop n = cap.map λi=>N.getD i Str.empty) /\ (∀ i ∈ cap,i < N.length) /\ ∀ x ∈ N'.drop n,scope.names.lookup x = some NameKind.free:=by decide +kernel)
  (hle:i4 mb (eQ n cap md) = true:=by rfl) (hbl:jG mb = true:=by rfl) (hs:∀ x,foldedSetIterable iter (cI iU P w K mg base N nm (aA st) f cdv A outer s H E).nox.env x = pure x:=by intro _;rfl) :
  VS (cI iU P w K mg base N nm (aA st) f cdv A outer s H E).nox md (md.set i (.o el)) lm rm (.Assign [.Name x pos'] (.ListComp elt [⟨target,iter,ifs,0⟩] scope pos) pos2) (pSet i (pLc si g tt te cp)):=M8 z.s.nd e (ln z i e) hsw (.inl rfl) hm hl hcp rfl (pT (osc:=aA st) h1 h2 h3) hle hbl hi hg ht he hs
end
section
variable {P:Program} {w:World} {K:PySem.W.Frag} {mg:Str -> Option Value} {base:Heap} {x:Str} {st:Stmt} {N:List Str} {k:Nat} {ms mn:List Md} {rm:Md} {p:bE} {d:PN} {y1 y2 y3 y4 y5 y6:Str}
theorem X1 (hd:∀ xs R,d xs R -> p { nx:=λ_=>iI rm R,rt:=R } (cP N xs)) (D:Df K mg x st) (z:SN N [y1] st) (hbody:∀ (f:Addr) (cdv:Value) (A:Around) (outer:List Env) (s:Shared) (H:Hp) (E:XK),Room k (A.deeper (envOfC x (aA st) s.heap.objs.size f cdv)) -> VSs (cI iU P w K mg base N x (aA st) f cdv A outer s H E).nox (f9 N ms) mn [] rm (bI st) p)
  (hb:∀ (kV doc pm:Value) (an:Option Addr) (cdv ct:Value) (u1:Value),bindArgs (PySem.W.fnOf x x (cK st) (bI st) (aA st) .none kV doc pm an cdv ct) ⟨[u1],[]⟩ = pure (([y1]:List Str).zip [u1]):=by (intros;rfl)) (hm:ms.all lB = true:=by rfl) (hr:n5 rm = true:=by rfl) (hl:ms.length = 1:=by rfl):Cal P w K mg base (k + 1) x [y1] (M9 K ms rm d) :=
 QH hd D z.s (λkV doc pm an cdv ct us hl=>a0L hl (hb kV doc pm an cdv ct)) hm hr hl hbody
theorem A7 (hd:∀ xs R,d xs R -> p { nx:=λ_=>iI rm R,rt:=R } (cP N xs)) (D:Df K mg x st) (z:SN N [y1,y2] st) (hbody:∀ (f:Addr) (cdv:Value) (A:Around) (outer:List Env) (s:Shared) (H:Hp) (E:XK),Room k (A.deeper (envOfC x (aA st) s.heap.objs.size f cdv)) -> VSs (cI iU P w K mg base N x (aA st) f cdv A outer s H E).nox (f9 N ms) mn [] rm (bI st) p)
  (hb:∀ (kV doc pm:Value) (an:Option Addr) (cdv ct:Value) (u1 u2:Value),bindArgs (PySem.W.fnOf x x (cK st) (bI st) (aA st) .none kV doc pm an cdv ct) ⟨[u1,u2],[]⟩ = pure (([y1,y2]:List Str).zip [u1,u2]):=by (intros;rfl)) (hm:ms.all lB = true:=by rfl) (hr:n5 rm = true:=by rfl) (hl:ms.length = 2:=by rfl):Cal P w K mg base (k + 1) x [y1,y2] (M9 K ms rm d) :=
 QH hd D z.s (λkV doc pm an cdv ct us hl=>UA hl (hb kV doc pm an cdv ct)) hm hr hl hbody
theorem WN (hd:∀ xs R,d xs R -> p { nx:=λ_=>iI rm R,rt:=R } (cP N xs)) (D:Df K mg x st) (z:SN N [y1,y2,y3] st) (hbody:∀ (f:Addr) (cdv:Value) (A:Around) (outer:List Env) (s:Shared) (H:Hp) (E:XK),Room k (A.deeper (envOfC x (aA st) s.heap.objs.size f cdv)) -> VSs (cI iU P w K mg base N x (aA st) f cdv A outer s H E).nox (f9 N ms) mn [] rm (bI st) p)
  (hb:∀ (kV doc pm:Value) (an:Option Addr) (cdv ct:Value) (u1 u2 u3:Value),bindArgs (PySem.W.fnOf x x (cK st) (bI st) (aA st) .none kV doc pm an cdv ct) ⟨[u1,u2,u3],[]⟩ = pure (([y1,y2,y3]:List Str).zip [u1,u2,u3]):=by (intros;rfl)) (hm:ms.all lB = true:=by rfl) (hr:n5 rm = true:=by rfl) (hl:ms.length = 3:=by rfl):Cal P w K mg base (k + 1) x [y1,y2,y3] (M9 K ms rm d) :=
 QH hd D z.s (λkV doc pm an cdv ct us hl=>a0M hl (hb kV doc pm an cdv ct)) hm hr hl hbody
theorem a1L (hd:∀ xs R,d xs R -> p { nx:=λ_=>iI rm R,rt:=R } (cP N xs)) (D:Df K mg x st) (z:SN N [y1,y2,y3,y4] st) (hbody:∀ (f:Addr) (cdv:Value) (A:Around) (outer:List Env) (s:Shared) (H:Hp) (E:XK),Room k (A.deeper (envOfC x (aA st) s.heap.objs.size f cdv)) -> VSs (cI iU P w K mg base N x (aA st) f cdv A outer s H E).nox (f9 N ms) mn [] rm (bI st) p)
  (hb:∀ (kV doc pm:Value) (an:Option Addr) (cdv ct:Value) (u1 u2 u3 u4:Value),bindArgs (PySem.W.fnOf x x (cK st) (bI st) (aA st) .none kV doc pm an cdv ct) ⟨[u1,u2,u3,u4],[]⟩ = pure (([y1,y2,y3,y4]:List Str).zip [u1,u2,u3,u4]):=by (intros;rfl)) (hm:ms.all lB = true:=by rfl) (hr:n5 rm = true:=by rfl) (hl:ms.length = 4:=by rfl):Cal P w K mg base (k + 1) x [y1,y2,y3,y4] (M9 K ms rm d) :=
 QH hd D z.s (λkV doc pm an cdv ct us hl=>a0N hl (hb kV doc pm an cdv ct)) hm hr hl hbody
end
end L2
set_option maxHeartbeats 4000000
local macro_rules | `(tactic| walk_at "rp") => `(tactic| ((conv => rhs; simp only [← L2.a0A, ← L2.T6, ← L2.XN, ← L2.XQ, ← L2.SR, ← L2.N7, ← L2.XH, ← L2.XG, ← L2.SA, ← L2.XO, ← L2.SS, ← L2.IL, ← L2.NA, ← L2.IN, ← L2.SM, ← L2.T5, ← L2.a0B, ← L2.XJ, ← L2.a0C, ← L2.N6, ← L2.SJ, ← L2.NH, ← L2.FH, ← L2.NI, ← L2.T3, ← L2.T4, ← L2.IS, ← L2.SD, ← L2.SX, ← L2.SL, ← L2.FG, ← L2.NC, ← L2.ND, ← L2.NB, ← L2.NG, ← L2.T1, ← L2.SI, ← L2.SY, ← L2.T2, ← L2.IU, ← L2.NN, ← L2.IT, ← L2.NO, ← L2.SC, ← L2.NP, ← L2.NQ, ← L2.IW, ← L2.SG, ← L2.XS, ← L2.IQ, ← L2.B9, ← L2.SW, ← L2.XM, ← L2.NM, ← L2.SF, ← L2.SQ, ← L2.N5, ← L2.NL, ← L2.NE, ← L2.NJ, ← L2.SO, ← L2.SK, ← L2.SH, ← L2.NF, ← L2.IP, ← L2.IM, ← L2.N9, ← L2.FI, ← L2.IV, ← L2.SV, ← L2.SZ, ← L2.N8, ← L2.NR, ← L2.SU, ← L2.IR, ← L2.NK, ← L2.XI, ← L2.B8, ← L2.XR, ← L2.XF, ← L2.SE]); try rfl))
namespace Lib
open PySem L2
abbrev aZ:PN:=DO
def rH:bE:=(pRet (pCl zD (pCons (pLc (piLst (pVar 1)) (pgName 0) pTrue (pOp dM (pOp dM (pVar 1) (pVar 0)) (pC (.int 3))) (λenv=>[none,jn (l8 env 0)])) pNil)))
abbrev rW:{r:bE // r = rH}:=⟨_,by unfold rH;walk_at "rp"⟩
def eN:PN:=xN (λa0 a1=>[some a0,some a1]) (λR=>R .non) rW.1
def zF : bE := (pSeq (pSet 2 (pC (.str "abcdefghijklmnopqrstuvwxyz")))
 (pSeq (pSet 3 (pC (.str "")))
 (pSeq (pFor (piRng1 (pCl aZ (pCons (pVar 0) (pCons (pC (.int 8)) pNil)))) (pgName 4) (pSeq (pSet 3 (pOp pAddS (pVar 3) (pOp dM (pVar 2) (pCl aZ (pCons (pVar 0) (pCons (pC (.int 26)) pNil))))))
 pNext))
 (pRet (pOp pAddS (pVar 3) (pOp dM (pVar 2) (pVar 1)))))))
abbrev zJ:{r:bE // r = zF}:=⟨_,by unfold zF;walk_at "rp"⟩
def iC:PN:=xN (λa0 a1=>[some a0,some a1,none,none,none]) (λR=>R .non) zJ.1
def zE : bE := (pSeq (pSet 2 (pOp dM (pLst (pCons (pC (.int 3)) (pCons (pC (.int 6)) (pCons (pC (.int 9)) (pCons (pC (.int 14)) pNil))))) (pCl aZ (pCons (pVar 0) (pCons (pC (.int 4)) pNil)))))
 (pSeq (pSet 3 (pOp pAddI (pC (.int 1)) (pCl aZ (pCons (pVar 0) (pCons (pOp dM (pLst (pCons (pC (.int 1)) (pCons (pC (.int 1)) (pCons (pC (.int 7)) (pCons (pOp pPowI (pC (.int 10)) (pC (.int 10))) pNil))))) (pCl aZ (pCons (pVar 0) (pCons (pC (.int 4)) pNil)))) pNil)))))
 (pSeq (pSet 4 (pOp dM (pLst (pCons (pC (.int 0)) (pCons (pUn pNegI (pC (.int 3))) (pCons (pUn pNegI (pOp pPowI (pC (.int 10)) (pC (.int 12)))) (pCons (pOp pSubI (pOp pPowI (pC (.int 10)) (pC (.int 12))) (pOp pMulI (pC (.int 28)) (pVar 3))) pNil))))) (pCl aZ (pCons (pVar 0) (pCons (pC (.int 4)) pNil)))))
 (pSeq (pSet 5 (pLst pNil))
 (pSeq (pFor (piRng1 (pCl aZ (pCons (pVar 0) (pCons (pOp pAddI (pVar 1) (pC (.int 1))) pNil)))) (pgName 6) (pSeq (pSet 7 (pCl aZ (pCons (pVar 0) (pCons (pVar 2) pNil))))
 (pSeq (pSet 8 (pOp pAddI (pOp pAddI (pVar 7) (pC (.int 1))) (pCl aZ (pCons (pVar 0) (pCons (pVar 2) pNil)))))
 (pSeq (pSet 9 (pCl aZ (pCons (pVar 0) (pCons (pOp dM (pLst (pCons (pC (.int 4)) (pCons (pC (.int 12)) (pCons (pC (.int 100)) (pCons (pOp pAddI (pOp pPowI (pC (.int 10)) (pC (.int 12))) (pC (.int 1))) pNil))))) (pCl aZ (pCons (pVar 0) (pCons (pC (.int 4)) pNil)))) pNil))))
 (pSeq (pSet 10 (pTup (pCons (pOp pAddI (pVar 4) (pOp pMulI (pVar 3) (pVar 7))) (pCons (pOp pAddI (pVar 4) (pOp pMulI (pVar 3) (pVar 8))) pNil))))
 (pSeq (pIfS (pAnd (pBo (pOp pGtI (pVar 6) (pC (.int 0)))) (pBo (pOp pEqI (pCl aZ (pCons (pVar 0) (pCons (pC (.int 6)) pNil))) (pC (.int 0))))) (pSeq (pSet 10 (pSlice pSlT (pOp dM (pVar 5) (pUn pNegI (pC (.int 1)))) (pPart (pC (.int 1))) (pPart (pC (.int 3)))))
 pNext) pNext)
 (pSeq (pMethT "list" 5 pmAppend (pCons (pTup (pCons (pCl iC (pCons (pVar 0) (pCons (pVar 6) pNil))) (pCons (pOp dM (pVar 10) (pC (.int 0))) (pCons (pOp dM (pVar 10) (pC (.int 1))) (pCons (pVar 9) pNil))))) pNil))
 pNext)))))))
 (pRet (pVar 5)))))))
abbrev zI:{r:bE // r = zE}:=⟨_,by unfold zE;walk_at "rp"⟩
def iB:PN:=xN (λa0 a1=>[some a0,some a1,none,none,none,none,none,none,none,none,none]) (λ_=>False) zI.1
def uD:bE:=(pRet (pChain pLeI pLtI (pOp dM (pVar 0) (pC (.int 1))) (pVar 1) (pOp dM (pVar 0) (pC (.int 2)))))
abbrev uR:{r:bE // r = uD}:=⟨_,by unfold uD;walk_at "rp"⟩
def dE:PN:=xN (λa0 a1=>[some a0,some a1]) (λR=>R .non) uR.1
def uJ:bE:=(pRet (pCl pLen (pCons (pLc (piLst (pVar 1)) (pgName 0) (pBo (pCl dE (pCons (pOp dM (pVar 2) (pVar 0)) (pCons (pVar 1) pNil)))) (pVar 0) (λenv=>[none,jn (l8 env 2),jn (l8 env 0)])) pNil)))
abbrev uX:{r:bE // r = uJ}:=⟨_,by unfold uJ;walk_at "rp"⟩
def eJ:PN:=QU (λa0 a1 a2=>[some a0,some a1,some a2]) (λR=>R .non) uX.1
def mU:bE:=(pRet (pSortSc (piLst (pVar 0)) (pgName 0) pTrue (pEmIn (piTup (pSlice pSlT (pVar 0) (pPart (pC (.int 1))) (pPart (pC (.int 3))))) (pgName 1) pTrue (pEmAdd (pVar 1))) (λenv=>[none,none])))
abbrev mZ:{r:bE // r = mU}:=⟨_,by unfold mU;walk_at "rp"⟩
def cC:PN:=S6 (λa0=>[some a0]) (λ_=>False) mZ.1
def rE : bE := (pSeq (pSet 2 (pLst pNil))
 (pSeq (pSet 3 (pC (.int 0)))
 (pSeq (pFor (piLst (pCl cC (pCons (pLc (piLst (pVar 1)) (pgName 0) pTrue (pOp dM (pVar 1) (pVar 0)) (λenv=>[none,jn (l8 env 0)])) pNil))) (pgName 4) (pSeq (pSet 5 (pCl eJ (pCons (pVar 0) (pCons (pVar 1) (pCons (pVar 4) pNil)))))
 (pSeq (pIfS (pBo (pOp pNeI (pVar 5) (pVar 3))) (pSeq (pMethT "list" 2 pmAppend (pCons (pTup (pCons (pVar 4) (pCons (pVar 5) pNil))) pNil))
 pNext) pNext)
 (pSeq (pSet 3 (pVar 5))
 pNext))))
 (pRet (pVar 2)))))
abbrev rS:{r:bE // r = rE}:=⟨_,by unfold rE;walk_at "rp"⟩
def eK:PN:=xN (λa0 a1=>[some a0,some a1,none,none,none,none]) (λ_=>False) rS.1
def rC : bE := (pSeq (pAsg (pTup (pCons (pC (.int 0)) (pCons (pC .non) pNil))) (pgTup 2 (pgCons (pgName 2) (pgCons (pgName 3) pgNil))))
 (pSeq (pFor (piLst (pCl eK (pCons (pVar 0) (pCons (pVar 1) pNil)))) (pgTup 2 (pgCons (pgName 4) (pgCons (pgName 5) pgNil))) (pSeq (pIfS (pBo (pOp pGtI (pVar 5) (pVar 2))) (pSeq (pAsg (pTup (pCons (pVar 5) (pCons (pVar 4) pNil))) (pgTup 2 (pgCons (pgName 2) (pgCons (pgName 3) pgNil))))
 pNext) pNext)
 pNext))
 (pRet (pTup (pCons (pVar 2) (pCons (pVar 3) (pCons (pFlatL (pLc (piLst (pVar 1)) (pgName 0) (pBo (pCl dE (pCons (pOp dM (pVar 2) (pVar 0)) (pCons (pVar 1) pNil)))) (pVar 0) (λenv=>[none,jn (l8 env 3),jn (l8 env 0)]))) pNil)))))))
abbrev rQ:{r:bE // r = rC}:=⟨_,by unfold rC;walk_at "rp"⟩
def eI:PN:=xN (λa0 a1=>[some a0,some a1,none,none,none,none]) (λR=>R .non) rQ.1
def uM:bE:=(pRet (pCl zD (pCons (pLc (piLst (pVar 1)) (pgTup 2 (pgCons (pgName 0) (pgCons (pgName 1) pgNil))) (pBo (pCl dE (pCons (pVar 2) (pCons (pVar 0) pNil)))) (pVar 1) (λenv=>[none,none,jn (l8 env 0)])) pNil)))
abbrev v5:{r:bE // r = uM}:=⟨_,by unfold uM;walk_at "rp"⟩
def dJ:PN:=xN (λa0 a1=>[some a0,some a1]) (λR=>R .non) v5.1
def uH : bE := (pSeq (pSet 2 (pLst (pCons (pC (.int 0)) (pCons (pC (.int 1)) (pCons (pUn pNegI (pOp pPowI (pC (.int 10)) (pC (.int 12)))) (pCons (pOp pSubI (pOp pPowI (pC (.int 10)) (pC (.int 12))) (pC (.int 1))) pNil))))))
 (pSeq (pFor (piLst (pVar 1)) (pgTup 4 (pgCons (pgName 3) (pgCons (pgName 4) (pgCons (pgName 5) (pgCons (pgName 6) pgNil))))) (pSeq (pSet 2 (pOp pCat (pVar 2) (pLst (pCons (pVar 4) (pCons (pOp pSubI (pVar 5) (pC (.int 1))) pNil)))))
 pNext))
 (pSeq (pSet 7 (pC (.dic [] [])))
 (pSeq (pFor (piRng1 (pCl aZ (pCons (pVar 0) (pCons (pC (.int 6)) pNil)))) (pgName 8) (pSeq (pSet 9 (pOp dM (pVar 2) (pCl aZ (pCons (pVar 0) (pCons (pCl pLen (pCons (pVar 2) pNil)) pNil)))))
 (pSeq (pDPut 7 (pOp pAddI (pC (.int 1)) (pCl aZ (pCons (pVar 0) (pCons (pOp dM (pLst (pCons (pC (.int 3)) (pCons (pC (.int 10)) (pCons (pC (.int 60)) (pCons (pOp pPowI (pC (.int 10)) (pC (.int 12))) pNil))))) (pCl aZ (pCons (pVar 0) (pCons (pC (.int 4)) pNil)))) pNil)))) (pVar 9))
 pNext)))
 (pRet (pLc (piLst (pCl gF (pCons (pVar 7) pNil))) (pgName 0) pTrue (pTup (pCons (pVar 0) (pCons (pOp d5 (pVar 1) (pVar 0)) pNil))) (λenv=>[none,jn (l8 env 7)])))))))
abbrev uV:{r:bE // r = uH}:=⟨_,by unfold uH;walk_at "rp"⟩
def fQ:PN:=xN (λa0 a1=>[some a0,some a1,none,none,none,none,none,none,none,none]) (λ_=>False) uV.1
def uL:bE:=(pRet (pCl pMax2 (pCons (pC (.int 0)) (pCons (pOp pSubI (pOp dM (pVar 0) (pC (.int 3))) (pCl dJ (pCons (pVar 0) (pCons (pVar 1) pNil)))) pNil))))
abbrev uZ:{r:bE // r = uL}:=⟨_,by unfold uL;walk_at "rp"⟩
def dI:PN:=xN (λa0 a1=>[some a0,some a1]) (λR=>R .non) uZ.1
def rF:bE:=(pRet (pCl zD (pCons (pLc (piLst (pVar 0)) (pgName 0) pTrue (pCl dI (pCons (pVar 0) (pCons (pVar 1) pNil))) (λenv=>[none,jn (l8 env 1)])) pNil)))
abbrev rT:{r:bE // r = rF}:=⟨_,by unfold rF;walk_at "rp"⟩
def eL:PN:=xN (λa0 a1=>[some a0,some a1]) (λR=>R .non) rT.1
def p4:bE:=(pRet (pCl zD (pCons (pLc (piLst (pVar 0)) (pgTup 2 (pgCons (pgName 0) (pgCons (pgName 1) pgNil))) pTrue (pVar 1) (λenv=>[none,none])) pNil)))
abbrev p7:{r:bE // r = p4}:=⟨_,by unfold p4;walk_at "rp"⟩
def dH:PN:=S6 (λa0=>[some a0]) (λR=>R .non) p7.1
def DP:bE:=(pRet (pOp pAddI (pOp pMulI (pCl dH (pCons (pVar 2) pNil)) (pVar 1)) (pCl eL (pCons (pVar 0) (pCons (pVar 2) pNil)))))
abbrev DY:{r:bE // r = DP}:=⟨_,by unfold DP;walk_at "rp"⟩
def fH:PN:=QU (λa0 a1 a2=>[some a0,some a1,some a2]) (λR=>R .non) DY.1
def mT : bE := (pSeq (pSet 1 (pLc (piRng1 (pCl pLen (pCons (pVar 0) pNil))) (pgName 0) pTrue (pTup (pCons (pVar 0) (pCons (pOp pAddI (pVar 0) (pC (.int 1))) (pCons (pC (.int 0)) (pCons (pC .non) pNil))))) (fun env => [none])))
 (pSeq (pSet 2 (pLc (piEnum (pVar 0)) (pgTup 2 (pgCons (pgName 0) (pgCons (pgName 1) pgNil))) (pBo (pOp pGtI (pVar 1) (pC (.int 0)))) (pTup (pCons (pOp pAddI (pVar 0) (pC (.int 1))) (pCons (pVar 0) (pCons (pC (.int 0)) (pCons (pC .non) pNil))))) (λenv=>[none,none])))
 (pRet (pFlatL (pOp pCat (pVar 1) (pRev (pVar 2) (pUn pNegI (pC (.int 1)))))))))
abbrev mY:{r:bE // r = mT}:=⟨_,by unfold mT;walk_at "rp"⟩
def cW:PN:=S6 (λa0=>[some a0,none,none]) (λ_=>False) mY.1
def jM : bE := (pSeq (pSet 3 (pDc (piEnum (pVar 1)) (pgTup 2 (pgCons (pgName 0) (pgCons (pgName 1) pgNil))) pTrue (pVar 1) (pFlat (pVar 0)) (fun env => [none, none])))
 (pSeq (pSet 4 (pLst pNil))
 (pSeq (pFor (piEnum (pVar 0)) (pgTup 2 (pgCons (pgName 5) (pgCons (pgTup 4 (pgCons (pgName 6) (pgCons (pgName 7) (pgCons (pgName 8) (pgCons (pgName 9) pgNil))))) pgNil))) (pSeq (pIfS (pBo (pOp a1E (pVar 5) (pVar 2))) (pSeq (pMethT "list" 4 pmAppend (pCons (pFlat (pTup (pCons (pOp d5 (pVar 3) (pVar 8)) (pCons (pOp d5 (pVar 3) (pVar 7)) (pCons (pUn pNegI (pVar 9)) (pCons (pVar 5) pNil)))))) pNil))
 pNext) (pSeq (pMethT "list" 4 pmAppend (pCons (pFlat (pTup (pCons (pOp d5 (pVar 3) (pVar 7)) (pCons (pOp d5 (pVar 3) (pVar 8)) (pCons (pVar 9) (pCons (pVar 5) pNil)))))) pNil))
 pNext))
 pNext))
 (pRet (pVar 4)))))
abbrev jP:{r:bE // r = jM}:=⟨_,by unfold jM;walk_at "rp"⟩
def bV:PN:=QU (λa0 a1 a2=>[some a0,some a1,some a2,none,none,none,none,none,none,none]) (λ_=>False) jP.1
def iF : bE := (pSeq (pPar 3 4 (pCons (pOp pRep (pLst (pCons (pC .non) pNil)) (pVar 1)) (pCons (pOp pRep (pLst (pCons (pC .non) pNil)) (pVar 1)) pNil)))
 (pSeq (pPut 3 (pC (.int 0)) (pVar 2))
 (pSeq (pSet 5 (pC (.bl true)))
 (pSeq (C1 (pBo (pVar 5)) (pSeq (pSet 5 (pC (.bl false)))
 (pSeq (pFor (piLst (pVar 0)) (pgName 6) (pSeq (pAsg (pVar 6) (pgTup 4 (pgCons (pgName 7) (pgCons (pgName 8) (pgCons (pgName 9) (pgCons (pgName 10) pgNil))))))
 (pSeq (pIfS (pAnd (pBo (pOp pNotN (pOp dM (pVar 3) (pVar 7)) (pC .non))) (pOr (pBo (pOp pIsN (pOp dM (pVar 3) (pVar 8)) (pC .non))) (pBo (pOp pGtI (pOp pAddI (pOp dM (pVar 3) (pVar 7)) (pVar 9)) (pOp dM (pVar 3) (pVar 8)))))) (pSeq (pPut2 3 4 (pFlat (pTup (pCons (pOp pAddI (pOp dM (pVar 3) (pVar 7)) (pVar 9)) (pCons (pVar 6) pNil)))) (pVar 8) (pVar 8))
 (pSeq (pSet 5 (pC (.bl true)))
 pNext)) pNext)
 pNext)))
 pNext)))
 (pRet (pTup (pCons (pVar 3) (pCons (pVar 4) pNil))))))))
abbrev iH:{r:bE // r = iF}:=⟨_,by unfold iF;walk_at "rp"⟩
def bO:PN:=QU (λa0 a1 a2=>[some a0,some a1,some a2,none,none,none,none,none,none,none,none]) (λR=>R .non) iH.1
def jL : bE := (pSeq (pSet 2 (pLst pNil))
 (pSeq (C1 (pBo (pOp pNotN (pOp dM (pVar 0) (pVar 1)) (pC .non))) (pSeq (pAsg (pOp dM (pVar 0) (pVar 1)) (pgTup 4 (pgCons (pgName 1) (pgCons (pgName 3) (pgCons (pgName 4) (pgCons (pgName 5) pgNil))))))
 (pSeq (pIfS (pBo (pOp pNotN (pVar 5) (pC .non))) (pSeq (pMethT "list" 2 pmAppend (pCons (pFlat (pVar 5)) pNil))
 pNext) pNext)
 pNext)))
 (pRet (pVar 2))))
abbrev jO:{r:bE // r = jL}:=⟨_,by unfold jL;walk_at "rp"⟩
def bU:PN:=xN (λa0 a1=>[some a0,some a1,none,none,none,none]) (λ_=>False) jO.1
def mS:bE:=(pRet (pSortXor (pVar 0) (pVar 1)))
abbrev mX:{r:bE // r = mS}:=⟨_,by unfold mS;walk_at "rp"⟩
def cV:PN:=xN (λa0 a1=>[some a0,some a1]) (λ_=>False) mX.1
def p3 : bE := (pSeq (pSet 2 (pLc (piRng1 (pCl pLen (pCons (pVar 1) pNil))) (pgName 0) pTrue (pOp pSubI (pOp dM (pVar 1) (pOp pAddI (pVar 0) (pC (.int 1)))) (pOp dM (pVar 1) (pVar 0))) (fun env => [none, jn (l8 env 0)])))
 (pRet (pFlatL (pLc (piZip (pVar 1) (pVar 2)) (pgTup 2 (pgCons (pgName 0) (pgCons (pgName 1) pgNil))) (pBo (pOp pGtI (pVar 1) (pC (.int 0)))) (pTup (pCons (pVar 0) (pCons (pVar 1) pNil))) (λenv=>[none,none])))))
abbrev p6:{r:bE // r = p3}:=⟨_,by unfold p3;walk_at "rp"⟩
def dG:PN:=xN (λa0 a1=>[some a0,some a1,none]) (λ_=>False) p6.1
def oZ:bE:=(pRet (pOrL (pCl cC (pCons (pVar 0) pNil)) (pLst (pCons (pC (.int 0)) pNil))))
abbrev p5:{r:bE // r = oZ}:=⟨_,by unfold oZ;walk_at "rp"⟩
def dF:PN:=S6 (λa0=>[some a0]) (λ_=>False) p5.1
def rG : bE := (pSeq (pSet 4 (pLc (piZip (pVar 2) (pVar 1)) (pgTup 2 (pgCons (pgName 0) (pgCons (pgName 1) pgNil))) pTrue (pOp pSubI (pVar 0) (pCl eJ (pCons (pVar 2) (pCons (pVar 3) (pCons (pVar 1) pNil))))) (fun env => [none, none, jn (l8 env 0), jn (l8 env 3)])))
 (pRet (pOp pCat (pCl cW (pCons (pVar 4) pNil)) (pCl bV (pCons (pVar 0) (pCons (pVar 1) (pCons (pVar 3) pNil)))))))
abbrev rV:{r:bE // r = rG}:=⟨_,by unfold rG;walk_at "rp"⟩
def eM:PN:=a09 (λa0 a1 a2 a3=>[some a0,some a1,some a2,some a3,none]) (λ_=>False) rV.1
def mR : bE := (pSeq (pSet 2 (pCl dF (pCons (pVar 0) pNil)))
 (pSeq (pPar 3 4 (pCons (pLst pNil) (pCons (pLst pNil) pNil)))
 (pSeq (pFor (piRng1 (pOp pAddI (pVar 1) (pC (.int 1)))) (pgName 5) (pSeq (pSet 6 (pCl eM (pCons (pVar 0) (pCons (pVar 2) (pCons (pOp pRep (pLst (pCons (pVar 5) pNil)) (pOp pSubI (pCl pLen (pCons (pVar 2) pNil)) (pC (.int 1)))) (pCons (pVar 3) pNil))))))
 (pSeq (pAsg (pCl bO (pCons (pVar 6) (pCons (pCl pLen (pCons (pVar 2) pNil)) (pCons (pC (.int 0)) pNil)))) (pgTup 2 (pgCons (pgName 7) (pgCons (pgName 8) pgNil))))
 (pSeq (pMethT "list" 4 pmAppend (pCons (pTup (pCons (pVar 3) (pCons (pCl dG (pCons (pVar 7) (pCons (pSlice pSlL (pVar 2) pNoPart (pPart (pUn pNegI (pC (.int 1))))) pNil))) pNil))) pNil))
 (pSeq (pSet 3 (pCl cV (pCons (pVar 3) (pCons (pCl bU (pCons (pVar 8) (pCons (pOp pSubI (pCl pLen (pCons (pVar 2) pNil)) (pC (.int 1))) pNil))) pNil))))
 pNext)))))
 (pRet (pVar 4)))))
abbrev mW:{r:bE // r = mR}:=⟨_,by unfold mR;walk_at "rp"⟩
def cU:PN:=xN (λa0 a1=>[some a0,some a1,none,none,none,none,none,none,none]) (λ_=>False) mW.1
def jK:bE:=(pRet (pOp dM (pCl eI (pCons (pVar 0) (pCons (pListR (pCl pLen (pCons (pVar 0) pNil))) pNil))) (pC (.int 0))))
abbrev jN:{r:bE // r = jK}:=⟨_,by unfold jK;walk_at "rp"⟩
def bT:PN:=S6 (λa0=>[some a0]) (λR=>R .non) jN.1
def rB:bE:=(pRet (pOp dM (pCl cU (pCons (pVar 0) (pCons (pCl pMin2 (pCons (pVar 1) (pCons (pCl bT (pCons (pVar 0) pNil)) pNil))) pNil))) (pUn pNegI (pC (.int 1)))))
abbrev rP:{r:bE // r = rB}:=⟨_,by unfold rB;walk_at "rp"⟩
def eG:PN:=xN (λa0 a1=>[some a0,some a1]) (λR=>R .non) rP.1
def uK : bE := (pSeq (pAsg (pCl eG (pCons (pVar 0) (pCons (pVar 1) pNil))) (pgTup 2 (pgCons (pgName 2) (pgCons (pgName 3) pgNil))))
 (pRet (pTup (pCons (pCl eN (pCons (pVar 0) (pCons (pVar 2) pNil))) (pCons (pVar 2) (pCons (pVar 3) pNil))))))
abbrev uY:{r:bE // r = uK}:=⟨_,by unfold uK;walk_at "rp"⟩
def fR:PN:=xN (λa0 a1=>[some a0,some a1,none,none]) (λR=>R .non) uY.1
end Lib
local macro_rules | `(tactic| walk_at "w") => `(tactic| with_reducible (conv => whnf))
namespace L2
open PySem
theorem cL {g:gN} {b:bE} {E:PEnds}:∀ {items:List PV} {env:b6} (I:Nat -> b6 -> Prop),I 0 env ->
  (∀ (i:Nat) (x:PV) (env:b6) (N:b6 -> Prop),items[i]? = some x -> I i env -> (∀ env',I (i + 1) env' -> N env') -> g x env λenv1=>b { E with nx:=N,ct:=N,bk:=E.nx } env1) ->
  (∀ env,I items.length env -> E.nx env) -> mQ g b E items env
 | [],env,I,h0,hs,hd=>hd env h0
 | x :: xs,env,I,h0,hs,hd=>by
  rw [mQ]
  refine hs 0 x env _ rfl h0 λenv' h=>?_
  exact cL (λi=>I (i + 1)) h (λi y e N hy=>hs (i + 1) y e N (by simpa using hy)) λe h=>hd e (by simpa using h)
theorem vW {g:gN} {b:bE} {E:PEnds} {items:List PV} {env:b6} (J:b6 -> Prop) (h0:J env)
  (hs:∀ (x:PV) (env:b6) (N:b6 -> Prop),x ∈ items -> J env -> (∀ env',J env' -> N env') -> g x env λenv1=>b { E with nx:=N,ct:=N,bk:=E.nx } env1)
  (hd:∀ env,J env -> E.nx env):mQ g b E items env :=
 cL (λ_=>J) h0 (λi x e N hx hJ hN=>hs x e N (List.mem_of_getElem? hx) hJ hN) hd
theorem eP {g:gN} {tt:dX} {te:aQ} {Q:PV -> Prop}:∀ {items acc:List PV} {env:b6} (I:Nat -> List PV -> b6 -> Prop),I 0 acc env ->
  (∀ (i:Nat) (x:PV) (acc:List PV) (env:b6) (N:List PV -> b6 -> Prop),items[i]? = some x -> I i acc env -> (∀ acc' env',I (i + 1) acc' env' -> N acc' env') -> g x env λenv1=>tt env1 λk=>Br k (te env1 λv=>N (acc ++ [v]) env1) (N acc env1)) ->
  (∀ acc env,I items.length acc env -> Q (.lst acc)) -> fA g tt te Q items acc env
 | [],acc,env,I,h0,hs,hd=>hd acc env h0
 | x :: xs,acc,env,I,h0,hs,hd=>by
  rw [fA]
  refine hs 0 x acc env (λacc env=>fA g tt te Q xs acc env) rfl h0 λacc' env' h=>?_
  exact eP (λi=>I (i + 1)) h (λi y a e N hy=>hs (i + 1) y a e N (by simpa using hy)) λa e h=>hd a e (by simpa using h)
theorem gC {g:gN} {tt:dX} {te:aQ} {Q:PV -> Prop}:∀ {items acc:List PV} {env:b6} (f:PV -> Option PV) (J:b6 -> Prop),J env ->
  (∀ (x:PV) (env:b6) (N:Option PV -> b6 -> Prop),x ∈ items -> J env -> (∀ env',J env' -> N (f x) env') -> g x env λenv1=>tt env1 λk=>Br k (te env1 λv=>N (some v) env1) (N none env1)) ->
  Q (.lst (acc ++ items.filterMap f)) -> fA g tt te Q items acc env
 | [],acc,env,f,J,h0,hs,hq=>by simpa [fA] using hq
 | x :: xs,acc,env,f,J,h0,hs,hq=>by
  rw [fA]
  refine hs x env (λo e=>match o with | some v=>fA g tt te Q xs (acc ++ [v]) e | none=>fA g tt te Q xs acc e) a0m h0 λenv' h=>?_
  rw [List.filterMap_cons] at hq
  cases hf:f x with
  | none =>
   rw [hf] at hq
   exact gC f J h (λy e N hy=>hs y e N (a0j _ hy)) hq
  | some v =>
   rw [hf] at hq
   exact gC f J h (λy e N hy=>hs y e N (a0j _ hy)) (by simpa using hq)
theorem a1O {x y:Prop} (h:x):Br true x y:=h
theorem a1N {x y:Prop} (h:y):Br false x y:=h
theorem a07 {x y:Prop} (h:y):Br (!true) x y:=h
theorem AF {p:Prop} [Decidable p] {x y:Prop} (h1:p -> x) (h2:¬ p -> y):Br (decide p) x y:=WX (λh=>h1 (of_decide_eq_true h)) λh=>h2 (of_decide_eq_false h)
theorem HY {p:Prop} [Decidable p] {x y:Prop} (h1:¬ p -> x) (h2:p -> y):Br (!decide p) x y:=WX (λh=>h1 (by simpa using h)) λh=>h2 (by simpa using h)
theorem BK {lo:Int} {n:Nat} {x:PV} (h:x ∈ c8 lo n):∃ i:Int,x = .int i /\ lo <= i /\ i < lo + n:=by
 unfold c8 at h
 obtain ⟨k,hk,rfl⟩:=List.mem_map.mp h
 have:=List.mem_range.mp hk
 exact ⟨_,rfl,by omega,by omega⟩
theorem eO {lo:Int} {n i:Nat} {x:PV} (h:(c8 lo n)[i]? = some x):x = .int (lo + i) /\ i < n:=by
 have hi:i < n:=by
  have:=(a0i.mp h).1
  rwa [bM] at this
 rw [u5 hi] at h
 exact ⟨(Option.some.inj h).symm,hi⟩
theorem b8 {n:Nat} (h:n <= 1000):n <= sizeLine:=Nat.le_trans h (by decide)
theorem l3 {n:Nat} (h:n <= 1000):n < sizeLine:=Nat.lt_of_le_of_lt h (by decide)
theorem iE {ns:List Int} {P:Int -> Prop} {r:Int} {Q:PV -> Prop} (h0:0 <= r) (h1:r < ns.length) (hP:∀ n ∈ ns,P n) (q:∀ n,P n -> Q (.int n)):dM (.lst (ns.map PV.int)) (.int r) Q:=by
 have h:r.toNat < ns.length:=by omega
 refine e6 (z:=.int ns[r.toNat]) (c6 h0 (by rw [a0h,a0b h];rfl)) (q _ (hP _ (List.getElem_mem h)))
end L2
namespace Lib
open PySem L2
def lI (s:Sr):PV:=.tup [.str s.nm,.int s.b,.int s.e,.int s.w]
abbrev gJ (bk:List Sr):PV:=.lst (bk.map lI)
abbrev g8 (ks:List Int):PV:=.lst (ks.map PV.int)
structure BkOk (bk:List Sr) (n:Nat):Prop where
 len:bk.length <= n
 at_:∀ (i:Nat) (s:Sr),bk[i]? = some s -> SrOk s i
theorem FK (ks:List Int):PV.flats (ks.map PV.int) = true:=PV.flats_of λx h=>by obtain ⟨s,_,rfl⟩:=List.mem_map.mp h;rfl
def aI (s:Sr) (m:Int):Bool:=decide (s.b <= m) && decide (m < s.e)
theorem o4 {s:Sr} {m:Int} {R:PV -> Prop} (h:R (.bl (aI s m))):dE [lI s,.int m] R:=by
 unfold dE lI
 walk_at "w"
 refine e7 nU ?_
 walk_at "w"
 unfold aI at h
 refine AF (λh1=>?_) (λh1=>?_)
 ·rw [decide_eq_true h1,Bool.true_and] at h
  refine e7 qD ?_
  walk_at "w"
  exact h
 ·rw [decide_eq_false h1,Bool.false_and] at h
  exact h
theorem RX {bk:List Sr} {k:Int} (h0:0 <= k) (h1:k < bk.length):∃ s,bk[k.toNat]? = some s /\ jF (bk.map lI) k = some (lI s):=by
 have h:k.toNat < bk.length:=by omega
 exact ⟨bk[k.toNat],a0b h,c6 h0 (by rw [a0h,a0b h];rfl)⟩
theorem qJ {k:Int} {R:PV -> Prop} (k0:0 <= k) (k1:k < 26) (h:∀ nm:Str,NmOk nm k.toNat -> R (.str nm)):iC [.st,.int k] R:=by
 unfold iC
 walk_at "w"
 refine ⟨by decide,by decide,λr r0 r1=>?_⟩
 walk_at "w"
 refine ⟨by omega,?_⟩
 refine ⟨by omega,?_⟩
 refine cL (λi env=>∃ (sp:Str) (t:Option PV),env = [some .st,some (.int k),some (.str ZS),some (.str sp),t] /\ sp.cps.toList.length = i /\ ∀ c ∈ sp.cps.toList,97 <= c /\ c <= 122) ⟨Str.ofString "",none,rfl,by decide +kernel,by intro c hc;rw [show (Str.ofString "").cps.toList = [] by decide +kernel] at hc;cases hc⟩ ?_ ?_
 ·rintro i x env N hx ⟨sp,t,rfl,hl,hc⟩ hN
  obtain ⟨rfl,hi⟩:=eO hx
  walk_at "w"
  refine ⟨by decide,by decide,λr2 r20 r21=>?_⟩
  walk_at "w"
  refine RB (CW r20 r21) (by rw [CV];decide) ?_
  walk_at "w"
  have l1:sp.length = i:=by show sp.cps.size = i;rw [<- hl,a0l]
  refine ⟨?_,?_⟩
  ·rw [l1]
   show i + 1 <= sizeLine
   exact b8 (by omega)
  ·refine hN _ ⟨_,_,rfl,?_,?_⟩
   ·show (sp.cps ++ #[97 + r2.toNat]).toList.length = _
    rw [Array.toList_append,List.length_append,hl];rfl
   ·intro c hc'
    have hc':c ∈ (sp.cps ++ #[97 + r2.toNat]).toList:=hc'
    rw [Array.toList_append] at hc'
    rcases List.mem_append.mp hc' with z | z
    ·exact hc c z
    ·have:c = 97 + r2.toNat:=by simpa using z
     omega
 ·rintro env ⟨sp,t,rfl,hl,hc⟩
  rw [bM] at hl
  walk_at "w"
  refine RB (CW k0 k1) (by rw [CV];decide) ?_
  walk_at "w"
  have l1:sp.length = r.toNat:=by show sp.cps.size = _;rw [<- hl,a0l]
  refine ⟨?_,?_⟩
  ·rw [l1]
   show r.toNat + 1 <= sizeLine
   exact b8 (by omega)
  ·refine h _ ⟨⟨sp.cps.toList,?_,by omega,hc⟩⟩
   show (sp.cps ++ #[97 + k.toNat]).toList = _
   rw [Array.toList_append]
structure SmOk (ks:List Int) (n:Nat):Prop where
 lt:ks.Pairwise (· < ·)
 at_:∀ k ∈ ks,0 <= k /\ k < (n:Int)
theorem SmOk.len {ks:List Int} {n:Nat} (h:SmOk ks n):ks.length <= n:=by
 have h2:∀ (n:Nat) (ks:List Int),ks.Pairwise (· < ·) -> (∀ k ∈ ks,0 <= k /\ k < (n:Int)) -> ks.length <= n:=by
  intro n
  induction n with
  | zero=>intro ks _ h;cases ks with
   | nil=>simp
   | cons a l=>have:=h a a0m;omega
  | succ n ih =>
   intro ks hp h
   by_cases hm:(n:Int) ∈ ks
   ·have:(ks.erase (n:Int)).length <= n:=by
     refine ih _ (hp.sublist List.erase_sublist) λk hk=>?_
     have hk':=List.mem_of_mem_erase hk
     have nd:ks.Nodup:=hp.imp λh=>by omega
     have hne:k ≠ (n:Int):=λz=>by subst z;exact (List.Nodup.not_mem_erase nd) hk
     have:=h k hk'
     omega
    rw [List.length_erase_of_mem hm] at this
    omega
   ·have:=ih ks hp λk hk=>by
     have h1:=h k hk
     have:k ≠ (n:Int):=λz=>by subst z;exact hm hk
     omega
    omega
 exact h2 n ks h.lt h.at_
theorem yT {u x:Int} (u0:1 <= u) (x1:x <= 28):u * x <= u * 28:=Int.mul_le_mul_of_nonneg_left x1 (by omega)
theorem B5 {a b:Int} (h0:0 <= a) (h1:a < 18446744073709551616):sO a b:=.inl ⟨by omega,by omega⟩
theorem JO {P:Int -> Prop} {a b c d:Int} (ha:P a) (hb:P b) (hc:P c) (hd:P d):∀ n ∈ [a,b,c,d],P n:=by
 intro n hn
 simp only [List.mem_cons,List.not_mem_nil,or_false] at hn
 rcases hn with rfl | rfl | rfl | rfl <;> assumption
theorem IB {n:Nat} {R:PV -> Prop} (hn:n <= 24) (h:∀ bk:List Sr,BkOk bk n -> R (gJ bk)):iB [.st,.int n] R:=by
  unfold iB
  walk_at "w"
  refine ⟨by decide,by decide,λr1 r10 r11=>?_⟩
  walk_at "w"
  refine iE (ns:=[3,6,9,14]) (P:=λx=>0 < x /\ x <= 14) r10 r11 (JO (by omega) (by omega) (by omega) (by omega)) λsize hsz=>?_
  walk_at "w"
  refine ⟨⟨by decide,by decide,by decide⟩,?_⟩
  walk_at "w"
  refine ⟨by decide,by decide,λr2 r20 r21=>?_⟩
  walk_at "w"
  refine iE (ns:=[1,1,7,10 ^ (10:Int).toNat]) (P:=λx=>0 < x /\ x <= 10000000000) r20 r21 (JO (by omega) (by omega) (by omega) (by decide)) λmany hmn=>?_
  walk_at "w"
  refine ⟨by omega, by have : (10000000000 : Int) < 2 ^ 250 := by decide
                       omega,λr3 r30 r31=>?_⟩
  walk_at "w"
  have u0:1 <= 1 + r3:=by omega
  have u1:1 + r3 <= 10000000000:=by omega
  refine ⟨⟨by decide,by decide,by decide⟩,?_⟩
  walk_at "w"
  refine ⟨⟨by decide,by decide,by decide⟩,?_⟩
  walk_at "w"
  refine ⟨B5 (by decide) (by decide),?_⟩
  walk_at "w"
  refine ⟨by decide,by decide,λr4 r40 r41=>?_⟩
  walk_at "w"
  refine iE (ns:=[0,-3,-(10 ^ (12:Int).toNat),10 ^ (12:Int).toNat - 28 * (1 + r3)]) (P:=λx=>-1000000000000 <= x /\ x + 28 * (1 + r3) <= 1000000000000) r40 r41
    (JO (by omega) (by omega) (by   have : (10 : Int) ^ (12 : Int).toNat = 1000000000000 := by decide
                                    rw [this]; omega) (by have : (10 : Int) ^ (12 : Int).toNat = 1000000000000 := by decide
                                                          rw [this];omega)) λlow hlow=>?_
  walk_at "w"
  refine ⟨by omega, by have : (25 : Int) < 2 ^ 250 := by decide
                       omega,λr5 r50 r51=>?_⟩
  walk_at "w"
  refine ⟨by omega,?_⟩
  refine ⟨by omega,?_⟩
  refine cL (λi env=>∃ (bk:List Sr) (t1 t2 t3 t4 t5:Option PV),env = [some .st,some (.int n),some (.int size),some (.int (1 + r3)),some (.int low),some (gJ bk),t1,t2,t3,t4,t5] /\ bk.length = i /\ ∀ (j:Nat) (s:Sr),bk[j]? = some s -> SrOk s j) ⟨[],none,none,none,none,none,rfl,rfl,by simp⟩ ?_ ?_
  · rintro i x env N hx ⟨bk,t1,t2,t3,t4,t5,rfl,hl,hb⟩ hN
    obtain ⟨rfl,hi⟩:=eO hx
    walk_at "w"
    refine ⟨by omega, by have : (14 : Int) < 2 ^ 250 := by decide
                         omega,λb b0 b1=>?_⟩
    walk_at "w"
    refine ⟨by omega, by have : (14 : Int) < 2 ^ 250 := by decide
                         omega,λl l0 l1=>?_⟩
    walk_at "w"
    refine ⟨⟨by decide,by decide,by decide⟩,?_⟩
    walk_at "w"
    refine ⟨by decide,by decide,λr6 r60 r61=>?_⟩
    walk_at "w"
    refine iE (ns:=[4,12,100,10 ^ (12:Int).toNat + 1]) (P:=λx=>0 < x /\ x <= 1000000000001) r60 r61 (JO (by omega) (by omega) (by omega) (by decide)) λwm hwm=>?_
    walk_at "w"
    refine ⟨by omega, by have : (1000000000001 : Int) < 2 ^ 250 := by decide
                         omega,λwo w0 w1=>?_⟩
    walk_at "w"
    refine ⟨B5 (by omega) (by omega),?_⟩
    walk_at "w"
    refine ⟨B5 (by omega) (by omega),?_⟩
    walk_at "w"
    have hb0:(1 + r3) * b <= (1 + r3) * 28:=yT u0 (by omega)
    have he0:(1 + r3) * (b + 1 + l) <= (1 + r3) * 28:=yT u0 (by omega)
    have hbn:0 <= (1 + r3) * b:=Int.mul_nonneg (by omega) b0
    have hlt:(1 + r3) * b < (1 + r3) * (b + 1 + l):=Int.mul_lt_mul_of_pos_left (by omega) (by omega)
    have add:∀ (nm:Str) (p e:Int),NmOk nm (0 + (i:Int)).toNat -> p < e -> -1000000000000 <= p -> e <= 1000000000000 -> ∀ (t1' t2' t3' t4' t5':Option PV),
        N [some .st,some (.int n),some (.int size),some (.int (1 + r3)),some (.int low),some (.lst (bk.map lI ++ [.tup [.str nm,.int p,.int e,.int wo]])),t1',t2',t3',t4',t5']:=by
      intro nm p e hnm h1 h2 h3 t1' t2' t3' t4' t5'
      refine hN _ ⟨bk ++ [⟨nm,p,e,wo⟩],t1',t2',t3',t4',t5',by simp [lI],by simp [hl],?_⟩
      intro j s hj
      by_cases hjl:j < bk.length
      · rw [List.getElem?_append_left hjl] at hj;exact hb j s hj
      · rw [List.getElem?_append_right (by omega)] at hj
        have hj0:j - bk.length = 0:=by
          have:=(a0i.mp hj).1
          simp at this;omega
        rw [hj0] at hj
        simp at hj
        subst hj
        have:(0 + (i:Int)).toNat = j:=by omega
        rw [this] at hnm
        exact ⟨hnm,h1,h2,h3,w0,show wo <= 1000000000000 by omega⟩
    have hsz:(bk.map lI).length < sizeLine:=l3 (by simp;omega)
    refine AF (λh1=>?_) (λh1=>?_)
    · walk_at "w"
      refine ⟨by decide,by decide,λr7 r70 r71=>?_⟩
      walk_at "w"
      refine AF (λh2=>?_) (λh2=>?_)
      · walk_at "w"
        obtain ⟨s,es⟩ : ∃ s,bk[i - 1]? = some s:=⟨bk[i - 1]'(by omega),a0b (by omega)⟩
        have ix:jF (bk.map lI) (-1) = some (lI s):=by
          unfold jF sN
          rw [if_neg (by decide),if_pos (by rw [a0c];omega)]
          show (bk.map lI)[((-1:Int) + ((bk.map lI).length:Nat)).toNat]? = _
          rw [a0c,show ((-1:Int) + (bk.length:Nat)).toNat = i - 1 by omega,a0h,es];rfl
        refine e6 ix ?_
        unfold lI
        walk_at "w"
        refine ⟨(by decide:¬ (HT.sIx 4 0 (some 1) = 0 /\ HT.sIx 4 4 (some 3) = 4)),?_⟩
        walk_at "w"
        refine ⟨rfl,?_⟩
        have so:=hb _ _ es
        refine qJ (by omega) (by omega) λnm hnm=>?_
        walk_at "w"
        refine e7 (z:=.int s.b) rfl ?_
        walk_at "w"
        refine e7 (z:=.int s.e) rfl ?_
        walk_at "w"
        exact ⟨hsz,add nm s.b s.e hnm so.lt so.b0 so.e1 _ _ _ _ _⟩
      · walk_at "w"
        refine ⟨rfl,?_⟩
        refine qJ (by omega) (by omega) λnm hnm=>?_
        walk_at "w"
        refine e7 nT ?_
        walk_at "w"
        refine e7 nU ?_
        walk_at "w"
        exact ⟨hsz,add nm _ _ hnm (by omega) (by omega) (by omega) _ _ _ _ _⟩
    · walk_at "w"
      refine ⟨rfl,?_⟩
      refine qJ (by omega) (by omega) λnm hnm=>?_
      walk_at "w"
      refine e7 nT ?_
      walk_at "w"
      refine e7 nU ?_
      walk_at "w"
      exact ⟨hsz,add nm _ _ hnm (by omega) (by omega) (by omega) _ _ _ _ _⟩
  · rintro env ⟨bk,t1,t2,t3,t4,t5,rfl,hl,hb⟩
    rw [bM] at hl
    walk_at "w"
    exact h bk ⟨by omega,hb⟩
end Lib
namespace L2
open PySem
theorem D2 (i:Int):(PV.int i).dep = 0:=by rw [PV.dep]
theorem BC (n:Nat):c8 0 n = ((List.range n).map λ(i:Nat)=>(i:Int)).map PV.int:=by simp [c8]
end L2
namespace Lib
open PySem L2
theorem CB (n:Nat):SmOk ((List.range n).map λ(i:Nat)=>(i:Int)) n:=⟨by
 rw [List.pairwise_map];exact List.pairwise_lt_range.imp λh=>by omega,λk h=>by
 obtain ⟨i,hi,rfl⟩:=List.mem_map.mp h
 have:=List.mem_range.mp hi
 omega⟩
end Lib
local macro_rules | `(tactic| walk_at "w") => `(tactic| ((with_reducible (conv => whnf)); (repeat ((with_reducible first | refine L2.a1O ?_ | refine L2.a1N ?_ | refine L2.a07 ?_ | refine L2.brNF ?_); (with_reducible (conv => whnf))))))
namespace L2
open PySem
theorem IZ {g:gN} {tt:dX} {a:AE} {K:List Int -> b6 -> Prop}:∀ {items:List PV} {acc:List Int} {env:b6} (I:Nat -> List Int -> b6 -> Prop),I 0 acc env ->
  (∀ (i:Nat) (x:PV) (acc:List Int) (env:b6) (N:List Int -> b6 -> Prop),items[i]? = some x -> I i acc env -> (∀ acc' env',I (i + 1) acc' env' -> N acc' env') -> g x env λenv1=>tt env1 λk=>Br k (a acc env1 N) (N acc env1)) ->
  (∀ acc env,I items.length acc env -> K acc env) -> jR g tt a K items acc env
 | [],acc,env,I,h0,hs,hd=>hd acc env h0
 | x :: xs,acc,env,I,h0,hs,hd=>by
  rw [jR]
  refine hs 0 x acc env (λacc env=>jR g tt a K xs acc env) rfl h0 λacc' env' h=>?_
  exact IZ (λi=>I (i + 1)) h (λi y a e N hy=>hs (i + 1) y a e N (by simpa using hy)) λa e h=>hd a e (by simpa using h)
end L2
namespace Lib
open PySem L2
def fI (ss:List Sr):List Int:=ss.flatMap λs=>[s.b,s.e]
theorem w9 (ss:List Sr):(fI ss).length = 2 * ss.length:=by
 induction ss with
 | nil=>rfl
 | cons s ss ih=>rw [fI,List.flatMap_cons,List.length_append,<- fI,ih];simp;omega
theorem eV {ss:List Sr} {m:Int}:m ∈ fI ss ↔ ∃ s ∈ ss,m = s.b \/ m = s.e:=by
 simp [fI]
theorem tU {ss:List Sr} {R:PV -> Prop} (hl:ss.length <= 31) (q:R (g8 (aJ (fI ss)))):cC [gJ ss] R:=by
 unfold cC
 walk_at "w"
 refine IZ (λi acc env=>acc = fI (ss.take i) /\ ∃ t1 t2,env = [t1,t2]) ⟨rfl,none,none,rfl⟩ ?_ ?_
 ·rintro i x acc env N hx ⟨rfl,t1,t2,rfl⟩ hN
  rw [a0h,Option.map_eq_some_iff] at hx
  obtain ⟨s,hs,rfl⟩:=hx
  have hi:i < ss.length:=(a0i.mp hs).1
  have hlen:(fI (ss.take i)).length <= 60:=by rw [w9,List.length_take];omega
  have he:fI (ss.take (i + 1)) = fI (ss.take i) ++ [s.b] ++ [s.e]:=by
   rw [List.take_add_one,hs,fI,List.flatMap_append,<- fI];simp
  unfold lI
  walk_at "w"
  refine ⟨(by decide:¬ (HT.sIx 4 0 (some 1) = 0 /\ HT.sIx 4 4 (some 3) = 4)),?_⟩
  show jR _ _ _ _ [.int s.b,.int s.e] _ _
  rw [jR]
  walk_at "w"
  refine ⟨by omega,?_⟩
  show jR _ _ _ _ [.int s.e] _ _
  rw [jR]
  walk_at "w"
  refine ⟨by rw [List.length_append,List.length_singleton];omega,?_⟩
  show jR _ _ _ _ [] _ _
  rw [jR]
  exact hN _ _ ⟨he.symm,_,_,rfl⟩
 ·rintro acc env ⟨rfl,t1,t2,rfl⟩
  rw [a0c,List.take_length]
  exact q
def eZ (bk:List Sr) (k:Int):Sr:=(bk[k.toNat]?).getD ⟨Str.empty,0,0,0⟩
def aP (bk:List Sr) (ks:List Int):List Sr:=ks.map (eZ bk)
theorem CY {bk:List Sr} {k:Int} (h0:0 <= k) (h1:k < bk.length):jF (bk.map lI) k = some (lI (eZ bk k)):=by
 obtain ⟨s,e1,e2⟩:=RX h0 h1
 rw [e2];unfold eZ;rw [e1];rfl
def aO (ss:List Sr) (m:Int):Nat:=ss.countP λs=>aI s m
theorem U7 {bk:List Sr} {m:Int} (ks:List Int):((ks.map PV.int).filterMap λx=>match x with | .int k=>if aI (eZ bk k) m then some (PV.int k) else none | _=>none).length = aO (aP bk ks) m:=by
 unfold aO aP
 induction ks with
 | nil=>rfl
 | cons k ks ih =>
  rw [a0f,a0f,List.countP_cons,<- ih,List.filterMap_cons]
  by_cases h:aI (eZ bk k) m = true
  ·simp [h]
  ·simp [h]
theorem tT {bk:List Sr} {ks:List Int} {m:Int} {R:PV -> Prop} (hl:ks.length <= 1000) (ok:∀ k ∈ ks,0 <= k /\ k < (bk.length:Int)) (q:R (.int (aO (aP bk ks) m))):eJ [gJ bk,g8 ks,.int m] R:=by
 unfold eJ
 walk_at "w"
 refine ⟨b8 (by simpa using hl),?_⟩
 refine gC (λx=>match x with | .int k=>if aI (eZ bk k) m then some (PV.int k) else none | _=>none) (λenv=>∃ t,env = [t,some (.int m),some (gJ bk)]) ⟨_,rfl⟩ ?_ ?_
 ·rintro x env N hx ⟨t,rfl⟩ hN
  obtain ⟨k,hk,rfl⟩:=List.mem_map.mp hx
  walk_at "w"
  refine e6 (CY (ok k hk).1 (ok k hk).2) ?_
  walk_at "w"
  refine o4 ?_
  walk_at "w"
  have hN:=hN [some (.int k),some (.int m),some (gJ bk)] ⟨_,rfl⟩
  dsimp only at hN
  refine WX (λh=>?_) (λh=>?_)
  ·rw [if_pos h] at hN;exact hN
  ·rw [if_neg (by rw [h];exact a0k)] at hN;exact hN
 ·rw [List.nil_append]
  walk_at "w"
  rw [U7]
  exact q
end Lib
namespace L2
open PySem
theorem mJ:∀ (n:Nat) (ks:List Int),ks.length <= n -> ks.eraseDups.length <= ks.length
 | 0,ks,h=>by
  have:ks = []:=List.length_eq_zero_iff.mp (by omega)
  subst this;simp
 | n + 1,[],h=>by simp
 | n + 1,k :: ks,h=>by
  rw [List.eraseDups_cons,List.length_cons,List.length_cons]
  have h1:=List.length_filter_le (λb=>!b == k) ks
  have:=mJ n (ks.filter λb=>!b == k) (by simp at h;omega)
  omega
theorem vC (ks:List Int):(aJ ks).length <= ks.length:=by
 unfold aJ
 rw [(bF _).length_eq]
 exact mJ _ ks (Nat.le_refl _)
theorem MN {ds:List Int} {x:Int}:((ds.map PV.int).any λz=>z.eqB (.int x)) = decide (x ∈ ds):=by
 rw [List.any_map]
 induction ds with
 | nil=>simp
 | cons d ds ih =>
  rw [List.any_cons,ih]
  show ((PV.int d).eqB (.int x) || _) = _
  rw [eqB_ii]
  by_cases h:d = x
  ·subst h;simp
  ·have:¬ x = d:=λz=>h z.symm
   simp [h,this]
end L2
namespace Lib
open PySem L2
theorem qV {ss:List Sr} {x y:Int} (h:∀ s ∈ ss,aI s x = aI s y):aO ss x = aO ss y:=by
 unfold aO
 exact List.countP_congr λs hs=>by rw [h s hs]
theorem bP {s:Sr} {m:Int}:aI s m = true ↔ s.b <= m /\ m < s.e:=by
 unfold aI;simp
theorem k7 {s:Sr} {x y:Int} (h:(s.b <= x ↔ s.b <= y) /\ (x < s.e ↔ y < s.e)):aI s x = aI s y:=by
 rw [Bool.eq_iff_iff,bP,bP,h.1,h.2]
theorem JI {ss:List Sr} {m:Int} (hm:(aJ (fI ss))[0]? = some m):aO ss (m - 1) = 0:=by
 unfold aO
 refine List.countP_eq_zero.mpr λs hs=>?_
 rw [bP]
 have hb:s.b ∈ aJ (fI ss):=bG.mpr (eV.mpr ⟨s,hs,.inl rfl⟩)
 obtain ⟨j,hj,ej⟩:=List.getElem_of_mem hb
 obtain ⟨h0,e0⟩:=a0i.mp hm
 have:m <= s.b:=by
  rcases Nat.eq_zero_or_pos j with z | z
  ·subst z;rw [<- ej,e0];exact Int.le_refl _
  ·have:=(List.pairwise_iff_getElem.mp (f7 (fI ss))) 0 j h0 hj z
   rw [e0,ej] at this;omega
 omega
theorem O6 {ss:List Sr} {i:Nat} {x m:Int} (hx:(aJ (fI ss))[i]? = some x) (hm:(aJ (fI ss))[i + 1]? = some m):aO ss x = aO ss (m - 1):=by
 obtain ⟨h0,e0⟩:=a0i.mp hx
 obtain ⟨h1,e1⟩:=a0i.mp hm
 have pw:=List.pairwise_iff_getElem.mp (f7 (fI ss))
 have lt:=pw i (i + 1) h0 h1 (by omega)
 rw [e0,e1] at lt
 have off:∀ v ∈ aJ (fI ss),v <= x \/ m <= v:=by
  intro v hv
  obtain ⟨j,hj,ej⟩:=List.getElem_of_mem hv
  rcases Nat.lt_trichotomy j i with z | z | z
  ·have:=pw j i hj h0 z
   rw [e0,ej] at this;omega
  ·subst z;rw [e0] at ej;omega
  ·rcases Nat.eq_or_lt_of_le (Nat.succ_le_of_lt z) with z2 | z2
   ·subst z2;right;rw [<- ej,<- e1];exact Int.le_refl _
   ·have:=pw (i + 1) j h1 hj z2
    rw [e1,ej] at this;omega
 refine qV λs hs=>k7 ?_
 have hb:=off s.b (bG.mpr (eV.mpr ⟨s,hs,.inl rfl⟩))
 have he:=off s.e (bG.mpr (eV.mpr ⟨s,hs,.inr rfl⟩))
 constructor <;> constructor <;> intro h <;> omega
def GB (ss:List Sr) (m:Int):Option PV:=if aO ss m = aO ss (m - 1) then none else some (.tup [.int m,.int (aO ss m)])
def pM (ss:List Sr) (i:Nat):List PV:=((aJ (fI ss)).take i).filterMap (GB ss)
def x9 (ss:List Sr):List PV:=(aJ (fI ss)).filterMap (GB ss)
theorem LI (ss:List Sr) (i:Nat):(pM ss i).length <= 2 * ss.length:=by
 unfold pM
 have h1:=List.length_filterMap_le (GB ss) ((aJ (fI ss)).take i)
 have h2:=List.length_take_le i (aJ (fI ss))
 have h3:=vC (fI ss)
 rw [w9] at h3
 have:((aJ (fI ss)).take i).length <= (aJ (fI ss)).length:=by rw [List.length_take];omega
 omega
theorem GC {ss:List Sr} {i:Nat} {m:Int} (hm:(aJ (fI ss))[i]? = some m) (h:aO ss m = aO ss (m - 1)):pM ss (i + 1) = pM ss i:=by
 unfold pM
 rw [List.take_add_one,hm,List.filterMap_append]
 simp [GB,h]
theorem LJ {ss:List Sr} {i:Nat} {m:Int} (hm:(aJ (fI ss))[i]? = some m) (h:¬ aO ss m = aO ss (m - 1)):pM ss (i + 1) = pM ss i ++ [.tup [.int m,.int (aO ss m)]]:=by
 unfold pM
 rw [List.take_add_one,hm,List.filterMap_append]
 simp [GB,h]
theorem rK (bk:List Sr) (ks:List Int):(aP bk ks).length = ks.length:=by simp [aP]
theorem O3 {bk:List Sr} {ks:List Int} {Q:PV -> Prop} {e1:Option PV} (ok:∀ k ∈ ks,0 <= k /\ k < (bk.length:Int)) (q:Q (gJ (aP bk ks))) :
  fA (RD.pgName 0) RD.pTrue (RD.pOp dM (RD.pVar 1) (RD.pVar 0)) Q (ks.map PV.int) [] [e1,some (gJ bk)]:=by
 refine gC (λx=>match x with | .int k=>some (lI (eZ bk k)) | _=>none) (λenv=>∃ t,env = [t,some (gJ bk)]) ⟨e1,rfl⟩ ?_ ?_
 ·rintro x env N hx ⟨t,rfl⟩ hN
  obtain ⟨k,hk,rfl⟩:=List.mem_map.mp hx
  walk_at "w"
  refine e6 (CY (ok k hk).1 (ok k hk).2) ?_
  exact hN _ ⟨_,rfl⟩
 ·rw [List.nil_append]
  have:(ks.map PV.int).filterMap (λx=>match x with | .int k=>some (lI (eZ bk k)) | _=>none) = (aP bk ks).map lI:=by
   rw [aP,List.filterMap_map,List.map_map,<- List.filterMap_eq_map];rfl
  rw [this];exact q
theorem B0 {bk:List Sr} {ks:List Int} {R:PV -> Prop} (hl:ks.length <= 31) (ok:∀ k ∈ ks,0 <= k /\ k < (bk.length:Int)) (q:R (.lst (x9 (aP bk ks)))):eK [gJ bk,g8 ks] R:=by
 unfold eK
 walk_at "w"
 refine ⟨b8 (by simp;omega),?_⟩
 refine O3 ok ?_
 walk_at "w"
 refine tU (by rw [rK];exact hl) ?_
 walk_at "w"
 refine cL (λi env=>∃ (b:Int) (t4 t5:Option PV),env = [some (gJ bk),some (g8 ks),some (.lst (pM (aP bk ks) i)),some (.int b),t4,t5] /\ ∀ m,(aJ (fI (aP bk ks)))[i]? = some m -> b = (aO (aP bk ks) (m - 1):Nat)) ⟨0,none,none,rfl,λm hm=>by rw [JI hm];rfl⟩ ?_ ?_
 ·rintro i x env N hx ⟨b,t4,t5,rfl,hb⟩ hN
  rw [a0h,Option.map_eq_some_iff] at hx
  obtain ⟨m,hm,rfl⟩:=hx
  have hb:=hb m hm
  subst hb
  walk_at "w"
  refine tT (by omega) ok ?_
  walk_at "w"
  have go:∀ t5,N [some (gJ bk),some (g8 ks),some (.lst (pM (aP bk ks) (i + 1))),some (.int (aO (aP bk ks) m)),some (.int m),t5]:=λt5=>hN _ ⟨_,_,_,rfl,λm' hm'=>by rw [O6 hm hm']⟩
  refine HY (λh=>?_) λh=>?_
  ·walk_at "w"
   refine ⟨rfl,?_⟩
   walk_at "w"
   refine ⟨l3 (n:=(pM (aP bk ks) i).length) (by have:=LI (aP bk ks) i;rw [rK] at this;omega),?_⟩
   rw [LJ hm (by omega)] at go
   exact go _
  ·rw [GC hm (by omega)] at go
   exact go _
 ·rintro env ⟨b,t4,t5,rfl,hb⟩
  walk_at "w"
  rw [a0c,pM,List.take_length]
  exact q
theorem VX {bk:List Sr} {i:Nat} {s:Sr} (h:bk[i]? = some s):eZ bk (i:Int) = s:=by
 unfold eZ;rw [Int.toNat_natCast,h];rfl
def jS (ss:List Sr):Int:=(ss.map Sr.w).sum
theorem JG {bk:List Sr} {ks:List Int} {Q:PV -> Prop} {e1:Option PV} (ok:∀ k ∈ ks,0 <= k /\ k < (bk.length:Int)) (q:Q (g8 ((aP bk ks).map Sr.w))) :
  fA (RD.pgName 0) RD.pTrue (RD.pOp dM (RD.pOp dM (RD.pVar 1) (RD.pVar 0)) (RD.pC (PV.int 3))) Q (ks.map PV.int) [] [e1,some (gJ bk)]:=by
 refine gC (λx=>match x with | .int k=>some (.int (eZ bk k).w) | _=>none) (λenv=>∃ t,env = [t,some (gJ bk)]) ⟨e1,rfl⟩ ?_ ?_
 ·rintro x env N hx ⟨t,rfl⟩ hN
  obtain ⟨k,hk,rfl⟩:=List.mem_map.mp hx
  walk_at "w"
  refine e6 (CY (ok k hk).1 (ok k hk).2) ?_
  unfold lI
  walk_at "w"
  refine e7 vK ?_
  exact hN _ ⟨_,rfl⟩
 ·rw [List.nil_append]
  have:(ks.map PV.int).filterMap (λx=>match x with | .int k=>some (.int (eZ bk k).w) | _=>none) = ((aP bk ks).map Sr.w).map PV.int:=by
   rw [aP,List.filterMap_map,List.map_map,List.map_map,<- List.filterMap_eq_map];rfl
  rw [this];exact q
theorem MX {bk:List Sr} {ks:List Int} {R:PV -> Prop} (hl:ks.length <= 1000) (ok:∀ k ∈ ks,0 <= k /\ k < (bk.length:Int)) (q:R (.int (jS (aP bk ks)))):eN [gJ bk,g8 ks] R:=by
 unfold eN
 walk_at "w"
 refine ⟨b8 (by simpa using hl),?_⟩
 refine JG ok ?_
 walk_at "w"
 exact wH q
def A2 (ss:List Sr) (m:Int):Option (Int × Nat):=if aO ss m = aO ss (m - 1) then none else some (m,aO ss m)
def xA (ss:List Sr):List (Int × Nat):=(aJ (fI ss)).filterMap (A2 ss)
def a1I (p:Int × Nat):PV:=.tup [.int p.1,.int p.2]
theorem CD (ss:List Sr):x9 ss = (xA ss).map a1I:=by
 unfold x9 xA
 rw [List.map_filterMap]
 congr 1;funext m
 unfold GB A2
 split <;> rfl
theorem mO {ss:List Sr} {m:Int} {l:Nat}:(m,l) ∈ xA ss ↔ m ∈ aJ (fI ss) /\ aO ss m ≠ aO ss (m - 1) /\ l = aO ss m:=by
 unfold xA
 rw [List.mem_filterMap]
 constructor
 ·rintro ⟨u,hu,e⟩
  unfold A2 at e
  split at e
  ·cases e
  ·rename_i h
   cases e
   exact ⟨hu,h,rfl⟩
 ·rintro ⟨hu,h,rfl⟩
  exact ⟨m,hu,by unfold A2;rw [if_neg h]⟩
theorem WA (ss:List Sr):(xA ss).Pairwise λp q=>p.1 < q.1:=by
 unfold xA
 refine List.Pairwise.filterMap (R:=λ(a b:Int)=>a < b) _ (λa b hab p hp q hq=>?_) (f7 _)
 unfold A2 at hp hq
 split at hp
 ·cases hp
 ·split at hq
  ·cases hq
  ·cases hp;cases hq;exact hab
theorem w8 {ss:List Sr} {m:Int} (h:∀ s ∈ ss,¬ (s.b <= m /\ m < s.e)):aO ss m = 0:=by
 unfold aO
 refine List.countP_eq_zero.mpr λs hs=>?_
 rw [bP]
 exact h s hs
theorem U8 {ss:List Sr} {s:Sr} {m:Int} (hs:s ∈ ss) (h:s.b <= m /\ m < s.e):0 < aO ss m:=by
 unfold aO
 exact List.countP_pos_iff.mpr ⟨s,hs,bP.mpr h⟩
theorem O4 {ss:List Sr} {m y:Int} {l:List Int} (h:(aJ (fI ss)).filter (λx=>decide (x <= m)) = l ++ [y]):aO ss m = aO ss y /\ y <= m /\ y ∈ aJ (fI ss) /\ ∀ v ∈ aJ (fI ss),v <= m -> v <= y:=by
 have hp:(l ++ [y]).Pairwise (· < ·):=by rw [<- h];exact (f7 _).sublist List.filter_sublist
 have hm:y ∈ (aJ (fI ss)).filter (λx=>decide (x <= m)):=by rw [h];simp
 have hy:y <= m:=of_decide_eq_true (List.mem_filter.mp hm).2
 have top:∀ v ∈ aJ (fI ss),v <= m -> v <= y:=by
  intro v hv hm
  have:v ∈ l ++ [y]:=by rw [<- h];exact List.mem_filter.mpr ⟨hv,decide_eq_true hm⟩
  rcases List.mem_append.mp this with z | z
  ·have:=(List.pairwise_append.mp hp).2.2 v z y (by simp);omega
  ·simp at z;omega
 refine ⟨qV λs hs=>k7 ?_,hy,(List.mem_filter.mp hm).1,top⟩
 have hb:=top s.b (bG.mpr (eV.mpr ⟨s,hs,.inl rfl⟩))
 have he:=top s.e (bG.mpr (eV.mpr ⟨s,hs,.inr rfl⟩))
 constructor <;> constructor <;> intro h <;> omega
theorem O7 {ss:List Sr} {m:Int} (h:(aJ (fI ss)).filter (λx=>decide (x <= m)) = []):aO ss m = 0:=w8 λs hs z=>by
 have:=List.filter_eq_nil_iff.mp h s.b (bG.mpr (eV.mpr ⟨s,hs,.inl rfl⟩))
 rw [decide_eq_true_iff] at this
 exact this z.1
theorem DI (ss:List Sr):∀ (n:Nat) (m:Int),((aJ (fI ss)).filter λx=>decide (x <= m)).length <= n -> (aO ss m = 0 /\ ∀ p ∈ xA ss,¬ p.1 <= m) \/ ∃ m',(m',aO ss m) ∈ xA ss /\ m' <= m /\ ∀ p ∈ xA ss,p.1 <= m -> p.1 <= m'
 | n,m,hn=>by
  rcases List.eq_nil_or_concat ((aJ (fI ss)).filter λx=>decide (x <= m)) with h | ⟨l,y,h⟩
  ·refine .inl ⟨O7 h,λp hp z=>?_⟩
   have:=List.filter_eq_nil_iff.mp h p.1 (mO (l:=p.2).mp hp).1
   rw [decide_eq_true_iff] at this
   exact this z
  ·rw [List.concat_eq_append] at h
   obtain ⟨e,hy,hu,top⟩:=O4 h
   by_cases hs:aO ss y = aO ss (y - 1)
   ·
    have hf:((aJ (fI ss)).filter λx=>decide (x <= y - 1)).length < ((aJ (fI ss)).filter λx=>decide (x <= m)).length:=by
     have hsub:((aJ (fI ss)).filter λx=>decide (x <= y - 1)) = ((aJ (fI ss)).filter λx=>decide (x <= m)).filter λx=>decide (x <= y - 1):=by
      rw [List.filter_filter]
      refine List.filter_congr λx _=>?_
      by_cases hx:x <= y - 1
      ·have:x <= m:=by omega
       simp [hx,this]
      ·simp [hx]
     rw [hsub]
     refine List.length_filter_lt_length_iff_exists.mpr ⟨y,by rw [h];simp,by simp;omega⟩
    match n,hn with
    | 0,hn=>omega
    | n + 1,hn =>
     have key:∀ p ∈ xA ss,p.1 <= m -> p.1 <= y - 1:=λp hp hm=>by
      obtain ⟨h1,h2,h3⟩:=mO (l:=p.2).mp hp
      have:=top _ h1 hm
      have:p.1 ≠ y:=λz=>h2 (by rw [z];exact hs)
      omega
     rcases DI ss n (y - 1) (by omega) with ⟨z1,z2⟩ | ⟨m',z1,z2,z3⟩
     ·exact .inl ⟨by rw [e,hs,z1],λp hp hm=>z2 p hp (key p hp hm)⟩
     ·exact .inr ⟨m',by rw [e,hs];exact z1,by omega,λp hp hm=>z3 p hp (key p hp hm)⟩
   ·exact .inr ⟨y,by rw [e];exact mO.mpr ⟨hu,hs,rfl⟩,hy,λp hp hm=>top _ (mO (l:=p.2).mp hp).1 hm⟩
theorem DJ (ss:List Sr) (m:Int):(aO ss m = 0 /\ ∀ p ∈ xA ss,¬ p.1 <= m) \/ ∃ m',(m',aO ss m) ∈ xA ss /\ m' <= m /\ ∀ p ∈ xA ss,p.1 <= m -> p.1 <= m':=DI ss _ m (Nat.le_refl _)
structure Crowd (ss:List Sr) (G:Nat) (f:Option Int):Prop where
 top:∀ m,aO ss m <= G
 non:f = none -> G = 0
 fst:∀ m0,f = some m0 -> aO ss m0 = G /\ 0 < G /\ ∀ m < m0,aO ss m < G
theorem Crowd.none_nil {ss:List Sr} {G:Nat} (h:Crowd ss G none) (lt:∀ s ∈ ss,s.b < s.e):ss = []:=by
 rw [List.eq_nil_iff_forall_not_mem]
 intro s hs
 have:=U8 hs (m:=s.b) ⟨Int.le_refl _,lt s hs⟩
 have:=h.top s.b
 have:=h.non rfl
 omega
def gM:Option Int -> PV
 | none=>.non
 | some m=>.int m
def JW (bk:List Sr) (ks:List Int):Option Int -> List Int
 | none=>[]
 | some m=>ks.filter λk=>aI (eZ bk k) m
structure CrSo (sl:List (Int × Nat)) (i:Nat) (g:Nat) (f:Option Int):Prop where
 top:∀ j p,j < i -> sl[j]? = some p -> p.2 <= g
 non:f = none -> g = 0
 fst:∀ m0,f = some m0 -> 0 < g /\ ∃ j0,j0 < i /\ sl[j0]? = some (m0,g) /\ ∀ j p,j < j0 -> sl[j]? = some p -> p.2 < g
theorem CrSo.crowd {ss:List Sr} {g:Nat} {f:Option Int} (h:CrSo (xA ss) (xA ss).length g f):Crowd ss g f:=by
 have at_:∀ {p:Int × Nat},p ∈ xA ss -> ∃ j,j < (xA ss).length /\ (xA ss)[j]? = some p:=λhp=>by
  obtain ⟨j,hj,e⟩:=List.getElem_of_mem hp
  exact ⟨j,hj,by rw [a0b hj,e]⟩
 refine ⟨λm=>?_,h.non,λm0 e=>?_⟩
 ·rcases DJ ss m with ⟨z,_⟩ | ⟨m',hp,_⟩
  ·omega
  ·obtain ⟨j,hj,e⟩:=at_ hp
   exact h.top j _ hj e
 ·obtain ⟨g0,j0,hj0,ej0,bef⟩:=h.fst m0 e
  have hm0:=mO.mp (List.mem_of_getElem? ej0)
  refine ⟨hm0.2.2.symm,g0,λm hm=>?_⟩
  rcases DJ ss m with ⟨z,_⟩ | ⟨m',hp,hle,_⟩
  ·omega
  ·obtain ⟨j,hj,ej⟩:=at_ hp
   refine bef j _ ?_ ej
   refine Nat.lt_of_not_le λhle2=>?_
   rcases Nat.eq_or_lt_of_le hle2 with z | z
   ·subst z;rw [ej0] at ej;cases ej;omega
   ·have:=(List.pairwise_iff_getElem.mp (WA ss)) j0 j hj0 hj z
    rw [(a0i.mp ej0).2,(a0i.mp ej).2] at this
    dsimp only at this
    omega
theorem CrSo.grow {sl:List (Int × Nat)} {i g l:Nat} {m:Int} {f:Option Int} (h:CrSo sl i g f) (e:sl[i]? = some (m,l)) (hl:g < l):CrSo sl (i + 1) l (some m):=by
 refine ⟨λj p hj ej=>?_,λz=>(by cases z),λm0 z=>?_⟩
 ·rcases Nat.eq_or_lt_of_le (Nat.le_of_lt_succ hj) with z | z
  ·subst z;rw [e] at ej;cases ej;exact Nat.le_refl _
  ·have:=h.top j p z ej;omega
 ·cases z
  refine ⟨by omega,i,by omega,e,λj p hj ej=>?_⟩
  have:=h.top j p hj ej;omega
theorem CrSo.stay {sl:List (Int × Nat)} {i g l:Nat} {m:Int} {f:Option Int} (h:CrSo sl i g f) (e:sl[i]? = some (m,l)) (hl:¬ g < l):CrSo sl (i + 1) g f:=by
 refine ⟨λj p hj ej=>?_,h.non,λm0 z=>?_⟩
 ·rcases Nat.eq_or_lt_of_le (Nat.le_of_lt_succ hj) with z | z
  ·subst z;rw [e] at ej;cases ej;show l <= g;omega
  ·exact h.top j p z ej
 ·obtain ⟨g0,j0,h1,h2,h3⟩:=h.fst m0 z
  exact ⟨g0,j0,by omega,h2,h3⟩
theorem AY {bk:List Sr} {ks:List Int} {R:PV -> Prop} (hl:ks.length <= 31) (ok:∀ k ∈ ks,0 <= k /\ k < (bk.length:Int)) (lt:∀ s ∈ aP bk ks,s.b < s.e)
  (q:∀ G f,Crowd (aP bk ks) G f -> R (.tup [.int (G:Nat),gM f,g8 (JW bk ks f)])):eI [gJ bk,g8 ks] R:=by
 unfold eI
 walk_at "w"
 refine ⟨rfl,?_⟩
 walk_at "w"
 refine B0 hl ok ?_
 rw [CD]
 walk_at "w"
 refine cL (λi env=>∃ (g:Nat) (f:Option Int) (t4 t5:Option PV),env = [some (gJ bk),some (g8 ks),some (.int g),some (gM f),t4,t5] /\ CrSo (xA (aP bk ks)) i g f)
  ⟨0,none,none,none,rfl,⟨λj p hj _=>absurd hj (Nat.not_lt_zero j),λ_=>rfl,λ_ z=>(by cases z)⟩⟩ ?_ ?_
 ·rintro i x env N hx ⟨g,f,t4,t5,rfl,hc⟩ hN
  rw [a0h,Option.map_eq_some_iff] at hx
  obtain ⟨⟨m,l⟩,hp,rfl⟩:=hx
  unfold a1I
  walk_at "w"
  refine ⟨rfl,?_⟩
  walk_at "w"
  refine AF (λh=>?_) (λh=>?_)
  ·walk_at "w"
   refine ⟨rfl,?_⟩
   exact hN _ ⟨l,some m,_,_,rfl,hc.grow hp (by omega)⟩
  ·exact hN _ ⟨g,f,_,_,rfl,hc.stay hp (by omega)⟩
 ·rintro env ⟨g,f,t4,t5,rfl,hc⟩
  rw [a0c] at hc
  have cr:=hc.crowd
  walk_at "w"
  refine ⟨b8 (by rw [a0c];omega),?_⟩
  cases f with
  | none =>
   have hn:=cr.none_nil lt
   have hk:ks = []:=by
    unfold aP at hn
    exact List.map_eq_nil_iff.mp hn
   subst hk
   exact ⟨rfl,q g none cr⟩
  | some m =>
   refine gC (λx=>match x with | .int k=>if aI (eZ bk k) m then some (PV.int k) else none | _=>none) (λenv=>∃ t,env = [t,some (.int m),some (gJ bk)]) ⟨_,rfl⟩ ?_ ?_
   ·rintro x env N hx ⟨t,rfl⟩ hN
    obtain ⟨k,hk,rfl⟩:=List.mem_map.mp hx
    walk_at "w"
    refine e6 (CY (ok k hk).1 (ok k hk).2) ?_
    walk_at "w"
    refine o4 ?_
    walk_at "w"
    have hN:=hN [some (.int k),some (.int m),some (gJ bk)] ⟨_,rfl⟩
    dsimp only at hN
    refine WX (λh=>?_) (λh=>?_)
    ·rw [if_pos h] at hN;exact hN
    ·rw [if_neg (by rw [h];exact a0k)] at hN;exact hN
   ·have e1:(ks.map PV.int).filterMap (λx=>match x with | .int k=>if aI (eZ bk k) m then some (PV.int k) else none | _=>none) = (JW bk ks (some m)).map PV.int:=by
     unfold JW
     rw [List.filterMap_map,<- List.filterMap_eq_map,List.filterMap_filter]
     rfl
    rw [List.nil_append,e1]
    exact ⟨FK _,q g (some m) cr⟩
theorem mV {bk:List Sr} {ks:List Int} (ok:∀ k ∈ ks,0 <= k /\ k < (bk.length:Int)) {s:Sr} (h:s ∈ aP bk ks):s ∈ bk:=by
 obtain ⟨k,hk,rfl⟩:=List.mem_map.mp h
 obtain ⟨h0,h1⟩:=ok k hk
 refine List.mem_of_getElem? (i:=k.toNat) ?_
 unfold eZ
 rw [a0b (by omega)];rfl
abbrev Pr:=Int × Int
def uP (p:Pr):PV:=.tup [.int p.1,.int p.2]
abbrev dY (pp:List Pr):PV:=.lst (pp.map uP)
theorem yI (pp:List Pr):PV.flats (pp.map uP) = true:=PV.flats_of λx h=>by obtain ⟨s,_,rfl⟩:=List.mem_map.mp h;rfl
def sR (kv:List Pr):PV:=.dic (kv.map λp=>.inl p.1) (kv.map λp=>.int p.2)
def j4 (kv:List Pr) (m v:Int):List Pr:=if (kv.any λp=>decide (p.1 = m)) = true then kv.map (λp=>if p.1 = m then (p.1,v) else p) else kv ++ [(m,v)]
theorem NX (kv:List Pr) (m:Int):kIn (kv.map λp=>(.inl p.1:b9)) (.inl m) = kv.any λp=>decide (p.1 = m):=by
 unfold kIn
 rw [List.any_map]
 congr 1;funext p
 show decide ((Sum.inl p.1:b9) = .inl m) = _
 by_cases h:p.1 = m
 ·simp [h]
 ·simp [h]
theorem pX (kv:List Pr) (m v:Int):PV.dic (FE (kv.map λp=>.inl p.1) (.inl m)) (AG (kv.map λp=>.inl p.1) (kv.map λp=>PV.int p.2) (.inl m) (.int v)) = sR (j4 kv m v):=by
 unfold FE AG sR j4
 rw [NX]
 cases (kv.any λp=>decide (p.1 = m)) with
 | true =>
  rw [if_pos rfl]
  dsimp only
  congr 1
  ·rw [List.map_map]
   refine List.map_congr_left λp _=>?_
   show _ = Sum.inl (if p.1 = m then (p.1,v) else p).1
   split <;> rfl
  ·rw [List.map_map,List.zip_map,List.map_map]
   have:kv.zip kv = kv.map λp=>(p,p):=by
    induction kv with
    | nil=>rfl
    | cons a l ih=>rw [List.zip_cons_cons,ih];rfl
   rw [this,List.map_map]
   refine List.map_congr_left λp _=>?_
   show (if (Sum.inl p.1:b9) = .inl m then PV.int v else PV.int p.2) = PV.int (if p.1 = m then (p.1,v) else p).2
   by_cases h:p.1 = m
   ·rw [if_pos h,if_pos (by rw [h])]
   ·rw [if_neg h,if_neg (λz=>h (by injection z))]
 | false =>
  rw [if_neg a0k]
  simp
def bZ (kv:List Pr) (m:Int):Option Int:=(kv.find? λp=>decide (p.1 = m)).map (·.2)
theorem pR (kv:List Pr) (m:Int):yB (kv.map λp=>(.inl p.1:b9)) (kv.map λp=>PV.int p.2) (.inl m) = (bZ kv m).map PV.int:=by
 unfold yB bZ
 induction kv with
 | nil=>rfl
 | cons p kv ih =>
  rw [a0f,a0f,List.zip_cons_cons,List.find?_cons,List.find?_cons]
  by_cases h:p.1 = m
  ·rw [decide_eq_true (show (Sum.inl p.1:b9) = .inl m by rw [h]),decide_eq_true h];rfl
  ·rw [decide_eq_false (show ¬ (Sum.inl p.1:b9) = .inl m from λz=>h (by injection z)),decide_eq_false h];exact ih
structure KvOk (kv:List Pr) (P:Int -> Int -> Prop) (n:Nat):Prop where
 nd:(kv.map (·.1)).Nodup
 at_:∀ p ∈ kv,P p.1 p.2
 len:kv.length <= n
theorem KvOk.nil {P:Int -> Int -> Prop}:KvOk [] P 0:=⟨by simp,λp h=>(by cases h),Nat.le_refl _⟩
theorem KvOk.put {kv:List Pr} {P:Int -> Int -> Prop} {n:Nat} (h:KvOk kv P n) {m v:Int} (hP:P m v):KvOk (j4 kv m v) P (n + 1):=by
 unfold j4
 split
 ·refine ⟨?_,λp hp=>?_,by rw [a0c];have:=h.len;omega⟩
  ·have:(kv.map λp=>if p.1 = m then (p.1,v) else p).map (·.1) = kv.map (·.1):=by
    rw [List.map_map]
    refine List.map_congr_left λp _=>?_
    show (if p.1 = m then (p.1,v) else p).1 = p.1
    split <;> rfl
   rw [this];exact h.nd
  ·obtain ⟨q,hq,rfl⟩:=List.mem_map.mp hp
   by_cases e:q.1 = m
   ·rw [if_pos e,e];exact hP
   ·rw [if_neg e];exact h.at_ q hq
 ·rename_i hn
  refine ⟨?_,λp hp=>?_,by rw [List.length_append,List.length_singleton];have:=h.len;omega⟩
  ·rw [List.map_append,List.nodup_append]
   refine ⟨h.nd,by simp,λa ha b hb z=>hn ?_⟩
   obtain ⟨p,hp,rfl⟩:=List.mem_map.mp ha
   simp at hb
   exact List.any_eq_true.mpr ⟨p,hp,by rw [z,hb];simp⟩
  ·rcases List.mem_append.mp hp with z | z
   ·exact h.at_ p z
   ·simp at z;subst z;exact hP
theorem mL {kv:List Pr} {m:Int} (h:m ∈ kv.map (·.1)):∃ v,bZ kv m = some v /\ (m,v) ∈ kv:=by
 unfold bZ
 cases e:kv.find? λp=>decide (p.1 = m) with
 | none =>
  rw [List.find?_eq_none] at e
  obtain ⟨p,hp,rfl⟩:=List.mem_map.mp h
  exact absurd (by simp) (e p hp)
 | some p =>
  have h1:=List.find?_some e
  have h2:=List.mem_of_find?_eq_some e
  rw [decide_eq_true_iff] at h1
  exact ⟨p.2,rfl,by rw [<- h1];exact h2⟩
structure PpOk (pp:List Pr) (P:Int -> Int -> Prop) (n:Nat):Prop where
 lt:pp.Pairwise λa b=>a.1 < b.1
 at_:∀ p ∈ pp,P p.1 p.2
 len:pp.length <= n
def gB (kv:List Pr):List Pr:=(gA (kv.map (·.1))).map λm=>(m,(bZ kv m).getD 0)
theorem KvOk.sort {kv:List Pr} {P:Int -> Int -> Prop} {n:Nat} (h:KvOk kv P n):PpOk (gB kv) P n:=by
 have nd:(gA (kv.map (·.1))).Nodup:=(bF _).nodup_iff.mpr h.nd
 have lt:(gA (kv.map (·.1))).Pairwise (· < ·):=((j3 _).and nd).imp fun {x y} ⟨h1,h2⟩=>by omega
 refine ⟨?_,λp hp=>?_,?_⟩
 ·unfold gB;rw [List.pairwise_map];exact lt.imp λh=>h
 ·obtain ⟨m,hm,rfl⟩:=List.mem_map.mp hp
  obtain ⟨v,e,hv⟩:=mL ((bF _).mem_iff.mp hm)
  rw [e];exact h.at_ (m,v) hv
 ·unfold gB;rw [a0c,(bF _).length_eq,a0c];exact h.len
theorem uA {kv:List Pr} {Q:PV -> Prop} {e1:Option PV} (q:Q (dY (gB kv))) :
  fA (RD.pgName 0) RD.pTrue (RD.pTup (RD.pCons (RD.pVar 0) (RD.pCons (RD.pOp d5 (RD.pVar 1) (RD.pVar 0)) RD.pNil))) Q ((gA (kv.map (·.1))).map PV.int) [] [e1,some (sR kv)]:=by
 refine gC (λx=>match x with | .int m=>some (uP (m,(bZ kv m).getD 0)) | _=>none) (λenv=>∃ t,env = [t,some (sR kv)]) ⟨e1,rfl⟩ ?_ ?_
 ·rintro x env N hx ⟨t,rfl⟩ hN
  obtain ⟨m,hm,rfl⟩:=List.mem_map.mp hx
  obtain ⟨v,e,hv⟩:=mL ((bF _).mem_iff.mp hm)
  have hN:=hN [some (.int m),some (sR kv)] ⟨_,rfl⟩
  dsimp only at hN
  rw [e] at hN
  walk_at "w"
  show d5 (sR kv) (.int m) _
  unfold d5 sR
  dsimp only
  rw [pR,e]
  exact hN
 ·rw [List.nil_append]
  have:((gA (kv.map (·.1))).map PV.int).filterMap (λx=>match x with | .int m=>some (uP (m,(bZ kv m).getD 0)) | _=>none) = (gB kv).map uP:=by
   unfold gB
   generalize gA (kv.map (·.1)) = ms
   rw [List.filterMap_map,List.map_map,<- List.filterMap_eq_map];rfl
  rw [this];exact q
theorem lT {kv:List Pr} {Q:PV -> Prop} (hl:kv.length < 64) (q:Q (.lst ((gA (kv.map (·.1))).map PV.int))):gF [sR kv] Q:=by
 unfold gF sR
 dsimp only
 have:kv.map (λp=>(.inl p.1:b9)) = (kv.map (·.1)).map Sum.inl:=by rw [List.map_map];rfl
 rw [this,FT]
 exact ⟨by rw [a0c];exact hl,q⟩
structure PcOk (m v:Int):Prop where
 m0:-1000000000000 <= m
 m1:m < 1000000000000
 v0:1 <= v
 v1:v <= 1000000000000
theorem EZ {bk:List Sr} {n:Nat} {R:PV -> Prop} (hb:BkOk bk n) (hl:bk.length <= 100) (q:∀ pp,PpOk pp PcOk 5 -> R (dY pp)):fQ [.st,gJ bk] R:=by
  unfold fQ
  walk_at "w"
  refine ⟨⟨by decide,by decide,by decide⟩,?_⟩
  walk_at "w"
  refine ⟨⟨by decide,by decide,by decide⟩,?_⟩
  walk_at "w"
  refine cL (λi env=>∃ (ms:List Int) (t3 t4 t5 t6:Option PV),env = [some .st,some (gJ bk),some (g8 ms),t3,t4,t5,t6,none,none,none] /\ ms.length = 4 + 2 * i /\ ∀ m ∈ ms,-1000000000000 <= m /\ m < 1000000000000)
    ⟨[0,1,-(10 ^ (12:Int).toNat),10 ^ (12:Int).toNat - 1],none,none,none,none,rfl,rfl,λm hm=>by
      simp only [List.mem_cons,List.not_mem_nil,or_false] at hm
      rcases hm with rfl | rfl | rfl | rfl <;> decide⟩ ?_ ?_
  · rintro i x env N hx ⟨ms,t3,t4,t5,t6,rfl,hml,hms⟩ hN
    rw [a0h,Option.map_eq_some_iff] at hx
    obtain ⟨s,hs,rfl⟩:=hx
    have so:=hb.at_ _ _ hs
    have hi:=(a0i.mp hs).1
    show RD.pgTup 4 _ (.tup [.str s.nm,.int s.b,.int s.e,.int s.w]) _ _
    walk_at "w"
    refine ⟨rfl,?_⟩
    walk_at "w"
    refine ⟨b8 (by simp;omega),?_⟩
    refine hN _ ⟨ms ++ [s.b,s.e - 1],some (.str s.nm),some (.int s.b),some (.int s.e),some (.int s.w),by simp,by simp;omega,λm hm=>?_⟩
    have:=so.lt
    have:=so.b0
    have:=so.e1
    rcases List.mem_append.mp hm with z | z
    · exact hms m z
    · simp at z;omega
  · rintro env ⟨ms,t3,t4,t5,t6,rfl,hml,hms⟩
    rw [a0c] at hml
    walk_at "w"
    refine ⟨by decide,by decide,λr r0 r1=>?_⟩
    walk_at "w"
    refine ⟨by omega,by omega,?_⟩
    refine cL (λi env=>∃ (kv:List Pr) (t8 t9:Option PV),env = [some .st,some (gJ bk),some (g8 ms),t3,t4,t5,t6,some (sR kv),t8,t9] /\ KvOk kv PcOk i) ⟨[],none,none,rfl,.nil⟩ ?_ ?_
    · rintro i x env N hx ⟨kv,t8,t9,rfl,hk⟩ hN
      obtain ⟨rfl,hi⟩:=eO hx
      have hkl:=hk.len
      walk_at "w"
      refine ⟨by rw [a0c];omega,by rw [a0c];omega,λr2 r20 r21=>?_⟩
      rw [a0c] at r21
      refine iE (P:=λm=>-1000000000000 <= m /\ m < 1000000000000) r20 r21 hms λm hm=>?_
      walk_at "w"
      refine ⟨⟨by decide,by decide,by decide⟩,?_⟩
      walk_at "w"
      refine ⟨by decide,by decide,λr3 r30 r31=>?_⟩
      walk_at "w"
      refine iE (ns:=[3,10,60,10 ^ (12:Int).toNat]) (P:=λx=>0 < x /\ x <= 1000000000000) r30 r31 (JO (by omega) (by omega) (by omega) (by decide)) λtop htop=>?_
      walk_at "w"
      refine ⟨by omega, by have : (1000000000000 : Int) < 2 ^ 250 := by decide
                           omega,λr4 r40 r41=>?_⟩
      walk_at "w"
      refine ⟨by rw [a0c];omega,?_⟩
      rw [pX]
      exact hN _ ⟨_,_,_,rfl,hk.put ⟨hm.1,hm.2,by omega,by omega⟩⟩
    · rintro env ⟨kv,t8,t9,rfl,hk⟩
      rw [bM] at hk
      have hkl:=hk.len
      walk_at "w"
      refine lT (by omega) ?_
      walk_at "w"
      refine ⟨b8 (by rw [a0c,(bF _).length_eq,a0c];omega),?_⟩
      refine uA ?_
      have so:=hk.sort
      exact q _ ⟨so.lt,so.at_,by have:=so.len;omega⟩
def d4 (s:Sr) (pp:List Pr):Int:=((pp.filter λp=>aI s p.1).map (·.2)).sum
def c9 (s:Sr) (pp:List Pr):Int:=max 0 (s.w - d4 s pp)
def d7 (bk:List Sr) (pp:List Pr):Int:=(bk.map λs=>c9 s pp).sum
theorem JF {s:Sr} {pp:List Pr}:(pp.map uP).filterMap (λx=>match x with | .tup [.int m,.int v]=>if aI s m then some (PV.int v) else none | _=>none) = ((pp.filter λp=>aI s p.1).map (·.2)).map PV.int:=by
 rw [List.filterMap_map,List.map_map,<- List.filterMap_eq_map,List.filterMap_filter]
 rfl
theorem o6 {s:Sr} {pp:List Pr} {R:PV -> Prop} (hl:pp.length <= 1000) (q:R (.int (d4 s pp))):dJ [lI s,dY pp] R:=by
 unfold dJ
 walk_at "w"
 refine ⟨b8 (by rw [a0c];omega),?_⟩
 refine gC (λx=>match x with | .tup [.int m,.int v]=>if aI s m then some (PV.int v) else none | _=>none) (λenv=>∃ t1 t2,env = [t1,t2,some (lI s)]) ⟨_,_,rfl⟩ ?_ ?_
 ·rintro x env N hx ⟨t1,t2,rfl⟩ hN
  obtain ⟨⟨m,v⟩,hp,rfl⟩:=List.mem_map.mp hx
  have hN:=hN [some (.int m),some (.int v),some (lI s)] ⟨_,_,rfl⟩
  unfold uP at hN
  dsimp only at hN
  show RD.pgTup 2 _ (.tup [.int m,.int v]) _ _
  walk_at "w"
  refine ⟨rfl,?_⟩
  walk_at "w"
  refine o4 ?_
  walk_at "w"
  refine WX (λh=>?_) (λh=>?_)
  ·rw [if_pos h] at hN;exact hN
  ·rw [if_neg (by rw [h];exact a0k)] at hN;exact hN
 ·rw [List.nil_append,JF]
  exact wH q
theorem o5 {s:Sr} {pp:List Pr} {R:PV -> Prop} (hl:pp.length <= 1000) (q:R (.int (c9 s pp))):dI [lI s,dY pp] R:=by
 unfold dI
 have e:dM (lI s) (.int 3) = λQ=>dM (lI s) (.int 3) Q:=rfl
 walk_at "w"
 refine e7 (xs:=[.str s.nm,.int s.b,.int s.e,.int s.w]) vK ?_
 walk_at "w"
 refine o6 hl ?_
 exact q
theorem B1 {bk:List Sr} {pp:List Pr} {R:PV -> Prop} (hb:bk.length <= 1000) (hl:pp.length <= 1000) (q:R (.int (d7 bk pp))):eL [gJ bk,dY pp] R:=by
 unfold eL
 walk_at "w"
 refine ⟨b8 (by rw [a0c];omega),?_⟩
 refine eP (λi acc env=>acc = ((bk.take i).map λs=>c9 s pp).map PV.int /\ ∃ t,env = [t,some (dY pp)]) ⟨rfl,_,rfl⟩ ?_ ?_
 ·rintro i x acc env N hx ⟨rfl,t,rfl⟩ hN
  rw [a0h,Option.map_eq_some_iff] at hx
  obtain ⟨s,hs,rfl⟩:=hx
  walk_at "w"
  refine o5 hl ?_
  refine hN _ _ ⟨?_,_,rfl⟩
  rw [List.take_add_one,hs];simp
 ·rintro acc env ⟨rfl,t,rfl⟩
  rw [a0c,List.take_length]
  exact wH q
theorem Crowd.le_of {ss:List Sr} {G:Nat} {f:Option Int} (h:Crowd ss G f) {b:Nat} (hb:∀ m,aO ss m <= b):G <= b:=by
 cases f with
 | none=>rw [h.non rfl];omega
 | some m=>rw [<- (h.fst m rfl).1];exact hb m
theorem FY {ms:List Int} {P:Int -> Prop} [DecidablePred P]:(∀ x ∈ ms,¬ P x) \/ ∃ x ∈ ms,P x /\ ∀ y ∈ ms,P y -> y <= x:=by
 induction ms with
 | nil=>exact .inl λx hx=>(by cases hx)
 | cons a ms ih =>
  by_cases ha:P a
  ·rcases ih with h | ⟨x,hx,px,top⟩
   ·refine .inr ⟨a,a0m,ha,λy hy py=>?_⟩
    rcases List.mem_cons.mp hy with z | z
    ·omega
    ·exact absurd py (h y z)
   ·by_cases hax:a <= x
    ·refine .inr ⟨x,a0j _ hx,px,λy hy py=>?_⟩
     rcases List.mem_cons.mp hy with z | z
     ·omega
     ·exact top y z py
    ·refine .inr ⟨a,a0m,ha,λy hy py=>?_⟩
     rcases List.mem_cons.mp hy with z | z
     ·omega
     ·have:=top y z py;omega
  ·rcases ih with h | ⟨x,hx,px,top⟩
   ·refine .inl λy hy=>?_
    rcases List.mem_cons.mp hy with z | z
    ·rw [z];exact ha
    ·exact h y z
   ·refine .inr ⟨x,a0j _ hx,px,λy hy py=>?_⟩
    rcases List.mem_cons.mp hy with z | z
    ·rw [z] at py;exact absurd py ha
    ·exact top y z py
theorem m8 (ss:List Sr):∀ pp:List Pr,(ss.map λs=>d4 s pp).sum = (pp.map λp=>p.2 * (aO ss p.1:Int)).sum
 | []=>by
  have:∀ s,d4 s [] = 0:=λs=>rfl
  simp only [this,List.map_nil,List.sum_nil]
  induction ss with
  | nil=>rfl
  | cons a l ih=>rw [a0f,List.sum_cons,ih];rfl
 | p :: pp=>by
  have ih:=m8 ss pp
  rw [a0f,List.sum_cons,<- ih]
  clear ih
  induction ss with
  | nil=>simp [aO]
  | cons s ss ih =>
   rw [a0f,List.sum_cons,a0f,List.sum_cons,ih]
   unfold aO d4
   rw [List.countP_cons,List.filter_cons]
   by_cases h:aI s p.1 = true
   ·rw [if_pos h,if_pos h,a0f,List.sum_cons]
    rw [show ((List.countP (λs=>aI s p.1) ss + 1:Nat):Int) = (List.countP (λs=>aI s p.1) ss:Int) + 1 by omega,Int.mul_add]
    omega
   ·rw [if_neg h,if_neg h,Nat.add_zero]
    omega
theorem E3 (s:Sr) (pp:List Pr):0 <= c9 s pp:=by unfold c9;omega
theorem j9 {bk:List Sr} {pp:List Pr}:∀ (n:Nat) (ks:List Int),SmOk ks n -> n <= bk.length -> ((aP bk ks).map λs=>c9 s pp).sum <= ((bk.take n).map λs=>c9 s pp).sum
 | 0,ks,h,_=>by
  have:ks = []:=List.length_eq_zero_iff.mp (by have:=h.len;omega)
  subst this;simp [aP]
 | n + 1,ks,h,hn=>by
  have es:bk[n]? = some (eZ bk n):=by unfold eZ;rw [Int.toNat_natCast,a0b (by omega)];rfl
  rw [List.take_add_one,es,List.map_append,List.sum_append]
  rcases List.eq_nil_or_concat ks with z | ⟨l,k,z⟩
  ·subst z
   have:=j9 (bk:=bk) (pp:=pp) n [] ⟨.nil,by simp⟩ (by omega)
   have:=E3 (eZ bk n) pp
   simp [aP] at *
   omega
  ·rw [List.concat_eq_append] at z
   subst z
   have hp:=List.pairwise_append.mp h.lt
   have hk:=h.at_ k (by simp)
   have lt:∀ j ∈ l,j < k:=λj hj=>hp.2.2 j hj k (by simp)
   by_cases e:k = n
   ·subst e
    have:=j9 (bk:=bk) (pp:=pp) n l ⟨hp.1,λj hj=>⟨(h.at_ j (by simp [hj])).1,lt j hj⟩⟩ (by omega)
    simp [aP] at *
    omega
   ·have:=j9 (bk:=bk) (pp:=pp) n (l ++ [k]) ⟨h.lt,λj hj=>⟨(h.at_ j hj).1,by
     rcases List.mem_append.mp hj with z | z
     ·have:=lt j z;omega
     ·simp at z;omega⟩⟩ (by omega)
    have:=E3 (eZ bk n) pp
    simp [aP] at *
    omega
theorem ZM (ss:List Sr) (pp:List Pr):jS ss <= (ss.map λs=>d4 s pp).sum + (ss.map λs=>c9 s pp).sum:=by
 unfold jS
 induction ss with
 | nil=>simp
 | cons s ss ih =>
  rw [a0f,List.sum_cons,a0f,List.sum_cons,a0f,List.sum_cons]
  have:s.w <= d4 s pp + c9 s pp:=by unfold c9;omega
  omega
def bL (bk:List Sr) (b:Int) (pp:List Pr):Int:=(pp.map (·.2)).sum * b + d7 bk pp
theorem yU {bk:List Sr} {b:Int} {pp:List Pr} {ks:List Int} (hk:SmOk ks bk.length) (h:∀ m,(aO (aP bk ks) m:Int) <= b) (hp:∀ p ∈ pp,0 <= p.2):jS (aP bk ks) <= bL bk b pp:=by
 have h1:=ZM (aP bk ks) pp
 rw [m8] at h1
 have h2:=j9 (bk:=bk) (pp:=pp) bk.length ks hk (Nat.le_refl _)
 rw [List.take_length] at h2
 have h3:(pp.map λp=>p.2 * (aO (aP bk ks) p.1:Int)).sum <= (pp.map (·.2)).sum * b:=by
  clear h1 h2
  induction pp with
  | nil=>simp
  | cons p pp ih =>
   rw [a0f,List.sum_cons,a0f,List.sum_cons,Int.add_mul]
   have a1:=ih λq hq=>hp q (a0j _ hq)
   have a2:=Int.mul_le_mul_of_nonneg_left (h p.1) (hp p a0m)
   omega
 unfold bL d7
 omega
theorem xY {pp:List Pr} {R:PV -> Prop} (hl:pp.length <= 1000) (q:R (.int (pp.map (·.2)).sum)):dH [dY pp] R:=by
 unfold dH
 walk_at "w"
 refine ⟨b8 (by rw [a0c];omega),?_⟩
 refine eP (λi acc env=>acc = ((pp.take i).map (·.2)).map PV.int /\ ∃ t1 t2,env = [t1,t2]) ⟨rfl,_,_,rfl⟩ ?_ ?_
 ·rintro i x acc env N hx ⟨rfl,t1,t2,rfl⟩ hN
  rw [a0h,Option.map_eq_some_iff] at hx
  obtain ⟨⟨m,v⟩,hp,rfl⟩:=hx
  show RD.pgTup 2 _ (.tup [.int m,.int v]) _ _
  walk_at "w"
  refine ⟨rfl,?_⟩
  walk_at "w"
  refine hN _ _ ⟨?_,_,_,rfl⟩
  rw [List.take_add_one,hp];simp
 ·rintro acc env ⟨rfl,t1,t2,rfl⟩
  rw [a0c,List.take_length]
  walk_at "w"
  exact wH q
theorem pQ {bk:List Sr} {b:Int} {pp:List Pr} {R:PV -> Prop} (hb:bk.length <= 1000) (hl:pp.length <= 1000) (hp:∀ p ∈ pp,0 <= p.2) (b0:0 <= b) (b1:b <= 1000) (q:R (.int (bL bk b pp))):fH [gJ bk,.int b,dY pp] R:=by
 unfold fH
 walk_at "w"
 refine xY hl ?_
 walk_at "w"
 refine ⟨.inr ⟨by omega,by omega⟩,?_⟩
 walk_at "w"
 refine B1 hb hl ?_
 exact q
theorem O1 {bk:List Sr} {Q:PV -> Prop} {e1:Option PV} {j:Int} {g:Sr -> Int} (hj:∀ (s:Sr) (R:PV -> Prop),R (.int (g s)) -> dM (lI s) (.int j) R) (q:Q (g8 (bk.map g))) :
  fA (RD.pgName 0) RD.pTrue (RD.pOp dM (RD.pVar 0) (RD.pC (PV.int j))) Q (bk.map lI) [] [e1]:=by
 refine eP (λi acc env=>acc = ((bk.take i).map g).map PV.int /\ ∃ t,env = [t]) ⟨rfl,_,rfl⟩ ?_ ?_
 ·rintro i x acc env N hx ⟨rfl,t,rfl⟩ hN
  rw [a0h,Option.map_eq_some_iff] at hx
  obtain ⟨s,hs,rfl⟩:=hx
  walk_at "w"
  refine hj _ _ ?_
  refine hN _ _ ⟨?_,_,rfl⟩
  rw [List.take_add_one,hs];simp
 ·rintro acc env ⟨rfl,t,rfl⟩
  rw [a0c,List.take_length];exact q
def gG (P:Int -> Bool) (l:List Pr):Int:=((l.filter λp=>P p.1).map (·.2)).sum
theorem bH (P:Int -> Bool) (p:Pr) (l:List Pr):gG P (p :: l) = (if P p.1 then p.2 else 0) + gG P l:=by
 unfold gG
 rw [List.filter_cons]
 split
 ·rw [a0f,List.sum_cons]
 ·omega
theorem KB (P:Int -> Bool) (a b:List Pr):gG P (a ++ b) = gG P a + gG P b:=by
 induction a with
 | nil=>rw [List.nil_append];show _ = 0 + _;omega
 | cons p a ih=>rw [List.cons_append,bH,bH,ih];omega
theorem kW (P:Int -> Bool) {a b:List Pr} (h:a.Perm b):gG P a = gG P b:=by
 induction h with
 | nil=>rfl
 | cons x _ ih=>rw [bH,bH,ih]
 | swap x y l=>rw [bH,bH,bH,bH];omega
 | trans _ _ h1 h2=>rw [h1,h2]
theorem rO (P:Int -> Bool) {m v:Int}:∀ {kv:List Pr},(kv.map (·.1)).Nodup -> gG P (j4 kv m ((bZ kv m).getD 0 + v)) = gG P kv + if P m then v else 0:=by
 intro kv
 induction kv with
 | nil =>
  intro _
  rw [show j4 [] m ((bZ [] m).getD 0 + v) = [(m,0 + v)] from rfl,bH,show gG P [] = 0 from rfl]
  dsimp only
  split <;> omega
 | cons p kv ih =>
  intro hn
  rw [a0f,List.nodup_cons] at hn
  by_cases h:p.1 = m
  ·have hk:bZ (p :: kv) m = some p.2:=by unfold bZ;rw [List.find?_cons,decide_eq_true h];rfl
   have e1:j4 (p :: kv) m ((bZ (p :: kv) m).getD 0 + v) = (p.1,p.2 + v) :: kv:=by
    unfold j4
    rw [if_pos (by rw [List.any_cons,decide_eq_true h];rfl),hk,a0f,if_pos h]
    congr 1
    have:∀ q ∈ kv,(if q.1 = m then (q.1,(some p.2).getD 0 + v) else q) = q:=λq hq=>if_neg λz=>hn.1 (List.mem_map.mpr ⟨q,hq,by rw [z,h]⟩)
    exact (List.map_congr_left this).trans (List.map_id' kv)
   rw [e1,bH,bH]
   dsimp only
   rw [h]
   split <;> omega
  ·have hk:bZ (p :: kv) m = bZ kv m:=by unfold bZ;rw [List.find?_cons,decide_eq_false h]
   have e1:j4 (p :: kv) m ((bZ kv m).getD 0 + v) = p :: j4 kv m ((bZ kv m).getD 0 + v):=by
    unfold j4
    rw [List.any_cons,decide_eq_false h,Bool.false_or]
    split
    ·rw [a0f,if_neg h]
    ·rfl
   rw [hk,e1,bH,bH,ih hn.2];omega
theorem U1:∀ {kv:List Pr},(kv.map (·.1)).Nodup -> ((kv.map (·.1)).map λm=>(m,(bZ kv m).getD 0)) = kv:=by
 intro kv hn
 rw [List.map_map]
 refine (List.map_congr_left λp hp=>?_).trans (List.map_id' kv)
 show (p.1,(bZ kv p.1).getD 0) = p
 have:bZ kv p.1 = some p.2:=by
  induction kv with
  | nil=>cases hp
  | cons q kv ih =>
   rw [a0f,List.nodup_cons] at hn
   unfold bZ
   rw [List.find?_cons]
   by_cases e:q.1 = p.1
   ·rw [decide_eq_true e]
    rcases List.mem_cons.mp hp with z | z
    ·rw [z];rfl
    ·exact absurd (List.mem_map.mpr ⟨p,z,e.symm⟩) hn.1
   ·rw [decide_eq_false e]
    rcases List.mem_cons.mp hp with z | z
    ·exact absurd (by rw [z]) e
    ·exact ih hn.2 z
 rw [this];rfl
theorem uQ (P:Int -> Bool) {kv:List Pr} (hn:(kv.map (·.1)).Nodup):gG P (gB kv) = gG P kv:=by
 refine kW P ?_
 have h:(gB kv).Perm ((kv.map (·.1)).map λm=>(m,(bZ kv m).getD 0)):=(bF _).map _
 rw [U1 hn] at h
 exact h
theorem zA {kv:List Pr} {m d:Int} {Q:PV -> Prop} (q:Q (.int ((bZ kv m).getD d))):qY (sR kv) [.int m,.int d] Q:=by
 show Q ((yB (kv.map λp=>(.inl p.1:b9)) (kv.map λp=>PV.int p.2) (.inl m)).getD (.int d))
 rw [pR]
 cases e:bZ kv m with
 | none=>rw [e] at q;exact q
 | some z=>rw [e] at q;exact q
theorem iG (pp:List Pr):gG (λ_=>true) pp = (pp.map (·.2)).sum:=by
 unfold gG
 rw [List.filter_eq_self.mpr λ_ _=>rfl]
theorem kX (s:Sr) (pp:List Pr):gG (λm=>aI s m) pp = d4 s pp:=rfl
theorem JY {pp:List Pr} {Q:PV -> Prop} (nd:(pp.map (·.1)).Nodup) (hl:pp.length <= 1000) (q:Q (sR pp)):qZ [dY pp] Q:=by
 unfold qZ
 refine ⟨pp.map λp=>(.inl p.1,.int p.2),?_,?_,by rw [a0c];exact hl,?_⟩
 ·rw [List.map_map];rfl
 ·rw [List.map_map]
  have:pp.map ((λp:b9 × PV=>p.1) ∘ λp=>((.inl p.1:b9),PV.int p.2)) = (pp.map (·.1)).map Sum.inl:=by rw [List.map_map];rfl
  rw [this]
  exact List.Pairwise.map _ (λa b h z=>h (by injection z)) nd
 ·rw [List.map_map,List.map_map];exact q
theorem DF {kv:List Pr} {P:Int -> Int -> Prop} {n:Nat} (h:KvOk kv P n) {m:Int}:bZ kv m = none \/ ∃ v,bZ kv m = some v /\ P m v:=by
 by_cases hm:m ∈ kv.map (·.1)
 ·obtain ⟨v,e,hv⟩:=mL hm
  exact .inr ⟨v,e,h.at_ _ hv⟩
 ·refine .inl ?_
  unfold bZ
  rw [List.find?_eq_none.mpr]
  ·rfl
  ·intro p hp z
   rw [decide_eq_true_iff] at z
   exact hm (List.mem_map.mpr ⟨p,hp,z⟩)
theorem PpOk.kv {pp:List Pr} {P:Int -> Int -> Prop} {n:Nat} (h:PpOk pp P n):KvOk pp P n:=⟨by
 rw [List.nodup_iff_pairwise_ne,List.pairwise_map]
 exact h.lt.imp λh=>by omega,h.at_,h.len⟩
theorem U6 {pp:List Pr} {Q:PV -> Prop} {e1 e2:Option PV} (q:Q (g8 (pp.map (·.2)))) :
  fA (RD.pgTup 2 (RD.pgCons (RD.pgName 0) (RD.pgCons (RD.pgName 1) RD.pgNil))) RD.pTrue (RD.pVar 1) Q (pp.map uP) [] [e1,e2]:=by
 refine eP (λi acc env=>acc = ((pp.take i).map (·.2)).map PV.int /\ ∃ t1 t2,env = [t1,t2]) ⟨rfl,_,_,rfl⟩ ?_ ?_
 ·rintro i x acc env N hx ⟨rfl,t1,t2,rfl⟩ hN
  rw [a0h,Option.map_eq_some_iff] at hx
  obtain ⟨⟨m,v⟩,hp,rfl⟩:=hx
  show RD.pgTup 2 _ (.tup [.int m,.int v]) _ _
  walk_at "w"
  refine ⟨rfl,?_⟩
  walk_at "w"
  refine hN _ _ ⟨?_,_,_,rfl⟩
  rw [List.take_add_one,hp];simp
 ·rintro acc env ⟨rfl,t1,t2,rfl⟩
  rw [a0c,List.take_length];exact q
structure Rd where
 u:Nat
 v:Nat
 g:Int
 k:Option Int
 deriving DecidableEq
abbrev Gs:=List (Option Int)
abbrev Ls:=List (Option Rd)
def gt {α:Type} (l:List (Option α)) (v:Nat):Option α:=l.getD v none
theorem qR {α:Type} {l:List (Option α)} {v w:Nat} {x:Option α} (hv:v < l.length):gt (l.set v x) w = if w = v then x else gt l w:=by
 unfold gt
 rw [a0g,a0g,List.getElem?_set]
 by_cases h:w = v
 ·subst h;simp [hv]
 ·have h':¬ v = w:=λz=>h z.symm
  simp [h,h']
def pA (φ:Nat -> Int) (rs:List Rd):Prop:=∀ r ∈ rs,φ r.u + r.g <= φ r.v
inductive Ch (ls:Ls) (st:Nat):Nat -> Nat -> Prop where
 | base:Ch ls st 0 st
 | step {k v:Nat} {r:Rd}:gt ls v = some r -> Ch ls st k r.u -> Ch ls st (k + 1) v
def B6 (gs:Gs):Nat:=gs.countP Option.isSome
structure GI (φ:Nat -> Int) (rs:List Rd) (n st:Nat) (Gm:Int) (gs:Gs) (ls:Ls):Prop where
 lg:gs.length = n
 ll:ls.length = n
 st0:gt gs st = some 0
 stl:gt ls st = none
 ub:∀ v b,gt gs v = some b -> b <= φ v - φ st
 lb:∀ v b,gt gs v = some b -> -((B6 gs:Int) * Gm) <= b
 las:∀ v r,gt ls v = some r -> r ∈ rs /\ r.v = v /\ ∃ a b,gt gs r.u = some a /\ gt gs v = some b /\ b <= a + r.g
 has:∀ v b,gt gs v = some b -> v = st \/ ∃ r,gt ls v = some r
 ch:∀ v b,gt gs v = some b -> ∃ k,Ch ls st k v
section
variable {φ:Nat -> Int} {rs:List Rd} {n st:Nat} {Gm:Int} {gs:Gs} {ls:Ls}
structure Bet (gs:Gs) (r:Rd) (a:Int):Prop where
 fr:gt gs r.u = some a
 up:∀ b,gt gs r.v = some b -> b < a + r.g
theorem XB (h:GI φ rs n st Gm gs ls) (hF:pA φ rs) {v:Nat} {x:Option Rd} (hv:v < n) (hvs:v ≠ st):∀ (k u:Nat) (a:Int),Ch ls st k u -> gt gs u = some a -> Ch (ls.set v x) st k u \/ ∃ b,gt gs v = some b /\ a <= b + φ u - φ v:=by
 intro k
 induction k with
 | zero =>
  intro u a hc ha
  cases hc
  exact .inl .base
 | succ k ih =>
  intro u a hc ha
  cases hc with
  | step e c =>
   rename_i r
   by_cases huv:u = v
   ·subst huv
    exact .inr ⟨a,ha,by omega⟩
   ·obtain ⟨hr,hrv,a',b',e1,e2,e3⟩:=h.las u r e
    rw [ha] at e2
    cases e2
    rcases ih r.u a' c e1 with z | ⟨b,z1,z2⟩
    ·refine .inl (.step (r:=r) ?_ z)
     rw [qR (by rw [h.ll];exact hv),if_neg huv];exact e
    ·have:=hF r hr
     rw [hrv] at this
     exact .inr ⟨b,z1,by omega⟩
theorem GI.step (h:GI φ rs n st Gm gs ls) (hF:pA φ rs) (hG:∀ r ∈ rs,-Gm <= r.g) (G0:0 <= Gm) {r:Rd} {a:Int} (hr:r ∈ rs) (hb:Bet gs r a) (hu:r.u < n) (hv:r.v < n):GI φ rs n st Gm (gs.set r.v (some (a + r.g))) (ls.set r.v (some r)):=by
 have fr:=hF r hr
 have ua:=h.ub r.u a hb.fr
 have hvs:r.v ≠ st:=λz=>by
  have:=hb.up 0 (by rw [z];exact h.st0)
  rw [z] at fr
  omega
 have huv:r.u ≠ r.v:=λz=>by
  have:=hb.up a (by rw [<- z];exact hb.fr)
  rw [z] at fr
  omega
 have gg:∀ w,gt (gs.set r.v (some (a + r.g))) w = if w = r.v then some (a + r.g) else gt gs w:=λw=>qR (by rw [h.lg];exact hv)
 have gl:∀ w,gt (ls.set r.v (some r)) w = if w = r.v then some r else gt ls w:=λw=>qR (by rw [h.ll];exact hv)
 have hc1:B6 gs <= B6 (gs.set r.v (some (a + r.g))) /\ (gt gs r.v = none -> B6 (gs.set r.v (some (a + r.g))) = B6 gs + 1):=by
  unfold B6
  rw [List.countP_set (by rw [h.lg];exact hv)]
  have e:gt gs r.v = gs[r.v]'(by rw [h.lg];exact hv):=by
   unfold gt
   rw [a0g,a0b (by rw [h.lg];exact hv)];rfl
  have pos:(gs[r.v]'(by rw [h.lg];exact hv)).isSome = true -> 0 < gs.countP Option.isSome:=λz=>List.countP_pos_iff.mpr ⟨_,List.getElem_mem _,z⟩
  constructor
  ·split
   ·rename_i z
    have:=pos z
    simp;omega
   ·simp
  ·intro z
   rw [e] at z
   rw [z];simp
 have mul1:-((B6 (gs.set r.v (some (a + r.g))):Int) * Gm) <= -((B6 gs:Int) * Gm):=by
  have:(B6 gs:Int) * Gm <= (B6 (gs.set r.v (some (a + r.g))):Int) * Gm:=Int.mul_le_mul_of_nonneg_right (by exact_mod_cast hc1.1) G0
  omega
 have chu:∃ k,Ch (ls.set r.v (some r)) st k r.u:=by
  obtain ⟨k,hk⟩:=h.ch r.u a hb.fr
  rcases XB h hF (x:=some r) hv hvs k r.u a hk hb.fr with z | ⟨b,z1,z2⟩
  ·exact ⟨k,z⟩
  ·have:=hb.up b z1
   omega
 have chv:∃ k,Ch (ls.set r.v (some r)) st k r.v:=by
  obtain ⟨k,hk⟩:=chu
  exact ⟨k + 1,.step (by rw [gl,if_pos rfl]) hk⟩
 have chall:∀ k w,Ch ls st k w -> ∃ k',Ch (ls.set r.v (some r)) st k' w:=by
  intro k
  induction k with
  | zero=>intro w hw;cases hw;exact ⟨0,.base⟩
  | succ k ih =>
   intro w hw
   cases hw with
   | step e c =>
    by_cases z:w = r.v
    ·rw [z];exact chv
    ·obtain ⟨k',hk'⟩:=ih _ c
     exact ⟨k' + 1,.step (by rw [gl,if_neg z];exact e) hk'⟩
 refine ⟨by simp [h.lg],by simp [h.ll],by rw [gg,if_neg (Ne.symm hvs)];exact h.st0,by rw [gl,if_neg (Ne.symm hvs)];exact h.stl,λw b hw=>?_,λw b hw=>?_,λw r' hw=>?_,λw b hw=>?_,λw b hw=>?_⟩
 ·rw [gg] at hw
  split at hw
  ·rename_i z;cases hw;rw [z];omega
  ·exact h.ub w b hw
 ·rw [gg] at hw
  split at hw
  ·cases hw
   cases hgv:gt gs r.v with
   | some b' =>
    have:=h.lb r.v b' hgv
    have:=hb.up b' hgv
    omega
   | none =>
    rw [hc1.2 hgv]
    have:=h.lb r.u a hb.fr
    have:=hG r hr
    have e:((B6 gs + 1:Nat):Int) * Gm = (B6 gs:Int) * Gm + Gm:=by rw [Int.natCast_add,Int.add_mul];simp
    rw [e];omega
  ·have:=h.lb w b hw;omega
 ·rw [gl] at hw
  split at hw
  ·rename_i z
   cases hw
   exact ⟨hr,z.symm,a,a + r.g,by rw [gg,if_neg huv];exact hb.fr,by rw [gg,if_pos z],Int.le_refl _⟩
  ·rename_i z
   obtain ⟨h1,h2,a',b',e1,e2,e3⟩:=h.las w r' hw
   by_cases zu:r'.u = r.v
   ·have:=hb.up a' (by rw [<- zu];exact e1)
    exact ⟨h1,h2,a + r.g,b',by rw [gg,if_pos zu],by rw [gg,if_neg z];exact e2,by omega⟩
   ·exact ⟨h1,h2,a',b',by rw [gg,if_neg zu];exact e1,by rw [gg,if_neg z];exact e2,e3⟩
 ·by_cases z:w = r.v
  ·exact .inr ⟨r,by rw [gl,if_pos z]⟩
  ·rw [gg,if_neg z] at hw
   rcases h.has w b hw with y | ⟨r',y⟩
   ·exact .inl y
   ·exact .inr ⟨r',by rw [gl,if_neg z];exact y⟩
 ·by_cases z:w = r.v
  ·rw [z];exact chv
  ·rw [gg,if_neg z] at hw
   obtain ⟨k,hk⟩:=h.ch w b hw
   exact chall k w hk
def ZG (φ:Nat -> Int) (st:Nat) (C:Nat) (gs:Gs) (v:Nat):Nat:=match gt gs v with
 | none=>C
 | some b=>(φ v - φ st - b).toNat
def k9 (φ:Nat -> Int) (st C n:Nat) (gs:Gs):Nat:=((List.range n).map (ZG φ st C gs)).sum
theorem LK {α:Type} {f f':α -> Nat}:∀ {l:List α},(∀ a ∈ l,f' a <= f a) -> (∃ a ∈ l,f' a < f a) -> (l.map f').sum < (l.map f).sum
 | [],_,h=>by obtain ⟨a,ha,_⟩:=h;cases ha
 | x :: l,h1,h2=>by
  rw [a0f,List.sum_cons,a0f,List.sum_cons]
  have le:(l.map f').sum <= (l.map f).sum:=by
   clear h2
   induction l with
   | nil=>simp
   | cons y l ih =>
    rw [a0f,List.sum_cons,a0f,List.sum_cons]
    have:=h1 y (by simp)
    have:=ih λa ha=>h1 a (by
     rcases List.mem_cons.mp ha with z | z
     ·simp [z]
     ·simp [z])
    omega
  have hx:=h1 x a0m
  obtain ⟨a,ha,hlt⟩:=h2
  rcases List.mem_cons.mp ha with z | z
  ·subst z;omega
  ·have:=LK (l:=l) (λb hb=>h1 b (a0j _ hb)) ⟨a,z,hlt⟩
   omega
theorem O8 (h:GI φ rs n st Gm gs ls) (hF:pA φ rs) (hG:∀ r ∈ rs,-Gm <= r.g) (G0:0 <= Gm) {C:Nat} (hC:∀ v,v < n -> φ v - φ st + n * Gm < C) {r:Rd} {a:Int} (hr:r ∈ rs) (hb:Bet gs r a) (hu:r.u < n) (hv:r.v < n) :
  k9 φ st C n (gs.set r.v (some (a + r.g))) < k9 φ st C n gs:=by
 have h':=h.step hF hG G0 hr hb hu hv
 have gg:∀ w,gt (gs.set r.v (some (a + r.g))) w = if w = r.v then some (a + r.g) else gt gs w:=λw=>qR (by rw [h.lg];exact hv)
 have hcn:(B6 (gs.set r.v (some (a + r.g))):Int) * Gm <= n * Gm:=by
  refine Int.mul_le_mul_of_nonneg_right ?_ G0
  have:B6 (gs.set r.v (some (a + r.g))) <= (gs.set r.v (some (a + r.g))).length:=List.countP_le_length
  rw [List.length_set,h.lg] at this
  exact_mod_cast this
 have ub:=h'.ub r.v (a + r.g) (by rw [gg,if_pos rfl])
 have lb:=h'.lb r.v (a + r.g) (by rw [gg,if_pos rfl])
 have hlt:ZG φ st C (gs.set r.v (some (a + r.g))) r.v < ZG φ st C gs r.v:=by
  unfold ZG
  rw [gg,if_pos rfl]
  dsimp only
  cases hgv:gt gs r.v with
  | none =>
   dsimp only
   have:=hC r.v hv
   omega
  | some b =>
   dsimp only
   have:=hb.up b hgv
   omega
 refine LK (λw _=>?_) ⟨r.v,List.mem_range.mpr hv,hlt⟩
 by_cases z:w = r.v
 ·rw [z];exact Nat.le_of_lt hlt
 ·unfold ZG
  rw [gg,if_neg z]
  exact Nat.le_refl _
def QQ (gs:Gs) (rs:List Rd):Prop:=∀ r ∈ rs,∀ a,gt gs r.u = some a -> ∃ b,gt gs r.v = some b /\ a + r.g <= b
theorem N0 (hn:gt ls st = none):∀ {k k' v:Nat},Ch ls st k v -> Ch ls st k' v -> k = k':=by
 intro k
 induction k with
 | zero =>
  intro k' v h h'
  cases h
  cases h' with
  | base=>rfl
  | step e _=>rw [hn] at e;cases e
 | succ k ih =>
  intro k' v h h'
  cases h with
  | step e c =>
   cases h' with
   | base=>rw [hn] at e;cases e
   | step e' c'=>rw [e] at e';cases e';rw [ih c c']
inductive Way (ls:Ls) (st:Nat):Nat -> List Rd -> Prop where
 | base:Way ls st st []
 | step {v:Nat} {r:Rd} {p:List Rd}:gt ls v = some r -> Way ls st r.u p -> Way ls st v (r :: p)
theorem WW:∀ {k v:Nat},Ch ls st k v -> ∃ p,Way ls st v p /\ p.length = k:=by
 intro k
 induction k with
 | zero=>intro v h;cases h;exact ⟨[],.base,rfl⟩
 | succ k ih =>
  intro v h
  cases h with
  | step e c =>
   obtain ⟨p,hp,hl⟩:=ih c
   exact ⟨_ :: p,.step e hp,by simp [hl]⟩
theorem Way.ch {v:Nat} {p:List Rd} (h:Way ls st v p):Ch ls st p.length v:=by
 induction h with
 | base=>exact .base
 | step e _ ih=>exact .step e ih
end
def AH (r:Rd):PV:=.tup [.int (r.u:Nat),.int (r.v:Nat),.int r.g,gM r.k]
def MD:Option Rd -> PV
 | none=>.non
 | some r=>AH r
abbrev TL (gs:Gs):PV:=.lst (gs.map gM)
abbrev OA (ls:Ls):PV:=.lst (ls.map MD)
abbrev HF (rs:List Rd):PV:=.lst (rs.map AH)
theorem FJ (o:Option Int):(gM o).flat = true:=by cases o <;> rfl
theorem yH (r:Rd):(AH r).flat = true:=by
 unfold AH
 rw [PV.flat,PV.flats,PV.flats,PV.flats,PV.flats,PV.flats,FJ];rfl
theorem NS (x:Int) (r:Rd):(PV.tup [.int x,AH r]).flat = true:=by
 rw [PV.flat,PV.flats,PV.flats,PV.flats,yH];rfl
theorem R0 {gs:Gs} {v:Nat} (h:v < gs.length):jF (gs.map gM) (v:Int) = some (gM (gt gs v)):=by
 refine c6 (by omega) ?_
 rw [Int.toNat_natCast,a0h,a0b h]
 unfold gt
 rw [a0g,a0b h];rfl
theorem R9 {ls:Ls} {v:Nat} (h:v < ls.length):jF (ls.map MD) (v:Int) = some (MD (gt ls v)):=by
 refine c6 (by omega) ?_
 rw [Int.toNat_natCast,a0h,a0b h]
 unfold gt
 rw [a0g,a0b h];rfl
theorem xV:∀ rs:List Rd,∃ Gm:Int,0 <= Gm /\ ∀ r ∈ rs,-Gm <= r.g
 | []=>⟨0,Int.le_refl _,λr h=>by cases h⟩
 | r :: rs=>by
  obtain ⟨G,h0,h⟩:=xV rs
  refine ⟨max G (-r.g),by omega,λq hq=>?_⟩
  rcases List.mem_cons.mp hq with z | z
  ·subst z;omega
  ·have:=h q z;omega
theorem xU (f:Nat -> Int):∀ n:Nat,∃ C:Nat,∀ v,v < n -> f v < C
 | 0=>⟨0,λv h=>by omega⟩
 | n + 1=>by
  obtain ⟨C,h⟩:=xU f n
  refine ⟨max C ((f n).toNat + 1),λv hv=>?_⟩
  by_cases e:v = n
  ·subst e;omega
  ·have:=h v (by omega);omega
theorem vY {n v:Nat} (h:v < n):sN n (v:Int) = some v:=by
 unfold sN
 rw [if_pos (by omega),if_pos (by omega),Int.toNat_natCast]
theorem Z2 (n:Nat):(List.replicate (n:Int).toNat [PV.non]).flatten = (List.replicate n (none:Option Int)).map gM:=by
 rw [Int.toNat_natCast,List.map_replicate];simp [gM]
theorem Z4 (n:Nat):(List.replicate (n:Int).toNat [PV.non]).flatten = (List.replicate n (none:Option Rd)).map MD:=by
 rw [Int.toNat_natCast,List.map_replicate];simp [MD]
theorem BB {α:Type} {n v:Nat}:gt (List.replicate n (none:Option α)) v = none:=by
 unfold gt
 rw [a0g,List.getElem?_replicate]
 split <;> rfl
theorem map_set {α:Type} (f:α -> PV) (l:List α) (i:Nat) (x:α):(l.map f).set i (f x) = (l.set i x).map f:=by rw [List.map_set]
theorem J8 {φ:Nat -> Int} {rs:List Rd} {n st:Nat} {Gm:Int} (hst:st < n) (G0:0 <= Gm):GI φ rs n st Gm ((List.replicate n none).set st (some 0)) (List.replicate n none):=by
 have gg:∀ w,gt ((List.replicate n (none:Option Int)).set st (some 0)) w = if w = st then some 0 else none:=λw=>by rw [qR (by simpa using hst),BB]
 have one:∀ v b,gt ((List.replicate n (none:Option Int)).set st (some 0)) v = some b -> v = st /\ b = 0:=λv b h=>by
  rw [gg] at h
  split at h
  ·rename_i z;cases h;exact ⟨z,rfl⟩
  ·cases h
 refine ⟨by simp,by simp,by rw [gg,if_pos rfl],BB,λv b h=>?_,λv b h=>?_,λv r h=>?_,λv b h=>.inl (one v b h).1,λv b h=>?_⟩
 ·obtain ⟨rfl,rfl⟩:=one v b h;omega
 ·obtain ⟨rfl,rfl⟩:=one v b h
  have:0 <= (B6 ((List.replicate n (none:Option Int)).set v (some 0)):Int) * Gm:=Int.mul_nonneg (by omega) G0
  omega
 ·rw [BB] at h;cases h
 ·obtain ⟨rfl,rfl⟩:=one v b h;exact ⟨0,.base⟩
theorem o3 {rs:List Rd} {n st:Nat} {φ:Nat -> Int} {R:PV -> Prop} (hF:pA φ rs) (hrs:∀ r ∈ rs,r.u < n /\ r.v < n) (hst:st < n) (hn:n <= 100)
  (q:∀ gs ls Gm,GI φ rs n st Gm gs ls -> QQ gs rs -> R (.tup [TL gs,OA ls])):bO [HF rs,.int n,.int st] R:=by
 obtain ⟨Gm,G0,hG⟩:=xV rs
 obtain ⟨C,hC⟩:=xU (λv=>φ v - φ st + n * Gm) n
 unfold bO
 have h1000:n <= sizeLine:=b8 (by omega)
 walk_at "w"
 refine ⟨by omega,by omega,by simpa using h1000,?_⟩
 rw [Z2]
 walk_at "w"
 refine ⟨by omega,by omega,by simpa using h1000,?_⟩
 rw [Z4]
 walk_at "w"
 rw [show sN ((List.replicate n (none:Option Int)).map gM).length (st:Int) = some st from vY (by simpa using hst)]
 walk_at "w"
 rw [show ((List.replicate n (none:Option Int)).map gM).set st (PV.int 0) = ((List.replicate n (none:Option Int)).set st (some 0)).map gM from map_set gM _ st (some 0)]
 refine ⟨λm env=>∃ (gs:Gs) (ls:Ls) (bet:Bool) (t6 t7 t8 t9 t10:Option PV),env = [some (HF rs),some (.int n),some (.int st),some (TL gs),some (OA ls),some (.bl bet),t6,t7,t8,t9,t10] /\ GI φ rs n st Gm gs ls /\ (bet = true -> m = k9 φ st C n gs + 1) /\ (bet = false -> m = 0 /\ QQ gs rs),⟨_,_,_,true,none,none,none,none,none,rfl,J8 hst G0,λ_=>rfl,λz=>by cases z⟩,?_⟩
 rintro m env ⟨gs,ls,bet,t6,t7,t8,t9,t10,rfl,hI,hbt,hbf⟩
 walk_at "w"
 cases bet with
 | false =>
  walk_at "w"
  exact q gs ls Gm hI (hbf rfl).2
 | true =>
  have hm:=hbt rfl
  refine ⟨λenv'=>∃ (gs':Gs) (ls':Ls) (bet:Bool) (t6 t7 t8 t9 t10:Option PV),env' = [some (HF rs),some (.int n),some (.int st),some (TL gs'),some (OA ls'),some (.bl bet),t6,t7,t8,t9,t10] /\ GI φ rs n st Gm gs' ls' /\ (bet = true -> k9 φ st C n gs' < k9 φ st C n gs) /\ (bet = false -> QQ gs' rs),?_,?_⟩
  ·rintro env' ⟨gs',ls',bet',s6,s7,s8,s9,s10,rfl,hI',h1,h2⟩
   cases bet' with
   | true=>exact ⟨k9 φ st C n gs' + 1,by have:=h1 rfl;omega,gs',ls',true,_,_,_,_,_,rfl,hI',λ_=>rfl,λz=>by cases z⟩
   | false=>exact ⟨0,by omega,gs',ls',false,_,_,_,_,_,rfl,hI',(λz=>by cases z),λ_=>⟨rfl,h2 rfl⟩⟩
  walk_at "w"
  refine cL (λi env=>∃ (gs':Gs) (ls':Ls) (bet:Bool) (t6 t7 t8 t9 t10:Option PV),env = [some (HF rs),some (.int n),some (.int st),some (TL gs'),some (OA ls'),some (.bl bet),t6,t7,t8,t9,t10] /\ GI φ rs n st Gm gs' ls' /\ (bet = true -> k9 φ st C n gs' < k9 φ st C n gs) /\ (bet = false -> gs' = gs /\ QQ gs' (rs.take i))) ⟨gs,ls,false,_,_,_,_,_,rfl,hI,(λz=>by cases z),λ_=>⟨rfl,λr hr=>by simp at hr⟩⟩ ?_ ?_
  ·rintro i x env N hx ⟨gs',ls',bet,s6,s7,s8,s9,s10,rfl,hI',h1,h2⟩ hN
   rw [a0h,Option.map_eq_some_iff] at hx
   obtain ⟨r,hr,rfl⟩:=hx
   have hrm:=List.mem_of_getElem? hr
   obtain ⟨hu,hv⟩:=hrs r hrm
   have au:=R0 (gs:=gs') (v:=r.u) (by rw [hI'.lg];exact hu)
   have av:=R0 (gs:=gs') (v:=r.v) (by rw [hI'.lg];exact hv)
   have later:∀ bb:Option Int,gt gs' r.v = bb -> ∀ t6' t7' t8' t9' t10':Option PV,(∀ a,gt gs' r.u = some a -> ∃ b,bb = some b /\ a + r.g <= b) -> N [some (HF rs),some (.int n),some (.int st),some (TL gs'),some (OA ls'),some (.bl bet),t6',t7',t8',t9',t10']:=by
    intro bb hbb t6' t7' t8' t9' t10' hh
    refine hN _ ⟨gs',ls',bet,_,_,_,_,_,rfl,hI',h1,λz=>⟨(h2 z).1,λr' hr' a ha=>?_⟩⟩
    rw [List.take_add_one,hr] at hr'
    rcases List.mem_append.mp hr' with y | y
    ·exact (h2 z).2 r' y a ha
    ·simp at y
     subst y
     rw [hbb];exact hh a ha
   show RD.pgName 6 (.tup [.int (r.u:Nat),.int (r.v:Nat),.int r.g,gM r.k]) _ _
   walk_at "w"
   refine ⟨rfl,?_⟩
   walk_at "w"
   refine e6 au ?_
   cases hgu:gt gs' r.u with
   | none =>
    walk_at "w"
    exact later _ rfl _ _ _ _ _ λa ha=>by rw [hgu] at ha;cases ha
   | some a =>
    walk_at "w"
    refine e6 av ?_
    have better:Bet gs' r a -> RD.pSeq (RD.pPut2 3 4 (RD.pFlat (RD.pTup (RD.pCons (RD.pOp RD.pAddI (RD.pOp dM (RD.pVar 3) (RD.pVar 7)) (RD.pVar 9)) (RD.pCons (RD.pVar 6) RD.pNil)))) (RD.pVar 8) (RD.pVar 8)) (RD.pSeq (RD.pSet 5 (RD.pC (.bl true))) RD.pNext) { nx:=N,rt:=R } [some (HF rs),some (.int n),some (.int st),some (TL gs'),some (OA ls'),some (.bl bet),some (AH r),some (.int (r.u:Nat)),some (.int (r.v:Nat)),some (.int r.g),some (gM r.k)]:=by
     intro hb
     walk_at "w"
     refine e6 au ?_
     rw [hgu]
     walk_at "w"
     refine ⟨NS _ r,?_⟩
     walk_at "w"
     rw [show sN (gs'.map gM).length (r.v:Int) = some r.v from vY (by rw [a0c,hI'.lg];exact hv)]
     walk_at "w"
     rw [show sN (ls'.map MD).length (r.v:Int) = some r.v from vY (by rw [a0c,hI'.ll];exact hv)]
     walk_at "w"
     rw [show (gs'.map gM).set r.v (PV.int (a + r.g)) = (gs'.set r.v (some (a + r.g))).map gM from map_set gM _ r.v (some (a + r.g))]
     rw [show (ls'.map MD).set r.v (AH r) = (ls'.set r.v (some r)).map MD from map_set MD _ r.v (some r)]
     refine hN _ ⟨gs'.set r.v (some (a + r.g)),ls'.set r.v (some r),true,_,_,_,_,_,rfl,hI'.step hF hG G0 hrm hb hu hv,λ_=>?_,λz=>by cases z⟩
     have l1:=O8 hI' hF hG G0 hC hrm hb hu hv
     cases bet with
     | true=>have:=h1 rfl;omega
     | false=>rw [(h2 rfl).1] at l1 ⊢;exact l1
    cases hgv:gt gs' r.v with
    | none =>
     walk_at "w"
     exact better ⟨hgu,λb hb=>by rw [hgv] at hb;cases hb⟩
    | some b =>
     walk_at "w"
     refine e6 au ?_
     rw [hgu]
     walk_at "w"
     refine e6 av ?_
     rw [hgv]
     walk_at "w"
     refine AF (λh=>?_) λh=>?_
     ·exact better ⟨hgu,λb' hb'=>by rw [hgv] at hb';cases hb';exact h⟩
     ·exact later _ hgv _ _ _ _ _ λa' ha'=>by
       rw [hgu] at ha';cases ha'
       exact ⟨b,rfl,by omega⟩
  ·rintro env ⟨gs',ls',bet,s6,s7,s8,s9,s10,rfl,hI',h1,h2⟩
   rw [a0c,List.take_length] at h2
   walk_at "w"
   exact ⟨gs',ls',bet,_,_,_,_,_,rfl,hI',h1,λz=>(h2 z).2⟩
theorem JP:∀ (n:Nat) (l:List Nat),l.Nodup -> (∀ x ∈ l,x < n) -> l.length <= n:=by
 intro n
 induction n with
 | zero=>intro l _ h;cases l with
  | nil=>simp
  | cons a l=>have:=h a a0m;omega
 | succ n ih =>
  intro l nd h
  by_cases hm:n ∈ l
  ·have:(l.erase n).length <= n:=by
    refine ih _ (nd.sublist List.erase_sublist) λx hx=>?_
    have hx':=List.mem_of_mem_erase hx
    have hne:x ≠ n:=λz=>by subst z;exact (List.Nodup.not_mem_erase nd) hx
    have:=h x hx'
    omega
   rw [List.length_erase_of_mem hm] at this
   omega
  ·have:=ih l nd λx hx=>by
    have h1:=h x hx
    have:x ≠ n:=λz=>by subst z;exact hm hx
    omega
   omega
section
variable {φ:Nat -> Int} {rs:List Rd} {n st:Nat} {Gm:Int} {gs:Gs} {ls:Ls}
theorem EH {v:Nat} {p:List Rd} (h:Way ls st v p):∀ r ∈ p,∃ w k,gt ls w = some r /\ Ch ls st k w /\ k <= p.length /\ 0 < k:=by
 induction h with
 | base=>intro r hr;cases hr
 | @step v r p e w ih =>
  intro r' hr'
  rcases List.mem_cons.mp hr' with z | z
  ·subst z
   exact ⟨v,p.length + 1,e,.step e w.ch,by simp,by omega⟩
  ·obtain ⟨w',k,h1,h2,h3,h4⟩:=ih r' z
   exact ⟨w',k,h1,h2,by simp;omega,h4⟩
theorem GI.wayIn (h:GI φ rs n st Gm gs ls) {v:Nat} {p:List Rd} (w:Way ls st v p):∀ r ∈ p,r ∈ rs /\ gt ls r.v = some r:=by
 intro r hr
 obtain ⟨w',k,e,_⟩:=EH w r hr
 obtain ⟨h1,h2,_⟩:=h.las w' r e
 exact ⟨h1,by rw [h2];exact e⟩
theorem GI.wayNd (h:GI φ rs n st Gm gs ls) {v:Nat} {p:List Rd} (w:Way ls st v p):(p.map Rd.v).Nodup:=by
 induction w with
 | base=>exact List.nodup_nil
 | @step v r p e w ih =>
  rw [a0f,List.nodup_cons]
  refine ⟨λhm=>?_,ih⟩
  obtain ⟨r',hr',z⟩:=List.mem_map.mp hm
  obtain ⟨w',k,e',c',hk,_⟩:=EH w r' hr'
  obtain ⟨_,h2,_⟩:=h.las w' r' e'
  obtain ⟨_,h3,_⟩:=h.las v r e
  have:w' = v:=by rw [<- h2,z,h3]
  subst this
  have:=N0 h.stl c' (.step e w.ch)
  omega
theorem GI.wayLen (h:GI φ rs n st Gm gs ls) (hrs:∀ r ∈ rs,r.u < n /\ r.v < n) {v:Nat} {p:List Rd} (w:Way ls st v p):p.length <= n:=by
 have:=JP n (p.map Rd.v) (h.wayNd w) λx hx=>by
  obtain ⟨r,hr,rfl⟩:=List.mem_map.mp hx
  exact (hrs r (h.wayIn w r hr).1).2
 simpa using this
end
theorem pJ {ls:Ls} {st goal:Nat} {p:List Rd} {R:PV -> Prop} (hw:Way ls st goal p) (hn:gt ls st = none) (hg:goal < ls.length) (hu:∀ r ∈ p,r.u < ls.length) (hp:p.length <= 1000) (q:R (g8 (p.filterMap Rd.k))):bU [OA ls,.int goal] R:=by
 unfold bU
 walk_at "w"
 refine ⟨λm env=>∃ (v:Nat) (p':List Rd) (ds:List Int) (t3 t4 t5:Option PV),env = [some (OA ls),some (.int v),some (g8 ds),t3,t4,t5] /\ Way ls st v p' /\ m = p'.length /\ ds ++ p'.filterMap Rd.k = p.filterMap Rd.k /\ v < ls.length /\ (∀ r ∈ p',r.u < ls.length),⟨_,goal,p,[],none,none,none,rfl,hw,rfl,rfl,hg,hu⟩,?_⟩
 rintro m env ⟨v,p',ds,t3,t4,t5,rfl,w,rfl,ht,hv,hu'⟩
 walk_at "w"
 refine e6 (R9 hv) ?_
 have hdl:ds.length <= 1000:=by
  have:=congrArg List.length ht
  have:=List.length_filterMap_le Rd.k p
  rw [List.length_append] at *
  omega
 cases w with
 | base =>
  rw [hn]
  walk_at "w"
  rw [List.filterMap_nil,List.append_nil] at ht
  rw [ht];exact q
 | @step _ r p'' e w =>
  rw [e]
  unfold MD AH
  walk_at "w"
  refine ⟨λenv'=>∃ (v:Nat) (ds:List Int) (t3 t4 t5:Option PV),env' = [some (OA ls),some (.int v),some (g8 ds),t3,t4,t5] /\ Way ls st v p'' /\ ds ++ p''.filterMap Rd.k = p.filterMap Rd.k /\ v < ls.length,?_,?_⟩
  ·rintro env' ⟨v',ds',s3,s4,s5,rfl,w',ht',hv'⟩
   exact ⟨p''.length,by simp,v',p'',ds',s3,s4,s5,rfl,w',rfl,ht',hv',λr' hr'=>hu' r' (a0j _ hr')⟩
  walk_at "w"
  refine e6 (z:=AH r) (by rw [R9 hv,e];rfl) ?_
  unfold AH
  walk_at "w"
  refine ⟨rfl,?_⟩
  walk_at "w"
  have hr:=hu' r a0m
  rw [List.filterMap_cons] at ht
  cases hk:r.k with
  | none =>
   rw [hk] at ht
   walk_at "w"
   exact ⟨r.u,ds,_,_,_,rfl,w,ht,hr⟩
  | some k =>
   rw [hk] at ht
   walk_at "w"
   refine ⟨rfl,?_⟩
   walk_at "w"
   refine ⟨rfl,?_⟩
   walk_at "w"
   refine ⟨l3 (n:=(ds.map PV.int).length) (by rw [a0c];exact hdl),?_⟩
   have ei:g8 (ds ++ [k]) = .lst (ds.map PV.int ++ [gM (some k)]):=by unfold g8;rw [List.map_append];rfl
   exact ⟨r.u,ds ++ [k],some (.int (r.v:Nat)),some (.int r.g),some (gM (some k)),by rw [ei],w,by rw [List.append_assoc];exact ht,hr⟩
theorem vQ {ks ms:List Int} {R:PV -> Prop} (h1:ks.length < 32) (h2:ms.length < 32) (q:R (g8 (aJ (l9 ks ms)))):cV [g8 ks,g8 ms] R:=by
 unfold cV
 walk_at "w"
 refine uC h1 ?_
 walk_at "w"
 refine uC h2 ?_
 exact q
def tE (bk:List Sr):List Int:=if aJ (fI bk) = [] then [0] else aJ (fI bk)
theorem xW {bk:List Sr} {R:PV -> Prop} (hl:bk.length <= 31) (q:R (g8 (tE bk))):dF [gJ bk] R:=by
 unfold dF
 walk_at "w"
 refine tU hl ?_
 walk_at "w"
 unfold tE at q
 refine WX (λh=>?_) λh=>?_
 ·rw [if_neg (λz=>by rw [z] at h;cases h)] at q;exact q
 ·have:aJ (fI bk) = []:=by
   cases hu:aJ (fI bk) with
   | nil=>rfl
   | cons a l=>rw [hu] at h;cases h
  rw [if_pos this] at q
  walk_at "w"
  exact q
def dZ (γ:Nat -> Int) (i:Nat):Int:=γ (i + 1) - γ i
def i5 (γ:Nat -> Int) (sp:List Int):List Pr:=(sp.zipIdx.filter λz=>decide (0 < dZ γ z.2)).map λz=>(z.1,dZ γ z.2)
theorem xX {γ:Nat -> Int} {n:Nat} {sp:List Int} {R:PV -> Prop} (hn:n <= 1000) (hs:sp.length < n) (q:R (dY (i5 γ sp))):dG [g8 ((List.range n).map γ),g8 sp] R:=by
 unfold dG
 have hat:∀ i,i < n -> jF (((List.range n).map γ).map PV.int) (i:Int) = some (.int (γ i)):=λi hi=>c6 (by omega) (by
  rw [Int.toNat_natCast,a0h,a0h,List.getElem?_range hi];rfl)
 walk_at "w"
 refine ⟨by omega,by rw [a0c];omega,?_⟩
 refine ⟨by rw [bM];exact b8 (by rw [a0c];omega),?_⟩
 refine eP (λi acc env=>acc = ((List.range i).map (dZ γ)).map PV.int /\ ∃ t,env = [t,some (g8 ((List.range n).map γ))]) ⟨rfl,_,rfl⟩ ?_ ?_
 ·rintro i x acc env N hx ⟨rfl,t,rfl⟩ hN
  obtain ⟨rfl,hi⟩:=eO hx
  rw [a0c] at hi
  have x0:(0:Int) + (i:Int) = i:=by omega
  rw [x0]
  walk_at "w"
  refine e6 (by have:=hat (i + 1) (by omega);rw [<- this];congr 1) ?_
  walk_at "w"
  refine e6 (hat i (by omega)) ?_
  walk_at "w"
  refine hN _ _ ⟨?_,_,rfl⟩
  rw [List.range_succ];simp [dZ]
 ·rintro acc env ⟨rfl,t,rfl⟩
  have e1:(c8 0 ((sp.map PV.int).length:Int).toNat).length = sp.length:=by rw [bM,a0c];omega
  rw [e1]
  walk_at "w"
  refine ⟨by rw [iL];exact b8 (by simp;omega),?_⟩
  refine eP (λi acc env=>acc = (((sp.take i).zipIdx.filter λz=>decide (0 < dZ γ z.2)).map λz=>(z.1,dZ γ z.2)).map uP /\ ∃ t1 t2,env = [t1,t2]) ⟨rfl,_,_,rfl⟩ ?_ ?_
  ·rintro i x acc env N hx ⟨rfl,t1,t2,rfl⟩ hN
   rw [xM] at hx
   obtain ⟨a,b,ha,hb,rfl⟩:=hx
   rw [a0h,Option.map_eq_some_iff] at ha hb
   obtain ⟨s,hs',rfl⟩:=ha
   obtain ⟨v,hv,rfl⟩:=hb
   rw [a0h,Option.map_eq_some_iff] at hv
   obtain ⟨j,hj,rfl⟩:=hv
   have hjl:=(a0i.mp hj).1
   rw [List.length_range] at hjl
   rw [List.getElem?_range hjl] at hj
   cases hj
   have ez:(sp.take (i + 1)).zipIdx = (sp.take i).zipIdx ++ [(s,i)]:=by
    rw [List.take_add_one,hs',List.zipIdx_append]
    have:(sp.take i).length = i:=by rw [List.length_take];omega
    simp [this]
   walk_at "w"
   refine ⟨rfl,?_⟩
   walk_at "w"
   refine AF (λh=>?_) λh=>?_
   ·refine hN _ _ ⟨?_,_,_,rfl⟩
    rw [ez,List.filter_append,List.filter_cons,if_pos (by simpa using h)]
    simp [uP]
   ·refine hN _ _ ⟨?_,_,_,rfl⟩
    rw [ez,List.filter_append,List.filter_cons,if_neg (by simpa using h)]
    simp
  ·rintro acc env ⟨rfl,t1,t2,rfl⟩
   have e2:(tJ (sp.map PV.int) (((List.range sp.length).map (dZ γ)).map PV.int)).length = sp.length:=by rw [iL];simp
   rw [e2,List.take_length]
   exact ⟨yI _,q⟩
end Lib
namespace L2
open PySem
theorem IJ {g:gN} {tt:dX} {tk tv:aQ} {Q:PV -> Prop}:∀ {items:List PV} {ks:List b9} {xs:List PV} {env:b6} (I:Nat -> List b9 -> List PV -> b6 -> Prop),I 0 ks xs env ->
  (∀ (i:Nat) (x:PV) (ks:List b9) (xs:List PV) (env:b6) (N:List b9 -> List PV -> b6 -> Prop),items[i]? = some x -> I i ks xs env -> (∀ ks' xs' env',I (i + 1) ks' xs' env' -> N ks' xs' env') -> g x env λenv1=>tt env1 λb=>Br b (tk env1 λk=>tv env1 λy=>match HD k with
   | some kk=>ks.length < 1000 /\ N (FE ks kk) (AG ks xs kk y) env1
   | none=>False) (N ks xs env1)) ->
  (∀ ks xs env,I items.length ks xs env -> Q (.dic ks xs)) -> tD g tt tk tv Q items ks xs env
 | [],ks,xs,env,I,h0,hs,hd=>hd ks xs env h0
 | x :: items,ks,xs,env,I,h0,hs,hd=>by
  rw [tD]
  refine hs 0 x ks xs env (λks xs env=>tD g tt tk tv Q items ks xs env) rfl h0 λks' xs' env' h=>?_
  exact IJ (λi=>I (i + 1)) h (λi y a b e N hy=>hs (i + 1) y a b e N (by simpa using hy)) λa b e h=>hd a b e (by simpa using h)
end L2
namespace Lib
open PySem L2
theorem J0 (rs:List Rd):PV.flats (rs.map AH) = true:=PV.flats_of λx h=>by obtain ⟨s,_,rfl⟩:=List.mem_map.mp h;exact yH s
def qC (m:Nat):List Rd:=(List.range m).map λi=>⟨i,i + 1,0,none⟩
def qE (rooms:List Int) (m:Nat):List Rd:=((List.range m).filter λi=>decide (0 < rooms.getD i 0)).map λi=>⟨i + 1,i,0,none⟩
def yK (rooms:List Int):List Rd:=qC rooms.length ++ (qE rooms rooms.length).reverse
theorem vR {rooms:List Int} {R:PV -> Prop} (hl:rooms.length <= 100) (q:R (HF (yK rooms))):cW [g8 rooms] R:=by
 unfold cW
 walk_at "w"
 refine ⟨by omega,by rw [a0c];omega,?_⟩
 refine ⟨by rw [bM];exact b8 (by rw [a0c];omega),?_⟩
 refine eP (λi acc env=>acc = (qC i).map AH /\ ∃ t,env = [t]) ⟨rfl,_,rfl⟩ ?_ ?_
 ·rintro i x acc env N hx ⟨rfl,t,rfl⟩ hN
  obtain ⟨rfl,hi⟩:=eO hx
  have x0:(0:Int) + (i:Int) = i:=by omega
  rw [x0]
  walk_at "w"
  refine hN _ _ ⟨?_,_,rfl⟩
  unfold qC
  rw [List.range_succ,List.map_append,List.map_append];rfl
 ·rintro acc env ⟨rfl,t,rfl⟩
  have e1:(c8 0 ((rooms.map PV.int).length:Int).toNat).length = rooms.length:=by rw [bM,a0c];omega
  rw [e1]
  walk_at "w"
  refine ⟨b8 (by rw [fS,a0c];omega),?_⟩
  refine eP (λi acc env=>acc = (qE rooms i).map AH /\ ∃ t1 t2,env = [t1,t2]) ⟨rfl,_,_,rfl⟩ ?_ ?_
  ·rintro i x acc env N hx ⟨rfl,t1,t2,rfl⟩ hN
   rw [mI,a0h,Option.map_map,Option.map_eq_some_iff] at hx
   obtain ⟨r,hr,rfl⟩:=hx
   have eg:rooms.getD i 0 = r:=by rw [a0g,hr];rfl
   show RD.pgTup 2 _ (.tup [.int (i:Int),.int r]) _ _
   walk_at "w"
   refine ⟨rfl,?_⟩
   walk_at "w"
   refine AF (λh=>?_) λh=>?_
   ·refine hN _ _ ⟨?_,_,_,rfl⟩
    unfold qE
    rw [List.range_succ,List.filter_append,List.filter_cons,if_pos (by rw [eg];simpa using h),List.map_append,List.map_append];rfl
   ·refine hN _ _ ⟨?_,_,_,rfl⟩
    unfold qE
    rw [List.range_succ,List.filter_append,List.filter_cons,if_neg (by rw [eg];simpa using h)];simp
  ·rintro acc env ⟨rfl,t1,t2,rfl⟩
   rw [fS,a0c]
   walk_at "w"
   refine ⟨rfl,?_⟩
   have hb:(qE rooms rooms.length).length <= rooms.length:=by
    unfold qE
    rw [a0c]
    have:=List.length_filter_le (λi=>decide (0 < rooms.getD i 0)) (List.range rooms.length)
    simpa using this
   refine ⟨b8 (by simp [qC];omega),?_⟩
   rw [<- List.map_reverse,<- List.map_append]
   exact ⟨J0 _,q⟩
def gK (pl:List Int) (m:Int):Nat:=pl.idxOf m
theorem QV:∀ (pl:List Int) (o:Nat) (m:Int),m ∈ pl -> yB (pl.map λp=>(Sum.inl p:b9)) ((List.range' o pl.length).map λ(i:Nat)=>PV.int (i:Int)) (.inl m) = some (.int ((o + gK pl m:Nat):Int))
 | [],o,m,h=>by cases h
 | p :: pl,o,m,h=>by
  unfold yB gK
  rw [List.length_cons,List.range'_succ,a0f,a0f,List.zip_cons_cons,List.find?_cons]
  by_cases e:p = m
  ·subst e
   simp
  ·have e':decide ((Sum.inl p:b9) = .inl m) = false:=by simp [e]
   dsimp only
   rw [e']
   have hm:m ∈ pl:=(List.mem_cons.mp h).resolve_left λz=>e z.symm
   have ih:=QV pl (o + 1) m hm
   unfold yB gK at ih
   dsimp only
   rw [ih,List.idxOf_cons]
   have:(p == m) = false:=by simpa using e
   rw [this]
   simp
   omega
theorem QW {pl:List Int} {m:Int} (h:m ∈ pl):yB (pl.map λp=>(Sum.inl p:b9)) ((List.range pl.length).map λ(i:Nat)=>PV.int (i:Int)) (.inl m) = some (.int (gK pl m:Nat)):=by
 have:=QV pl 0 m h
 rw [<- List.range_eq_range',Nat.zero_add] at this
 exact this
def cR (pl ks:List Int) (s:Sr) (k:Nat):Rd:=if (k:Int) ∈ ks then ⟨gK pl s.e,gK pl s.b,-s.w,some (k:Int)⟩ else ⟨gK pl s.b,gK pl s.e,s.w,some (k:Int)⟩
def PU (bk:List Sr) (pl ks:List Int):List Rd:=bk.zipIdx.map λz=>cR pl ks z.1 z.2
theorem FB (ks:List Int):PV.deps (ks.map PV.int) <= 60:=Nat.le_trans (PV.deps_of (n:=0) λx h=>by obtain ⟨k,_,rfl⟩:=List.mem_map.mp h;rw [D2];exact Nat.le_refl _) (by decide)
theorem pV {ks:List b9} {xs:List PV} {m:Int} {z:PV} {Q:PV -> Prop} (h:yB ks xs (.inl m) = some z) (q:Q z):d5 (.dic ks xs) (.int m) Q:=by
 show (match yB ks xs (.inl m) with | some z=>Q z | none=>False)
 rw [h];exact q
theorem pK {bk:List Sr} {pl ks:List Int} {R:PV -> Prop} (hb:bk.length <= 31) (hp:pl.length <= 100) (nd:pl.Nodup) (hin:∀ s ∈ bk,s.b ∈ pl /\ s.e ∈ pl) (hk:ks.length <= 100) (q:R (HF (PU bk pl ks))):bV [gJ bk,g8 pl,g8 ks] R:=by
 unfold bV
 walk_at "w"
 refine IJ (λi a b env=>a = (pl.take i).map (λp=>(Sum.inl p:b9)) /\ b = (List.range i).map (λ(i:Nat)=>PV.int (i:Int)) /\ ∃ t1 t2,env = [t1,t2]) ⟨rfl,rfl,_,_,rfl⟩ ?_ ?_
 ·rintro i x a b env N hx ⟨rfl,rfl,t1,t2,rfl⟩ hN
  rw [mI,a0h,Option.map_map,Option.map_eq_some_iff] at hx
  obtain ⟨m,hm,rfl⟩:=hx
  have hi:=(a0i.mp hm).1
  show RD.pgTup 2 _ (.tup [.int (i:Int),.int m]) _ _
  walk_at "w"
  refine ⟨rfl,?_⟩
  walk_at "w"
  refine ⟨rfl,?_⟩
  walk_at "w"
  have nk:kIn ((pl.take i).map (λp=>(Sum.inl p:b9))) (.inl m) = false:=by
   unfold kIn
   rw [List.any_eq_false]
   intro k hk'
   obtain ⟨p,hp',rfl⟩:=List.mem_map.mp hk'
   have:p ≠ m:=by
    rintro rfl
    obtain ⟨j,hj,ej⟩:=List.getElem_of_mem hp'
    rw [List.length_take] at hj
    rw [List.getElem_take] at ej
    obtain ⟨_,em⟩:=a0i.mp hm
    have:=(List.nodup_iff_pairwise_ne.mp nd)
    have:=(List.pairwise_iff_getElem.mp this) j i (by omega) hi (by omega)
    exact this (ej.trans em.symm)
   simp [this]
  refine ⟨by rw [a0c,List.length_take];omega,?_⟩
  refine hN _ _ _ ⟨?_,?_,_,_,rfl⟩
  ·unfold FE
   rw [nk,List.take_add_one,hm,List.map_append];rfl
  ·unfold AG
   rw [nk,List.range_succ,List.map_append];rfl
 ·rintro a b env ⟨rfl,rfl,t1,t2,rfl⟩
  rw [fS,a0c,List.take_length]
  generalize hd:PV.dic (pl.map λp=>(Sum.inl p:b9)) ((List.range pl.length).map λ(i:Nat)=>PV.int (i:Int)) = dd
  walk_at "w"
  refine cL (λi env=>∃ t5 t6 t7 t8 t9,env = [some (gJ bk),some (g8 pl),some (g8 ks),some dd,some (HF ((bk.take i).zipIdx.map λz=>cR pl ks z.1 z.2)),t5,t6,t7,t8,t9]) ⟨_,_,_,_,_,rfl⟩ ?_ ?_
  ·rintro i x env N hx ⟨t5,t6,t7,t8,t9,rfl⟩ hN
   rw [mI,a0h,Option.map_map,Option.map_eq_some_iff] at hx
   obtain ⟨s,hs,rfl⟩:=hx
   have hi:=(a0i.mp hs).1
   obtain ⟨mb,me⟩:=hin s (List.mem_of_getElem? hs)
   have gb:=QW mb
   have ge:=QW me
   have ez:(bk.take (i + 1)).zipIdx = (bk.take i).zipIdx ++ [(s,i)]:=by
    rw [List.take_add_one,hs,List.zipIdx_append]
    have:(bk.take i).length = i:=by rw [List.length_take];omega
    simp [this]
   have hlen:(((bk.take i).zipIdx.map λz=>cR pl ks z.1 z.2).map AH).length <= 1000:=by
    rw [a0c,a0c,List.length_zipIdx,List.length_take];omega
   have es:HF ((bk.take (i + 1)).zipIdx.map λz=>cR pl ks z.1 z.2) = .lst ((((bk.take i).zipIdx.map λz=>cR pl ks z.1 z.2).map AH) ++ [AH (cR pl ks s i)]):=by
    rw [ez];unfold HF;rw [List.map_append,List.map_append];rfl
   show RD.pgTup 2 _ (.tup [.int (i:Int),.tup [.str s.nm,.int s.b,.int s.e,.int s.w]]) _ _
   walk_at "w"
   refine ⟨rfl,?_⟩
   walk_at "w"
   refine ⟨rfl,?_⟩
   walk_at "w"
   refine ⟨by rw [D2];decide,FB ks,?_⟩
   rw [MN]
   subst hd
   refine AF (λh=>?_) λh=>?_
   ·walk_at "w"
    refine ⟨rfl,?_⟩
    walk_at "w"
    refine pV ge ?_
    walk_at "w"
    refine pV gb ?_
    walk_at "w"
    refine ⟨rfl,?_⟩
    walk_at "w"
    refine ⟨l3 hlen,?_⟩
    refine hN _ ⟨some (.int (i:Int)),some (.str s.nm),some (.int s.b),some (.int s.e),some (.int s.w),?_⟩
    rw [es]
    have:cR pl ks s i = ⟨gK pl s.e,gK pl s.b,-s.w,some (i:Int)⟩:=if_pos h
    rw [this];rfl
   ·walk_at "w"
    refine ⟨rfl,?_⟩
    walk_at "w"
    refine pV gb ?_
    walk_at "w"
    refine pV ge ?_
    walk_at "w"
    refine ⟨rfl,?_⟩
    walk_at "w"
    refine ⟨l3 hlen,?_⟩
    refine hN _ ⟨some (.int (i:Int)),some (.str s.nm),some (.int s.b),some (.int s.e),some (.int s.w),?_⟩
    rw [es]
    have:cR pl ks s i = ⟨gK pl s.b,gK pl s.e,s.w,some (i:Int)⟩:=if_neg h
    rw [this];rfl
  ·rintro env ⟨t5,t6,t7,t8,t9,rfl⟩
   rw [fS,a0c,List.take_length]
   walk_at "w"
   exact q
def cY (bk:List Sr) (ks lim pl:List Int):List Int:=(lim.zip pl).map λ(z:Int × Int)=>z.1 - ((aO (aP bk ks) z.2:Nat):Int)
def eS (bk:List Sr) (pl lim ks:List Int):List Rd:=yK (cY bk ks lim pl) ++ PU bk pl ks
theorem B2 {bk:List Sr} {pl lim ks:List Int} {R:PV -> Prop} (hb:bk.length <= 31) (hp:pl.length <= 100) (nd:pl.Nodup) (hin:∀ s ∈ bk,s.b ∈ pl /\ s.e ∈ pl) (hk:ks.length <= 100) (ok:∀ k ∈ ks,0 <= k /\ k < (bk.length:Int)) (q:R (HF (eS bk pl lim ks))):eM [gJ bk,g8 pl,g8 lim,g8 ks] R:=by
 unfold eM
 walk_at "w"
 refine ⟨by rw [iL];exact b8 (by simp;omega),?_⟩
 refine eP (λi acc env=>acc = (((lim.zip pl).take i).map λ(z:Int × Int)=>z.1 - ((aO (aP bk ks) z.2:Nat):Int)).map PV.int /\ ∃ t1 t2,env = [t1,t2,some (gJ bk),some (g8 ks)]) ⟨rfl,_,_,rfl⟩ ?_ ?_
 ·rintro i x acc env N hx ⟨rfl,t1,t2,rfl⟩ hN
  rw [xM] at hx
  obtain ⟨a,b,ha,hb',rfl⟩:=hx
  rw [a0h,Option.map_eq_some_iff] at ha hb'
  obtain ⟨l,hl,rfl⟩:=ha
  obtain ⟨p,hp',rfl⟩:=hb'
  have ez:(lim.zip pl)[i]? = some (l,p):=List.getElem?_zip_eq_some.mpr ⟨hl,hp'⟩
  walk_at "w"
  refine ⟨rfl,?_⟩
  walk_at "w"
  refine tT (by omega) ok ?_
  walk_at "w"
  refine hN _ _ ⟨?_,_,_,rfl⟩
  rw [List.take_add_one,ez];simp
 ·rintro acc env ⟨rfl,t1,t2,rfl⟩
  have e1:(tJ (lim.map PV.int) (pl.map PV.int)).length = (lim.zip pl).length:=by rw [iL];simp
  rw [e1,List.take_length]
  have hz:(lim.zip pl).length <= pl.length:=by rw [List.length_zip];omega
  walk_at "w"
  refine vR (rooms:=cY bk ks lim pl) (by unfold cY;rw [a0c];omega) ?_
  walk_at "w"
  refine pK hb hp nd hin hk ?_
  have hf:(yK (cY bk ks lim pl)).length <= 200:=by
   have h1:(cY bk ks lim pl).length <= 100:=by unfold cY;rw [a0c];omega
   unfold yK qC qE
   rw [List.length_append,List.length_reverse,a0c,a0c,List.length_range]
   have:=List.length_filter_le (λi=>decide (0 < (cY bk ks lim pl).getD i 0)) (List.range (cY bk ks lim pl).length)
   rw [List.length_range] at this
   omega
  have hs:(PU bk pl ks).length <= 31:=by unfold PU;rw [a0c,List.length_zipIdx];omega
  refine ⟨b8 (by rw [a0c,a0c];omega),?_⟩
  rw [<- List.map_append]
  exact q
structure PlOk (bk:List Sr) (pl:List Int):Prop where
 lt:pl.Pairwise (· < ·)
 ne:0 < pl.length
 mem:∀ s ∈ bk,s.b ∈ pl /\ s.e ∈ pl /\ s.b < s.e
theorem PlOk.nd {bk:List Sr} {pl:List Int} (h:PlOk bk pl):pl.Nodup:=h.lt.imp λh=>by omega
theorem lD {pl:List Int} {m:Int} (h:m ∈ pl):gK pl m < pl.length:=List.idxOf_lt_length_of_mem h
theorem BE {pl:List Int} {m:Int} (h:m ∈ pl):pl[gK pl m]'(lD h) = m:=List.getElem_idxOf (lD h)
theorem PlOk.le {bk:List Sr} {pl:List Int} (h:PlOk bk pl) {m:Int} (hm:m ∈ pl) {c:Nat} (hc:c < pl.length):gK pl m <= c ↔ m <= pl[c]:=by
 have pw:=List.pairwise_iff_getElem.mp h.lt
 have e:=BE hm
 constructor
 ·intro z
  rcases Nat.eq_or_lt_of_le z with y | y
  ·subst y;rw [e];exact Int.le_refl _
  ·have:=pw _ _ (lD hm) hc y
   rw [e] at this;omega
 ·intro z
  refine Nat.le_of_not_lt λy=>?_
  have:=pw _ _ hc (lD hm) y
  rw [e] at this;omega
theorem PlOk.over {bk:List Sr} {pl:List Int} (h:PlOk bk pl) {s:Sr} (hs:s ∈ bk) {c:Nat} (hc:c < pl.length):aI s pl[c] = true ↔ gK pl s.b <= c /\ c < gK pl s.e:=by
 obtain ⟨h1,h2,h3⟩:=h.mem s hs
 rw [bP,h.le h1 hc]
 have:=h.le h2 hc
 omega
theorem PlOk.ilt {bk:List Sr} {pl:List Int} (h:PlOk bk pl) {s:Sr} (hs:s ∈ bk):gK pl s.b < gK pl s.e:=by
 obtain ⟨h1,h2,h3⟩:=h.mem s hs
 refine Nat.lt_of_not_le λz=>?_
 have:=(h.le h2 (lD h1)).mp z
 rw [BE h1] at this
 omega
def oQ (c x:Nat):Int:=if x <= c then 0 else 1
def jH (c:Nat) (r:Rd):Int:=oQ c r.v - oQ c r.u
theorem GN {ls:Ls} {st v:Nat} {p:List Rd} (hv:∀ w r,gt ls w = some r -> r.v = w) (h:Way ls st v p) (c:Nat):(p.map (jH c)).sum = oQ c v - oQ c st:=by
 induction h with
 | base=>simp
 | @step v r p e w ih =>
  rw [a0f,List.sum_cons,ih]
  unfold jH
  rw [hv v r e];omega
theorem sJ {f:Int -> Int} {len:Nat}:∀ {ns:List Int},ns.Nodup -> (∀ k ∈ ns,0 <= k /\ k < (len:Int)) -> ((List.range len).map λ(j:Nat)=>if (j:Int) ∈ ns then f (j:Int) else 0).sum = (ns.map f).sum
 | [],_,_=>by
  rw [List.map_nil,List.sum_nil]
  have:∀ l:List Nat,(l.map λ(j:Nat)=>if (j:Int) ∈ ([]:List Int) then f (j:Int) else 0).sum = 0:=by
   intro l
   induction l with
   | nil=>rfl
   | cons a l ih=>rw [a0f,List.sum_cons,ih];simp
  exact this _
 | k :: ns,nd,h=>by
  have nd':=List.nodup_cons.mp nd
  have ih:=sJ (f:=f) nd'.2 λj hj=>h j (a0j _ hj)
  rw [a0f,List.sum_cons,<- ih]
  have hk:=h k a0m
  have key:∀ l:List Nat,l.Nodup -> (l.map λ(j:Nat)=>if (j:Int) ∈ k :: ns then f (j:Int) else 0).sum = (if k.toNat ∈ l then f k else 0) + (l.map λ(j:Nat)=>if (j:Int) ∈ ns then f (j:Int) else 0).sum:=by
   intro l
   induction l with
   | nil=>intro _;rfl
   | cons a l ihl =>
    intro ndl
    have ndl':=List.nodup_cons.mp ndl
    rw [a0f,List.sum_cons,a0f,List.sum_cons,ihl ndl'.2]
    by_cases e:(a:Int) = k
    ·have ea:a = k.toNat:=by omega
     have n1:¬ (a:Int) ∈ ns:=by rw [e];exact nd'.1
     have n2:¬ k.toNat ∈ l:=by rw [<- ea];exact ndl'.1
     rw [if_pos (by rw [e];exact a0m),if_neg n2,if_neg n1,if_pos (by rw [<- ea];exact a0m),e]
    ·have e1:((a:Int) ∈ k :: ns) ↔ (a:Int) ∈ ns:=by simp [e]
     have e2:(k.toNat ∈ a :: l) ↔ k.toNat ∈ l:=by
      have:¬ k.toNat = a:=by omega
      simp [this]
     simp only [e1,e2]
     omega
  rw [key _ List.nodup_range,if_pos (List.mem_range.mpr (by omega))]
theorem E7 {α:Type} (f g:α -> Int):∀ l:List α,(l.map λa=>f a + g a).sum = (l.map f).sum + (l.map g).sum
 | []=>rfl
 | a :: l=>by rw [a0f,List.sum_cons,a0f,List.sum_cons,a0f,List.sum_cons,E7 f g l];omega
theorem cH {α:Type} {f g:α -> Int}:∀ {l:List α},(∀ a ∈ l,f a = g a) -> (l.map f).sum = (l.map g).sum
 | [],_=>rfl
 | a :: l,h=>by rw [a0f,List.sum_cons,a0f,List.sum_cons,h a a0m,cH λb hb=>h b (a0j _ hb)]
theorem SmOk.nd {ks:List Int} {n:Nat} (h:SmOk ks n):ks.Nodup:=h.lt.imp λh=>by omega
theorem kE {bk:List Sr} {ks:List Int} {len:Nat} (h:SmOk ks len) (f:Sr -> Int):((aP bk ks).map f).sum = ((List.range len).map λ(j:Nat)=>if (j:Int) ∈ ks then f (eZ bk (j:Int)) else 0).sum:=by
 rw [sJ (f:=λk=>f (eZ bk k)) h.nd h.at_]
 unfold aP
 rw [List.map_map];rfl
theorem w6 (ss:List Sr) (m:Int):(aO ss m:Int) = (ss.map λs=>if aI s m then (1:Int) else 0).sum:=by
 unfold aO
 induction ss with
 | nil=>rfl
 | cons s ss ih =>
  rw [a0f,List.sum_cons,<- ih,List.countP_cons]
  by_cases h:aI s m = true
  ·simp [h];omega
  ·simp [h]
theorem EI {bk:List Sr} {ks ns:List Int} {len:Nat} (hk:SmOk ks len) (nd:ns.Nodup) (hn:∀ k ∈ ns,0 <= k /\ k < (len:Int)) (f:Sr -> Int) :
  ((aP bk (aJ (l9 ks ns))).map f).sum = ((aP bk ks).map f).sum + (ns.map λk=>if k ∈ ks then -f (eZ bk k) else f (eZ bk k)).sum:=by
 have hx:SmOk (aJ (l9 ks ns)) len:=⟨f7 _,λk hk'=>by
  rw [bG,kC] at hk'
  rcases hk' with z | z
  ·exact hk.at_ k z.1
  ·exact hn k z.1⟩
 rw [kE hx,kE hk,<- sJ (f:=λk=>if k ∈ ks then -f (eZ bk k) else f (eZ bk k)) nd hn,<- E7]
 refine cH λj _=>?_
 have e:((j:Int) ∈ aJ (l9 ks ns)) ↔ (((j:Int) ∈ ks /\ (j:Int) ∉ ns) \/ ((j:Int) ∈ ns /\ (j:Int) ∉ ks)):=by rw [bG,kC]
 by_cases h1:(j:Int) ∈ ks <;> by_cases h2:(j:Int) ∈ ns <;> simp [e,h1,h2] <;> omega
theorem LF {ks ns:List Int} {len:Nat} (hk:SmOk ks len) (hn:∀ k ∈ ns,0 <= k /\ k < (len:Int)):SmOk (aJ (l9 ks ns)) len:=⟨f7 _,λk hk'=>by
  rw [bG,kC] at hk'
  rcases hk' with z | z
  ·exact hk.at_ k z.1
  ·exact hn k z.1⟩
theorem E8 {f:Rd -> Int} {A B:Rd} (hAB:A ≠ B):∀ {p:List Rd},p.Nodup -> (∀ r ∈ p,(r = A -> f r = 1) /\ (r = B -> f r = -1) /\ (r ≠ A -> r ≠ B -> f r = 0)) -> (p.map f).sum = (if A ∈ p then 1 else 0) - (if B ∈ p then 1 else 0)
 | [],_,_=>by simp
 | r :: p,nd,h=>by
  have nd':=List.nodup_cons.mp nd
  have ih:=E8 hAB nd'.2 λq hq=>h q (a0j _ hq)
  rw [a0f,List.sum_cons,ih]
  obtain ⟨h1,h2,h3⟩:=h r a0m
  by_cases eA:r = A
  ·subst eA
   have nB:¬ (B = r):=λz=>hAB z.symm
   rw [h1 rfl]
   simp [nd'.1,nB]
   omega
  ·by_cases eB:r = B
   ·subst eB
    have nA:¬ (A = r):=hAB
    rw [h2 rfl]
    simp [nd'.1,nA]
    omega
   ·have nA:¬ (A = r):=λz=>eA z.symm
    have nB:¬ (B = r):=λz=>eB z.symm
    rw [h3 eA eB]
    simp [nA,nB]
theorem G9 {bk:List Sr} {ks lim pl:List Int} (h:lim.length <= pl.length):(cY bk ks lim pl).length = lim.length:=by
 unfold cY;rw [a0c,List.length_zip];omega
theorem kH {bk:List Sr} {ks lim pl:List Int} {c:Nat} (hc:c < lim.length) (hp:c < pl.length):(cY bk ks lim pl).getD c 0 = lim[c] - ((aO (aP bk ks) pl[c]:Nat):Int):=by
 unfold cY
 have ez:(lim.zip pl)[c]? = some (lim[c],pl[c]):=List.getElem?_zip_eq_some.mpr ⟨a0b hc,a0b hp⟩
 rw [a0g,a0h,ez];rfl
theorem n6 {bk:List Sr} {j:Nat} (h:j < bk.length):eZ bk (j:Int) = bk[j]:=VX (a0b h)
theorem n8 {bk:List Sr} {j:Nat} (h:j < bk.length):eZ bk (j:Int) ∈ bk:=by rw [n6 h];exact List.getElem_mem h
inductive RdIs (bk:List Sr) (pl lim ks:List Int):Rd -> Prop where
 | ahead {i:Nat}:i < lim.length -> RdIs bk pl lim ks ⟨i,i + 1,0,none⟩
 | back {i:Nat}:i < lim.length -> 0 < (cY bk ks lim pl).getD i 0 -> RdIs bk pl lim ks ⟨i + 1,i,0,none⟩
 | str {j:Nat}:j < bk.length -> RdIs bk pl lim ks (cR pl ks (eZ bk (j:Int)) j)
theorem jQ {bk:List Sr} {pl lim ks:List Int} (h:lim.length <= pl.length) {r:Rd}:r ∈ eS bk pl lim ks ↔ RdIs bk pl lim ks r:=by
 unfold eS yK
 rw [G9 h]
 constructor
 ·intro hr
  rcases List.mem_append.mp hr with z | z
  ·rcases List.mem_append.mp z with z | z
   ·obtain ⟨i,hi,rfl⟩:=List.mem_map.mp z
    exact .ahead (List.mem_range.mp hi)
   ·obtain ⟨i,hi,rfl⟩:=List.mem_map.mp (List.mem_reverse.mp z)
    obtain ⟨h1,h2⟩:=List.mem_filter.mp hi
    exact .back (List.mem_range.mp h1) (by simpa using h2)
  ·obtain ⟨⟨s,j⟩,hz,rfl⟩:=List.mem_map.mp z
   have:=List.mem_zipIdx hz
   have hj:j < bk.length:=by simpa using this.2.1
   have es:s = eZ bk (j:Int):=by rw [n6 hj];simpa using this.2.2
   dsimp only
   rw [es]
   exact .str hj
 ·intro hr
  cases hr with
  | ahead hi=>exact List.mem_append_left _ (List.mem_append_left _ (List.mem_map.mpr ⟨_,List.mem_range.mpr hi,rfl⟩))
  | back hi hr=>exact List.mem_append_left _ (List.mem_append_right _ (List.mem_reverse.mpr (List.mem_map.mpr ⟨_,List.mem_filter.mpr ⟨List.mem_range.mpr hi,by simpa using hr⟩,rfl⟩)))
  | @str j hj =>
   refine List.mem_append_right _ (List.mem_map.mpr ⟨(bk[j],j),?_,by rw [n6 hj]⟩)
   exact List.mem_of_getElem? (i:=j) (by rw [List.getElem?_zipIdx,a0b hj];simp)
theorem E6 {pl ks:List Int} {s:Sr} {j:Nat}:(cR pl ks s j).k = some (j:Int):=by unfold cR;split <;> rfl
theorem RdIs.num {bk:List Sr} {pl lim ks:List Int} {r:Rd} (h:RdIs bk pl lim ks r) {k:Int} (hk:r.k = some k):0 <= k /\ k < (bk.length:Int) /\ r = cR pl ks (eZ bk k) k.toNat:=by
 cases h with
 | ahead=>cases hk
 | back=>cases hk
 | @str j hj =>
  rw [E6] at hk
  cases hk
  exact ⟨by omega,by omega,by rw [Int.toNat_natCast]⟩
theorem RdIs.lt {bk:List Sr} {pl lim ks:List Int} (hP:PlOk bk pl) (hl:lim.length + 1 = pl.length) {r:Rd} (h:RdIs bk pl lim ks r):r.u < pl.length /\ r.v < pl.length:=by
 cases h with
 | ahead=>dsimp only;omega
 | back=>dsimp only;omega
 | @str j hj =>
  obtain ⟨h1,h2,_⟩:=hP.mem _ (n8 hj)
  have:=lD h1
  have:=lD h2
  unfold cR
  split <;> exact ⟨by assumption,by assumption⟩
section
variable {bk:List Sr} {pl lim ks:List Int} {p:List Rd}
theorem wC (hp:p.Nodup) (hin:∀ r ∈ p,RdIs bk pl lim ks r):(p.filterMap Rd.k).Nodup:=by
 induction p with
 | nil=>exact List.nodup_nil
 | cons r p ih =>
  have hp':=List.nodup_cons.mp hp
  have ih:=ih hp'.2 λq hq=>hin q (a0j _ hq)
  rw [List.filterMap_cons]
  cases hk:r.k with
  | none=>exact ih
  | some k =>
   refine List.nodup_cons.mpr ⟨λhm=>?_,ih⟩
   obtain ⟨r',hr',hk'⟩:=List.mem_filterMap.mp hm
   have e1:=((hin r a0m).num hk).2.2
   have e2:=((hin r' (a0j _ hr')).num hk').2.2
   exact hp'.1 (by rw [e1,<- e2];exact hr')
theorem kU (hin:∀ r ∈ p,RdIs bk pl lim ks r):∀ k ∈ p.filterMap Rd.k,0 <= k /\ k < (bk.length:Int):=by
 intro k hk
 obtain ⟨r,hr,e⟩:=List.mem_filterMap.mp hk
 have:=(hin r hr).num e
 exact ⟨this.1,this.2.1⟩
theorem E9 (f:Rd -> Int) (hin:∀ r ∈ p,RdIs bk pl lim ks r):(p.map f).sum = (p.map λr=>if r.k = none then f r else 0).sum + ((p.filterMap Rd.k).map λk=>f (cR pl ks (eZ bk k) k.toNat)).sum:=by
 induction p with
 | nil=>rfl
 | cons r p ih =>
  have ih:=ih λq hq=>hin q (a0j _ hq)
  rw [a0f,List.sum_cons,ih,a0f,List.sum_cons,List.filterMap_cons]
  cases hk:r.k with
  | none=>simp;omega
  | some k =>
   have e:=((hin r a0m).num hk).2.2
   simp only [reduceCtorEq,if_false]
   rw [a0f,List.sum_cons,<- e];omega
theorem F8 (hP:PlOk bk pl) {j:Nat} (hj:j < bk.length) {c:Nat} (hc:c < pl.length):jH c (cR pl ks (eZ bk (j:Int)) j) = if (j:Int) ∈ ks then -(if aI (eZ bk (j:Int)) pl[c] then (1:Int) else 0) else (if aI (eZ bk (j:Int)) pl[c] then (1:Int) else 0):=by
 have ho:=hP.over (n8 hj) hc
 have hl:=hP.ilt (n8 hj)
 unfold jH cR oQ
 by_cases hk:(j:Int) ∈ ks
 ·rw [if_pos hk,if_pos hk]
  dsimp only
  by_cases h:aI (eZ bk (j:Int)) pl[c] = true
  ·have:=ho.mp h
   rw [if_pos h]
   rw [if_pos this.1,if_neg (by omega)];rfl
  ·rw [if_neg h]
   have:¬ (gK pl (eZ bk (j:Int)).b <= c /\ c < gK pl (eZ bk (j:Int)).e):=λz=>h (ho.mpr z)
   by_cases h1:gK pl (eZ bk (j:Int)).b <= c
   ·rw [if_pos h1,if_pos (by omega)];rfl
   ·rw [if_neg h1,if_neg (by omega)];rfl
 ·rw [if_neg hk,if_neg hk]
  dsimp only
  by_cases h:aI (eZ bk (j:Int)) pl[c] = true
  ·have:=ho.mp h
   rw [if_pos h]
   rw [if_pos this.1,if_neg (by omega)];rfl
  ·rw [if_neg h]
   have:¬ (gK pl (eZ bk (j:Int)).b <= c /\ c < gK pl (eZ bk (j:Int)).e):=λz=>h (ho.mpr z)
   by_cases h1:gK pl (eZ bk (j:Int)).b <= c
   ·rw [if_pos h1,if_pos (by omega)];rfl
   ·rw [if_neg h1,if_neg (by omega)];rfl
theorem U9 (hP:PlOk bk pl) (hk:SmOk ks bk.length) (hp:p.Nodup) (hin:∀ r ∈ p,RdIs bk pl lim ks r) {c:Nat} (hc:c < pl.length) :
  ((aO (aP bk (aJ (l9 ks (p.filterMap Rd.k)))) pl[c]:Nat):Int) = (aO (aP bk ks) pl[c]:Nat) + (p.map (jH c)).sum - ((if (⟨c,c + 1,0,none⟩ : Rd) ∈ p then 1 else 0) - (if (⟨c + 1,c,0,none⟩ : Rd) ∈ p then 1 else 0)):=by
 have h1:=EI (bk:=bk) hk (wC hp hin) (kU hin) λs=>if aI s pl[c] then (1:Int) else 0
 rw [w6,h1,<- w6,E9 (jH c) hin]
 have h2:((p.filterMap Rd.k).map λk=>if k ∈ ks then -(if aI (eZ bk k) pl[c] then (1:Int) else 0) else (if aI (eZ bk k) pl[c] then (1:Int) else 0)).sum = ((p.filterMap Rd.k).map λk=>jH c (cR pl ks (eZ bk k) k.toNat)).sum:=by
  refine cH λk hk'=>?_
  obtain ⟨k0,k1⟩:=kU hin k hk'
  have:=F8 (ks:=ks) hP (j:=k.toNat) (by omega) hc
  have e:((k.toNat:Nat):Int) = k:=by omega
  rw [e] at this
  exact this.symm
 rw [h2]
 have h3:(p.map λr=>if r.k = none then jH c r else 0).sum = (if (⟨c,c + 1,0,none⟩ : Rd) ∈ p then 1 else 0) - (if (⟨c + 1,c,0,none⟩ : Rd) ∈ p then 1 else 0):=by
  refine E8 (λz=>by injection z with z1 z2;omega) hp λr hr=>⟨λe=>?_,λe=>?_,λn1 n2=>?_⟩
  ·subst e;simp [jH,oQ]
  ·subst e;simp [jH,oQ]
  ·cases hin r hr with
   | @ahead i hi =>
    have:i ≠ c:=λz=>n1 (by rw [z])
    simp only [if_true]
    unfold jH oQ
    dsimp only
    by_cases h:i <= c
    ·rw [if_pos h,if_pos (by omega)];rfl
    ·rw [if_neg h,if_neg (by omega)];rfl
   | @back i hi hr =>
    have:i ≠ c:=λz=>n2 (by rw [z])
    simp only [if_true]
    unfold jH oQ
    dsimp only
    by_cases h:i <= c
    ·rw [if_pos h,if_pos (by omega)];rfl
    ·rw [if_neg h,if_neg (by omega)];rfl
   | @str j hj=>rw [if_neg (by rw [E6];simp)]
 rw [h3]
 omega
theorem ZN (hk:SmOk ks bk.length) (hp:p.Nodup) (hin:∀ r ∈ p,RdIs bk pl lim ks r):jS (aP bk (aJ (l9 ks (p.filterMap Rd.k)))) = jS (aP bk ks) + (p.map Rd.g).sum:=by
 have h1:=EI (bk:=bk) hk (wC hp hin) (kU hin) Sr.w
 unfold jS
 rw [h1,E9 Rd.g hin]
 have h2:((p.filterMap Rd.k).map λk=>if k ∈ ks then -(eZ bk k).w else (eZ bk k).w).sum = ((p.filterMap Rd.k).map λk=>(cR pl ks (eZ bk k) k.toNat).g).sum:=by
  refine cH λk hk'=>?_
  obtain ⟨k0,k1⟩:=kU hin k hk'
  have e:((k.toNat:Nat):Int) = k:=by omega
  unfold cR
  rw [e]
  split <;> rfl
 have h3:(p.map λr=>if r.k = none then r.g else 0).sum = 0:=by
  have:(p.map λr=>if r.k = none then r.g else 0).sum = (p.map λ_=>(0:Int)).sum:=cH λr hr=>by
   cases hin r hr with
   | ahead=>rfl
   | back=>rfl
   | @str j hj=>rw [if_neg (by rw [E6];simp)]
  rw [this]
  clear this hp hin h1 h2
  induction p with
  | nil=>rfl
  | cons a l ih=>rw [a0f,List.sum_cons,ih];rfl
 rw [h2,h3];omega
end
theorem gI (f:Nat -> Int) (m:Nat):((List.range (m + 1)).map f).sum = ((List.range m).map f).sum + f m:=by
 rw [List.range_succ,List.map_append,List.sum_append];simp
theorem HU (bk:List Sr) (f:Sr -> Int):(bk.map f).sum = ((List.range bk.length).map λ(j:Nat)=>f (eZ bk (j:Int))).sum:=by
 have:bk.map f = (List.range bk.length).map λ(j:Nat)=>f (eZ bk (j:Int)):=by
  apply List.ext_getElem
  ·simp
  ·intro i h1 h2
   simp at h1 h2 ⊢
   rw [n6 h1]
 rw [this]
theorem wJ {γ:Nat -> Int} {sp:List Int} (F:Int -> Int) (h0:∀ c,c < sp.length -> 0 <= dZ γ c):((i5 γ sp).map λp=>p.2 * F p.1).sum = ((List.range sp.length).map λc=>dZ γ c * F (sp.getD c 0)).sum:=by
 unfold i5
 have key:∀ m,m <= sp.length -> (((((sp.take m).zipIdx.filter λz=>decide (0 < dZ γ z.2)).map λz=>((z.1,dZ γ z.2):Pr))).map λp=>p.2 * F p.1).sum = ((List.range m).map λc=>dZ γ c * F (sp.getD c 0)).sum:=by
  intro m
  induction m with
  | zero=>intro _;rfl
  | succ m ih =>
   intro hm
   have hs:sp[m]? = some (sp.getD m 0):=by
    rw [a0g,a0b (by omega)];rfl
   have ez:(sp.take (m + 1)).zipIdx = (sp.take m).zipIdx ++ [(sp.getD m 0,m)]:=by
    rw [List.take_add_one,hs,List.zipIdx_append]
    have:(sp.take m).length = m:=by rw [List.length_take];omega
    simp [this]
   rw [ez,List.filter_append,List.map_append,List.map_append,List.sum_append,ih (by omega),gI]
   congr 1
   rw [List.filter_cons]
   by_cases h:0 < dZ γ m
   ·rw [if_pos (by simpa using h)];simp
   ·have:=h0 m (by omega)
    have e:dZ γ m = 0:=by omega
    rw [if_neg (by simpa using h),e];simp
 have:=key sp.length (Nat.le_refl _)
 rw [List.take_length] at this
 exact this
theorem L6 (γ:Nat -> Int) (m:Nat):((List.range m).map (dZ γ)).sum = γ m - γ 0:=by
 induction m with
 | zero=>simp
 | succ m ih=>rw [gI,ih];unfold dZ;omega
theorem v8 (γ:Nat -> Int) {a b:Nat} (hab:a <= b):∀ m,((List.range m).map λc=>dZ γ c * (if a <= c /\ c < b then 1 else 0)).sum = γ (min b m) - γ (min a m)
 | 0=>by simp
 | m + 1=>by
  rw [gI,v8 γ hab m]
  by_cases h:a <= m /\ m < b
  ·rw [if_pos h,Int.mul_one]
   rw [show min b (m + 1) = m + 1 by omega,show min a (m + 1) = a by omega,show min b m = m by omega,show min a m = a by omega]
   unfold dZ;omega
  ·rw [if_neg h,Int.mul_zero]
   by_cases h2:a <= m
   ·rw [show min b (m + 1) = min b m by omega,show min a (m + 1) = min a m by omega];omega
   ·rw [show min b (m + 1) = m + 1 by omega,show min a (m + 1) = m + 1 by omega,show min b m = m by omega,show min a m = m by omega];omega
theorem Q8 (s:Sr) (pp:List Pr):d4 s pp = (pp.map λp=>p.2 * (if aI s p.1 then 1 else 0)).sum:=by
 unfold d4
 induction pp with
 | nil=>rfl
 | cons p pp ih =>
  rw [List.filter_cons,a0f,List.sum_cons,<- ih]
  by_cases h:aI s p.1 = true
  ·rw [if_pos h,if_pos h,a0f,List.sum_cons];omega
  ·rw [if_neg h,if_neg h];omega
section
variable {bk:List Sr} {pl ks:List Int} {lim:List Int} {γ:Nat -> Int}
theorem mK (hl:lim.length + 1 = pl.length) (fe:pA γ (eS bk pl lim ks)) {c:Nat} (hc:c < lim.length):0 <= dZ γ c:=by
 have:=fe _ ((jQ (by omega)).mpr (.ahead hc))
 unfold dZ
 dsimp only at this
 omega
theorem lC {pl:List Int} {c:Nat} (hc:c + 1 < pl.length):pl.dropLast.getD c 0 = pl[c]:=by
 rw [a0g,List.dropLast_eq_take,List.getElem?_take,if_pos (by omega),a0b (by omega)];rfl
theorem Q9 (hP:PlOk bk pl) (hl:lim.length + 1 = pl.length) (fe:pA γ (eS bk pl lim ks)) {s:Sr} (hs:s ∈ bk):d4 s (i5 γ pl.dropLast) = γ (gK pl s.e) - γ (gK pl s.b):=by
 have hdl:pl.dropLast.length = lim.length:=by rw [List.length_dropLast];omega
 rw [Q8,wJ (λm=>if aI s m then 1 else 0) λc hc=>mK hl fe (by omega),hdl]
 have:((List.range lim.length).map λc=>dZ γ c * (if aI s (pl.dropLast.getD c 0) then 1 else 0)).sum = ((List.range lim.length).map λc=>dZ γ c * (if gK pl s.b <= c /\ c < gK pl s.e then 1 else 0)).sum:=cH λc hc=>by
  have hc':=List.mem_range.mp hc
  rw [lC (by omega)]
  have ho:=hP.over hs (c:=c) (by omega)
  by_cases h:aI s pl[c] = true
  ·rw [if_pos h,if_pos (ho.mp h)]
  ·rw [if_neg h,if_neg (λz=>h (ho.mpr z))]
 obtain ⟨_,h2,_⟩:=hP.mem s hs
 have hi:=hP.ilt hs
 have he:=lD h2
 rw [this,v8 γ (by omega) lim.length,show min (gK pl s.e) lim.length = gK pl s.e by omega,show min (gK pl s.b) lim.length = gK pl s.b by omega]
theorem IE (hP:PlOk bk pl) (hk:SmOk ks bk.length) (hl:lim.length + 1 = pl.length) (fe:pA γ (eS bk pl lim ks)) :
  d7 bk (i5 γ pl.dropLast) = jS (aP bk ks) - ((i5 γ pl.dropLast).map λp=>p.2 * ((aO (aP bk ks) p.1:Nat):Int)).sum:=by
 unfold d7
 rw [HU,<- m8]
 unfold jS
 rw [kE hk,kE hk]
 have neg:∀ (f g:Nat -> Int) (l:List Nat),(l.map f).sum - (l.map g).sum = (l.map λj=>f j - g j).sum:=by
  intro f g l
  induction l with
  | nil=>rfl
  | cons a l ih=>rw [a0f,List.sum_cons,a0f,List.sum_cons,a0f,List.sum_cons,<- ih];omega
 rw [neg]
 refine cH λj hj=>?_
 have hj':=List.mem_range.mp hj
 have ht:=Q9 hP hl fe (n8 hj')
 have hr:=fe _ ((jQ (by omega)).mpr (.str hj'))
 unfold c9
 rw [ht]
 unfold cR at hr
 by_cases h:(j:Int) ∈ ks
 ·rw [if_pos h] at hr
  rw [if_pos h,if_pos h]
  dsimp only at hr
  omega
 ·rw [if_neg h] at hr
  rw [if_neg h,if_neg h]
  dsimp only at hr
  omega
theorem OS (hl:lim.length + 1 = pl.length) (fe:pA γ (eS bk pl lim ks)) (hld:∀ (c:Nat) (h:c < lim.length),((aO (aP bk ks) (pl[c]'(by omega)):Nat):Int) <= lim[c]) (L:Int -> Int) (hL:∀ (c:Nat) (h:c < lim.length),L (pl[c]'(by omega)) = lim[c]) :
  ((i5 γ pl.dropLast).map λp=>p.2 * ((aO (aP bk ks) p.1:Nat):Int)).sum = ((i5 γ pl.dropLast).map λp=>p.2 * L p.1).sum:=by
 have hdl:pl.dropLast.length = lim.length:=by rw [List.length_dropLast];omega
 rw [wJ (λm=>((aO (aP bk ks) m:Nat):Int)) λc hc=>mK hl fe (by omega),wJ L λc hc=>mK hl fe (by omega),hdl]
 refine cH λc hc=>?_
 have hc':=List.mem_range.mp hc
 rw [lC (by omega),hL c hc']
 have h1:=hld c hc'
 by_cases e:((aO (aP bk ks) (pl[c]'(by omega)):Nat):Int) = lim[c]
 ·rw [e]
 ·have hb:=fe _ ((jQ (by omega)).mpr (.back hc' (by rw [kH hc' (by omega)];omega)))
  have h2:=mK hl fe hc'
  have:dZ γ c = 0:=by
   unfold dZ at h2 ⊢
   dsimp only at hb
   omega
  rw [this];simp
end
abbrev kB (pl:List Int) (many:Nat):List Int:=List.replicate (pl.length - 1) (many:Int)
structure BS (bk:List Sr) (pl:List Int) (many:Nat) (ks:List Int):Prop where
 sm:SmOk ks bk.length
 ld:∀ (c:Nat) (h:c + 1 < pl.length),aO (aP bk ks) (pl[c]'(by omega)) <= many
 pot:∃ φ,pA φ (eS bk pl (kB pl many) ks)
theorem JL {pl:List Int} {many:Nat} (h:0 < pl.length):(kB pl many).length + 1 = pl.length:=by
 rw [List.length_replicate];omega
theorem kT {pl:List Int} {many c:Nat} (h:c < (kB pl many).length):(kB pl many)[c] = (many:Int):=List.getElem_replicate ..
section
variable {bk:List Sr} {pl ks:List Int} {many:Nat} {γ:Nat -> Int}
theorem BS.claim (h:BS bk pl many ks) (hP:PlOk bk pl) (fe:pA γ (eS bk pl (kB pl many) ks)):bL bk (many:Int) (i5 γ pl.dropLast) = jS (aP bk ks) /\ ((i5 γ pl.dropLast).map (·.2)).sum = γ (pl.length - 1) - γ 0:=by
 have hl:=JL (many:=many) hP.ne
 have h1:=IE hP h.sm hl fe
 have hll:(kB pl many).length = pl.length - 1:=List.length_replicate ..
 have h2:=OS (bk:=bk) (ks:=ks) hl fe (λc hc=>by rw [kT];have:=h.ld c (by omega);omega) (λ_=>(many:Int)) (λc hc=>(kT hc).symm)
 have h3:((i5 γ pl.dropLast).map λp=>p.2 * (many:Int)).sum = ((i5 γ pl.dropLast).map (·.2)).sum * (many:Int):=by
  generalize i5 γ pl.dropLast = pp
  induction pp with
  | nil=>simp
  | cons p pp ih=>rw [a0f,List.sum_cons,ih,a0f,List.sum_cons,Int.add_mul]
 refine ⟨?_,?_⟩
 ·unfold bL
  rw [h1,h2,h3];omega
 ·have h4:=wJ (γ:=γ) (sp:=pl.dropLast) (λ_=>1) λc hc=>mK hl fe (by rw [List.length_dropLast] at hc;omega)
  have h5:((i5 γ pl.dropLast).map λp=>p.2 * 1).sum = ((i5 γ pl.dropLast).map (·.2)).sum:=cH λp _=>Int.mul_one _
  have h6:((List.range pl.dropLast.length).map λc=>dZ γ c * 1).sum = ((List.range pl.dropLast.length).map (dZ γ)).sum:=cH λc _=>Int.mul_one _
  rw [<- h5,h4,h6,L6,List.length_dropLast]
theorem JH (hP:PlOk bk pl) (hk:SmOk ks bk.length) {b:Nat} (h:∀ (c:Nat) (h:c + 1 < pl.length),aO (aP bk ks) (pl[c]'(by omega)) <= b) (m:Int):aO (aP bk ks) m <= b:=by
 rcases FY (ms:=pl) (P:=λx=>x <= m) with hn | ⟨x,hx,px,top⟩
 ·rw [w8 λs hs z=>hn s.b (hP.mem s (mV hk.at_ hs)).1 z.1];omega
 ·have e:aO (aP bk ks) m = aO (aP bk ks) x:=qV λs hs=>k7 (by
   obtain ⟨h1,h2,_⟩:=hP.mem s (mV hk.at_ hs)
   have:=top _ h1
   have:=top _ h2
   constructor <;> constructor <;> intro z <;> omega)
  rw [e]
  have hi:=lD hx
  have eg:=BE hx
  by_cases hlast:gK pl x + 1 < pl.length
  ·have:=h _ hlast
   rw [eg] at this;exact this
  ·have:aO (aP bk ks) x = 0:=w8 λs hs z=>by
    have hm:=hP.mem s (mV hk.at_ hs)
    have h3:=lD hm.2.1
    have:=(hP.le hm.2.1 hi).mp (by omega)
    rw [eg] at this
    omega
   omega
theorem BS.next (h:BS bk pl many ks) (hP:PlOk bk pl) (fe:pA γ (eS bk pl (kB pl many) ks)) {ls:Ls} {p:List Rd} (hv:∀ w r,gt ls w = some r -> r.v = w) (hw:Way ls 0 (pl.length - 1) p) (hp:p.Nodup) (hin:∀ r ∈ p,r ∈ eS bk pl (kB pl many) ks /\ γ r.v = γ r.u + r.g) :
  BS bk pl (many + 1) (aJ (l9 ks (p.filterMap Rd.k))) /\ jS (aP bk (aJ (l9 ks (p.filterMap Rd.k)))) = jS (aP bk ks) + (γ (pl.length - 1) - γ 0):=by
 have hne:=hP.ne
 have hll:(kB pl many).length = pl.length - 1:=List.length_replicate ..
 have hll':(kB pl (many + 1)).length = pl.length - 1:=List.length_replicate ..
 have his:∀ r ∈ p,RdIs bk pl (kB pl many) ks r:=λr hr=>(jQ (by omega)).mp (hin r hr).1
 have sm':=LF h.sm (kU his)
 have ldc:∀ (c:Nat) (hc:c + 1 < pl.length),((aO (aP bk (aJ (l9 ks (p.filterMap Rd.k)))) (pl[c]'(by omega)):Nat):Int) = (aO (aP bk ks) (pl[c]'(by omega)):Nat) + 1 - ((if (⟨c,c + 1,0,none⟩ : Rd) ∈ p then 1 else 0) - (if (⟨c + 1,c,0,none⟩ : Rd) ∈ p then 1 else 0)):=by
  intro c hc
  have:=U9 hP h.sm hp his (c:=c) (by omega)
  rw [GN hv hw c] at this
  rw [this]
  have s1:oQ c (pl.length - 1) = 1:=by unfold oQ;rw [if_neg (by omega)]
  have s0:oQ c 0 = 0:=by unfold oQ;rw [if_pos (by omega)]
  rw [s1,s0];omega
 have room:∀ c,(⟨c + 1,c,0,none⟩ : Rd) ∈ p -> ∀ hc:c + 1 < pl.length,((aO (aP bk ks) (pl[c]'(by omega)):Nat):Int) < many:=by
  intro c hm hc
  have hi:=his _ hm
  generalize hr:(⟨c + 1,c,0,none⟩ : Rd) = r at hi
  cases hi with
  | @ahead i _=>injection hr with z1 z2;omega
  | @back i hi' hroom =>
   injection hr with z1 z2
   subst z2
   rw [kH hi' (by omega),kT] at hroom
   omega
  | @str j hj=>have:=congrArg Rd.k hr;rw [E6] at this;cases this
 refine ⟨⟨sm',λc hc=>?_,γ,λr hr=>?_⟩,?_⟩
 ·have e:=ldc c hc
  have:=h.ld c hc
  by_cases hb:(⟨c + 1,c,0,none⟩ : Rd) ∈ p
  ·have:=room c hb hc
   rw [if_pos hb] at e
   split at e <;> omega
  ·rw [if_neg hb] at e
   split at e <;> omega
 ·have hr':=(jQ (by omega)).mp hr
  cases hr' with
  | @ahead i hi=>exact fe _ ((jQ (by omega)).mpr (.ahead (by omega)))
  | @back i hi hroom =>
   rw [kH hi (by omega),kT] at hroom
   have hi2:i + 1 < pl.length:=by omega
   have e:=ldc i hi2
   have h1:=h.ld i hi2
   by_cases hfull:aO (aP bk ks) (pl[i]'(by omega)) = many
   ·have ha:(⟨i,i + 1,0,none⟩ : Rd) ∈ p:=by
     refine Classical.byContradiction λhna=>?_
     rw [if_neg hna] at e
     have hnb:¬ (⟨i + 1,i,0,none⟩ : Rd) ∈ p:=λhb=>by have:=room i hb hi2;omega
     rw [if_neg hnb] at e
     omega
    have:=(hin _ ha).2
    dsimp only at this ⊢
    omega
   ·exact fe _ ((jQ (by omega)).mpr (.back (by omega) (by rw [kH (by omega) (by omega),kT];omega)))
  | @str j hj =>
   have hold:=fe _ ((jQ (by omega)).mpr (.str (ks:=ks) hj))
   have e:((j:Int) ∈ aJ (l9 ks (p.filterMap Rd.k))) ↔ (((j:Int) ∈ ks /\ (j:Int) ∉ p.filterMap Rd.k) \/ ((j:Int) ∈ p.filterMap Rd.k /\ (j:Int) ∉ ks)):=by rw [bG,kC]
   by_cases hm:(j:Int) ∈ p.filterMap Rd.k
   ·obtain ⟨r,hrp,hrk⟩:=List.mem_filterMap.mp hm
    have er:=((his r hrp).num hrk).2.2
    rw [Int.toNat_natCast] at er
    have ht:=(hin r hrp).2
    rw [er] at ht
    unfold cR at ht ⊢
    by_cases hk:(j:Int) ∈ ks
    ·rw [if_pos hk] at ht
     rw [if_neg (λz=>by rcases e.mp z with y | y <;> simp_all)]
     dsimp only at ht ⊢
     omega
    ·rw [if_neg hk] at ht
     rw [if_pos (e.mpr (.inr ⟨hm,hk⟩))]
     dsimp only at ht ⊢
     omega
   ·unfold cR at hold ⊢
    by_cases hk:(j:Int) ∈ ks
    ·rw [if_pos hk] at hold
     rw [if_pos (e.mpr (.inl ⟨hk,hm⟩))]
     exact hold
    ·rw [if_neg hk] at hold
     rw [if_neg (λz=>by rcases e.mp z with y | y <;> simp_all)]
     exact hold
 ·rw [ZN h.sm hp his]
  congr 1
  have:∀ {v:Nat} {q:List Rd},Way ls 0 v q -> (∀ r ∈ q,γ r.v = γ r.u + r.g) -> (q.map Rd.g).sum = γ v - γ 0:=by
   intro v q hq
   induction hq with
   | base=>intro _;simp
   | @step v r q e w ih =>
    intro ht
    rw [a0f,List.sum_cons,ih λr' hr'=>ht r' (a0j _ hr')]
    have:=ht r a0m
    rw [hv v r e] at this
    omega
  exact this hw λr hr=>(hin r hr).2
theorem BS.start (hP:PlOk bk pl) (hw:∀ s ∈ bk,0 <= s.w):BS bk pl 0 []:=by
 refine ⟨⟨.nil,by simp⟩,λc h=>by show aO [] _ <= 0;exact Nat.le_refl _,λv=>(bk.map λs=>if gK pl s.e <= v then s.w else 0).sum,λr hr=>?_⟩
 have hne:=hP.ne
 have hll:(kB pl 0).length = pl.length - 1:=List.length_replicate ..
 have mono:∀ {a b:Nat},a <= b -> (bk.map λs=>if gK pl s.e <= a then s.w else 0).sum <= (bk.map λs=>if gK pl s.e <= b then s.w else 0).sum:=by
  intro a b hab
  clear hP hr
  induction bk with
  | nil=>exact Int.le_refl _
  | cons s ss ih =>
   rw [a0f,List.sum_cons,a0f,List.sum_cons]
   have h1:=ih λt ht=>hw t (a0j _ ht)
   have h2:=hw s a0m
   split <;> split <;> omega
 cases (jQ (by omega)).mp hr with
 | @ahead i hi=>dsimp only;have:=mono (show i <= i + 1 by omega);omega
 | @back i hi hroom =>
  rw [kH hi (by omega),kT] at hroom
  have:aO (aP bk []) (pl[i]'(by omega)) = 0:=rfl
  omega
 | @str j hj =>
  have hs:=n8 hj
  have hl:=hP.ilt hs
  unfold cR
  rw [if_neg (by simp)]
  dsimp only
  generalize eZ bk (j:Int) = s at hs hl
  clear hr hj
  have key:∀ ss:List Sr,(∀ t ∈ ss,0 <= t.w) -> s ∈ ss -> (ss.map λt=>if gK pl t.e <= gK pl s.b then t.w else 0).sum + s.w <= (ss.map λt=>if gK pl t.e <= gK pl s.e then t.w else 0).sum:=by
   intro ss
   induction ss with
   | nil=>intro _ h;cases h
   | cons t ss ih =>
    intro h0 hm
    rw [a0f,List.sum_cons,a0f,List.sum_cons]
    have m1:(ss.map λt=>if gK pl t.e <= gK pl s.b then t.w else 0).sum <= (ss.map λt=>if gK pl t.e <= gK pl s.e then t.w else 0).sum:=by
     have h0':∀ t ∈ ss,0 <= t.w:=λt ht=>h0 t (a0j _ ht)
     clear ih hm h0
     induction ss with
     | nil=>exact Int.le_refl _
     | cons t ss ih =>
      rw [a0f,List.sum_cons,a0f,List.sum_cons]
      have h1:=ih λt ht=>h0' t (a0j _ ht)
      have h2:=h0' t a0m
      split <;> split <;> omega
    rcases List.mem_cons.mp hm with z | z
    ·subst z
     rw [if_neg (by omega),if_pos (Nat.le_refl _)];omega
    ·have:=ih (λt ht=>h0 t (a0j _ ht)) z
     have h2:=h0 t a0m
     split <;> split <;> omega
  exact key bk hw hs
end
def HC (gs:Gs) (v:Nat):Int:=(gt gs v).getD 0
section
variable {φ:Nat -> Int} {rs:List Rd} {n:Nat} {Gm:Int} {gs:Gs} {ls:Ls}
theorem iZ (h:GI φ rs n 0 Gm gs ls) (hf:QQ gs rs) (ha:∀ i,i + 1 < n -> (⟨i,i + 1,0,none⟩ : Rd) ∈ rs):∀ v,v < n -> gt gs v = some (HC gs v)
 | 0,_=>by unfold HC;rw [h.st0];rfl
 | v + 1,hv=>by
  have ih:=iZ h hf ha v (by omega)
  obtain ⟨b,hb,_⟩:=hf _ (ha v hv) _ ih
  dsimp only at hb
  unfold HC;rw [hb];rfl
theorem yM (h:GI φ rs n 0 Gm gs ls) (hf:QQ gs rs) (ha:∀ i,i + 1 < n -> (⟨i,i + 1,0,none⟩ : Rd) ∈ rs) (hrs:∀ r ∈ rs,r.u < n /\ r.v < n):pA (HC gs) rs:=λr hr=>by
 obtain ⟨b,hb,le⟩:=hf r hr _ (iZ h hf ha r.u (hrs r hr).1)
 have e:=iZ h hf ha r.v (hrs r hr).2
 rw [hb] at e
 injection e with e
 omega
theorem NT (h:GI φ rs n 0 Gm gs ls) (hf:QQ gs rs) (ha:∀ i,i + 1 < n -> (⟨i,i + 1,0,none⟩ : Rd) ∈ rs):TL gs = g8 ((List.range n).map (HC gs)):=by
 have:gs.map gM = ((List.range n).map (HC gs)).map PV.int:=by
  apply List.ext_getElem
  ·simp [h.lg]
  ·intro i h1 h2
   have hi:i < gs.length:=by simpa using h1
   have hn:i < n:=by rw [<- h.lg];exact hi
   have e:=iZ h hf ha i hn
   unfold gt at e
   rw [a0g,a0b hi] at e
   simp only [Option.getD_some] at e
   rw [List.getElem_map,e,List.getElem_map,List.getElem_map,List.getElem_range];rfl
 show PV.lst _ = PV.lst _
 rw [this]
theorem NU (h:GI φ rs n 0 Gm gs ls) (hf:QQ gs rs) (ha:∀ i,i + 1 < n -> (⟨i,i + 1,0,none⟩ : Rd) ∈ rs) (hrs:∀ r ∈ rs,r.u < n /\ r.v < n) (hn:0 < n):∃ p,Way ls 0 (n - 1) p /\ p.Nodup /\ p.length <= n /\ ∀ r ∈ p,r ∈ rs /\ HC gs r.v = HC gs r.u + r.g:=by
 obtain ⟨k,hk⟩:=h.ch _ _ (iZ h hf ha (n - 1) (by omega))
 obtain ⟨p,hp,_⟩:=WW hk
 refine ⟨p,hp,(List.pairwise_map.mp (h.wayNd hp)).imp λhne heq=>hne (congrArg _ heq),h.wayLen hrs hp,λr hr=>?_⟩
 obtain ⟨h1,h2⟩:=h.wayIn hp r hr
 refine ⟨h1,?_⟩
 obtain ⟨_,_,a,b,e1,e2,le⟩:=h.las _ _ h2
 have f:=yM h hf ha hrs r h1
 rw [iZ h hf ha r.u (hrs r h1).1] at e1
 rw [iZ h hf ha r.v (hrs r h1).2] at e2
 injection e1 with e1
 injection e2 with e2
 omega
end
structure Bst (bk:List Sr) (b:Nat) (ks:List Int) (pp:List Pr):Prop where
 sm:SmOk ks bk.length
 ld:∀ m,aO (aP bk ks) m <= b
 cl:bL bk (b:Int) pp = jS (aP bk ks)
 pr:PpOk pp (λm x=>1 <= x /\ ∃ s ∈ bk,m = s.b \/ m = s.e) (2 * bk.length)
 nx:∃ ks',SmOk ks' bk.length /\ (∀ m,aO (aP bk ks') m <= b + 1) /\ bL bk ((b:Int) + 1) pp = jS (aP bk ks')
theorem qK (bk:List Sr) (b:Int) (pp:List Pr):bL bk (b + 1) pp = bL bk b pp + (pp.map (·.2)).sum:=by
 unfold bL
 rw [Int.mul_add];omega
theorem Bst.nn {bk:List Sr} {b:Nat} {ks:List Int} {pp:List Pr} (h:Bst bk b ks pp):∀ p ∈ pp,0 <= p.2:=λp hp=>by have:=(h.pr.at_ p hp).1;omega
theorem YL {bk:List Sr} {n:Nat} (hb:∀ s ∈ bk,s.b < s.e):PlOk bk (tE bk):=by
 unfold tE
 split
 ·rename_i e
  have:bk = []:=by
   cases bk with
   | nil=>rfl
   | cons s ss =>
    have:s.b ∈ aJ (fI (s :: ss)):=bG.mpr (eV.mpr ⟨s,a0m,.inl rfl⟩)
    rw [e] at this;cases this
  subst this
  exact ⟨by simp,by simp,λs hs=>by cases hs⟩
 ·rename_i e
  refine ⟨f7 _,List.length_pos_iff.mpr e,λs hs=>⟨bG.mpr (eV.mpr ⟨s,hs,.inl rfl⟩),bG.mpr (eV.mpr ⟨s,hs,.inr rfl⟩),hb s hs⟩⟩
theorem V4 {bk:List Sr}:(tE bk).length <= 2 * bk.length + 1:=by
 unfold tE
 split
 ·simp
 ·have:=vC (fI bk)
  rw [w9] at this
  omega
theorem V5 {bk:List Sr} {m:Int} (h:m ∈ (tE bk).dropLast):∃ s ∈ bk,m = s.b \/ m = s.e:=by
 unfold tE at h
 split at h
 ·cases h
 ·exact eV.mp (bG.mp (List.dropLast_subset _ h))
theorem YN {γ:Nat -> Int} {sp:List Int} (lt:sp.Pairwise (· < ·)) {P:Int -> Prop} (hP:∀ m ∈ sp,P m) {n:Nat} (hn:sp.length <= n):PpOk (i5 γ sp) (λm x=>1 <= x /\ P m) n:=by
 unfold i5
 refine ⟨?_,λp hp=>?_,?_⟩
 ·rw [List.pairwise_map]
  refine List.Pairwise.filter _ ?_
  have:(sp.zipIdx.map Prod.fst).Pairwise (· < ·):=by rw [List.zipIdx_map_fst];exact lt
  exact List.pairwise_map.mp this
 ·obtain ⟨z,hz,rfl⟩:=List.mem_map.mp hp
  obtain ⟨h1,h2⟩:=List.mem_filter.mp hz
  have h2:0 < dZ γ z.2:=by simpa using h2
  refine ⟨by dsimp only;omega,hP _ ?_⟩
  have:=List.mem_map_of_mem (f:=Prod.fst) h1
  rw [List.zipIdx_map_fst] at this
  exact this
 ·rw [a0c]
  have:=List.length_filter_le (λz:Int × Nat=>decide (0 < dZ γ z.2)) sp.zipIdx
  rw [List.length_zipIdx] at this
  omega
theorem IG (xs:List Int):sQ (xs.map PV.int) none (some (-1)) = xs.dropLast.map PV.int:=by
 unfold sQ
 rw [HT.sIx_none]
 have:HT.sIx (xs.map PV.int).length (xs.map PV.int).length (some (-1)) = xs.length - 1:=by
  unfold HT.sIx
  simp
  omega
 rw [this,List.dropLast_eq_take,List.drop_zero,Nat.sub_zero,List.map_take]
abbrev Tl:=List Int × List Pr
def Q7 (z:Tl):PV:=.tup [g8 z.1,dY z.2]
theorem UD {l:List Int} {n:Nat} (nd:l.Nodup) (h:∀ k ∈ l,0 <= k /\ k < (n:Int)):l.length <= n:=by
 have:=JP n (l.map Int.toNat) (by
  rw [List.nodup_iff_pairwise_ne,List.pairwise_map]
  refine List.Pairwise.imp_of_mem (fun {a b} ha hb hne z=>hne ?_) nd
  have:=h a ha
  have:=h b hb
  omega) λx hx=>by
   obtain ⟨k,hk,rfl⟩:=List.mem_map.mp hx
   have:=h k hk
   omega
 simpa using this
theorem Z3 (m:Nat) (x:Int):(List.replicate (m:Int).toNat [PV.int x]).flatten = (List.replicate m x).map PV.int:=by
 rw [Int.toNat_natCast,List.map_replicate];simp
theorem vP {bk:List Sr} {B:Nat} {R:PV -> Prop} (hb:bk.length <= 31) (hlt:∀ s ∈ bk,s.b < s.e) (hw:∀ s ∈ bk,0 <= s.w) (hB:B <= 100)
  (q:∀ tl:List Tl,tl.length = B + 1 -> (∀ (j:Nat) (h:j < tl.length),Bst bk j tl[j].1 tl[j].2) -> R (.lst (tl.map Q7))):cU [gJ bk,.int B] R:=by
 unfold cU
 have hP:PlOk bk (tE bk):=YL (n:=0) hlt
 have hpl:=V4 (bk:=bk)
 walk_at "w"
 refine xW hb ?_
 generalize hpe:tE bk = pl at hP hpl ⊢
 have hne:=hP.ne
 walk_at "w"
 refine ⟨by omega,by omega,?_⟩
 refine cL (λi env=>∃ (ks:List Int) (tl:List Tl) (t5 t6 t7 t8:Option PV),env = [some (gJ bk),some (.int B),some (g8 pl),some (g8 ks),some (.lst (tl.map Q7)),t5,t6,t7,t8] /\ BS bk pl i ks /\ tl.length = i /\ ∀ (j:Nat) (h:j < tl.length),Bst bk j tl[j].1 tl[j].2) ⟨[],[],none,none,none,none,rfl,BS.start hP hw,rfl,λj h=>by cases h⟩ ?_ ?_
 ·rintro i x env N hx ⟨ks,tl,t5,t6,t7,t8,rfl,bs,hti,hall⟩ hN
  obtain ⟨rfl,hi⟩:=eO hx
  have hkl:=bs.sm.len
  have x0:(0:Int) + (i:Int) = i:=by omega
  rw [x0]
  walk_at "w"
  have hmap:(pl.map PV.int).length = pl.length:=a0c ..
  have e1:((pl.map PV.int).length:Int) - 1 = ((pl.length - 1:Nat):Int):=by rw [hmap];omega
  refine ⟨by omega,by omega,b8 (by rw [e1];simp;omega),?_⟩
  rw [e1,Z3]
  have hll:(kB pl i).length = pl.length - 1:=List.length_replicate ..
  walk_at "w"
  refine B2 hb (by omega) hP.nd (λs hs=>⟨(hP.mem s hs).1,(hP.mem s hs).2.1⟩) (by omega) bs.sm.at_ (lim:=kB pl i) ?_
  walk_at "w"
  obtain ⟨φ,hφ⟩:=bs.pot
  have hrs:∀ r ∈ eS bk pl (kB pl i) ks,r.u < pl.length /\ r.v < pl.length:=λr hr=>RdIs.lt hP (by omega) ((jQ (by omega)).mp hr)
  have ha:∀ j,j + 1 < pl.length -> (⟨j,j + 1,0,none⟩ : Rd) ∈ eS bk pl (kB pl i) ks:=λj hj=>(jQ (by omega)).mpr (.ahead (by omega))
  rw [hmap]
  refine o3 hφ hrs (st:=0) hne (by omega) λgs ls Gm gi fx=>?_
  have hγ:=yM gi fx ha hrs
  obtain ⟨p,hp,pnd,plen,pin⟩:=NU gi fx ha hrs hne
  have his:∀ r ∈ p,RdIs bk pl (kB pl i) ks r:=λr hr=>(jQ (by omega)).mp (pin r hr).1
  obtain ⟨bn,wn⟩:=bs.next hP hγ (λw r e=>(gi.las w r e).2.1) hp pnd pin
  obtain ⟨c1,c2⟩:=bs.claim hP hγ
  rw [NT gi fx ha]
  walk_at "w"
  refine ⟨rfl,?_⟩
  walk_at "w"
  refine ⟨rfl,?_⟩
  walk_at "w"
  rw [IG]
  refine xX (by omega) (by rw [List.length_dropLast];omega) ?_
  walk_at "w"
  refine ⟨l3 (by rw [a0c];omega),?_⟩
  walk_at "w"
  have e2:(λ(i j:Int)=>PV.int (i - j)) ((pl.map PV.int).length:Int) 1 = .int ((pl.length - 1:Nat):Int):=by dsimp only;rw [e1]
  rw [e2]
  refine pJ hp gi.stl (by rw [gi.ll];omega) (λr hr=>by rw [gi.ll];exact (hrs r (pin r hr).1).1) (by omega) ?_
  walk_at "w"
  have nl:=UD (wC pnd his) (kU his)
  refine vQ (by omega) (by omega) ?_
  walk_at "w"
  have et:(tl ++ [(ks,i5 (HC gs) pl.dropLast)]).map Q7 = tl.map Q7 ++ [.tup [g8 ks,dY (i5 (HC gs) pl.dropLast)]]:=by rw [List.map_append];rfl
  refine hN _ ⟨_,tl ++ [(ks,i5 (HC gs) pl.dropLast)],_,_,_,_,by rw [et],bn,by simp [hti],λj hj=>?_⟩
  have hlen:(tl ++ [(ks,i5 (HC gs) pl.dropLast)]).length = i + 1:=by simp [hti]
  by_cases hji:j < tl.length
  ·rw [List.getElem_append_left hji];exact hall j hji
  ·have ej:j = tl.length:=by omega
   subst ej
   rw [List.getElem_append_right (Nat.le_refl _)]
   simp only [Nat.sub_self,List.getElem_cons_zero]
   rw [hti]
   refine ⟨bs.sm,JH hP bs.sm bs.ld,c1,YN (hP.lt.sublist (List.dropLast_sublist _)) (λm hm=>V5 (by rw [hpe];exact hm)) (by rw [List.length_dropLast];omega),_,bn.sm,JH hP bn.sm bn.ld,?_⟩
   rw [qK,c1,c2,wn]
 ·rintro env ⟨ks,tl,t5,t6,t7,t8,rfl,bs,hti,hall⟩
  walk_at "w"
  rw [bM] at hti
  exact q tl (by omega) hall
theorem rL (bk:List Sr):aP bk ((List.range bk.length).map λ(i:Nat)=>(i:Int)) = bk:=by
 unfold aP
 apply List.ext_getElem
 ·simp
 ·intro i h1 h2
  rw [List.getElem_map,List.getElem_map,List.getElem_range,n6 h2]
theorem FX {bk:List Sr} {ks:List Int} (h:SmOk ks bk.length) (m:Int):aO (aP bk ks) m <= aO bk m:=by
 have e1:=w6 (aP bk ks) m
 have e2:=w6 bk m
 rw [kE h] at e1
 rw [HU] at e2
 have:∀ l:List Nat,(l.map λ(j:Nat)=>if (j:Int) ∈ ks then (if aI (eZ bk (j:Int)) m then (1:Int) else 0) else 0).sum <= (l.map λ(j:Nat)=>if aI (eZ bk (j:Int)) m then (1:Int) else 0).sum:=by
  intro l
  induction l with
  | nil=>exact Int.le_refl _
  | cons j l ih =>
   rw [a0f,List.sum_cons,a0f,List.sum_cons]
   split <;> split <;> omega
 have:=this (List.range bk.length)
 omega
theorem pH {bk:List Sr} {R:PV -> Prop} (hb:bk.length <= 31) (hlt:∀ s ∈ bk,s.b < s.e) (q:∀ G f,Crowd bk G f -> R (.int (G:Nat))):bT [gJ bk] R:=by
 unfold bT
 walk_at "w"
 have hm:(bk.map lI).length = bk.length:=a0c ..
 refine ⟨by omega,by omega,?_⟩
 rw [hm,Int.toNat_natCast,BC]
 walk_at "w"
 have sm:=CB bk.length
 refine AY (by simpa using hb) sm.at_ (by rw [rL];exact hlt) λG f hc=>?_
 rw [rL] at hc
 walk_at "w"
 refine e7 rfl ?_
 exact q G f hc
theorem Bst.stays {bk:List Sr} {G b:Nat} {f:Option Int} {ks:List Int} {pp:List Pr} (hc:Crowd bk G f) (h:Bst bk G ks pp) (hb:G <= b) (hne:G < b):Bst bk b ks pp:=by
 obtain ⟨ks',s',l',c'⟩:=h.nx
 have h1:=yU (b:=(G:Int)) s' (λm=>by have:=FX s' m;have:=hc.top m;omega) h.nn
 rw [qK,h.cl] at c'
 rw [h.cl] at h1
 have hp:pp = []:=by
  cases pp with
  | nil=>rfl
  | cons p pp =>
   have p1:=(h.pr.at_ p a0m).1
   have:∀ l:List Pr,(∀ p ∈ l,0 <= p.2) -> 0 <= (l.map (·.2)).sum:=by
    intro l
    induction l with
    | nil=>intro _;exact Int.le_refl _
    | cons a l ih =>
     intro hl
     have h1:=hl a a0m
     have h2:=ih λp hp=>hl p (a0j _ hp)
     rw [a0f,List.sum_cons];omega
   have:=this pp λp hp=>h.nn p (a0j _ hp)
   rw [a0f,List.sum_cons] at c'
   omega
 subst hp
 have e:∀ c:Int,bL bk c [] = bL bk (G:Int) []:=λc=>by unfold bL;simp
 exact ⟨h.sm,λm=>Nat.le_trans (h.ld m) hb,by rw [e];exact h.cl,h.pr,ks,h.sm,λm=>Nat.le_trans (h.ld m) (by omega),by rw [e];exact h.cl⟩
theorem AX {bk:List Sr} {b:Nat} {R:PV -> Prop} (hb:bk.length <= 31) (hlt:∀ s ∈ bk,s.b < s.e) (hw:∀ s ∈ bk,0 <= s.w) (q:∀ ks pp,Bst bk b ks pp -> R (.tup [g8 ks,dY pp])):eG [gJ bk,.int b] R:=by
 unfold eG
 walk_at "w"
 refine pH hb hlt λG f hc=>?_
 have hG:G <= bk.length:=hc.le_of λm=>List.countP_le_length
 walk_at "w"
 have em:min (b:Int) (G:Int) = ((min b G:Nat):Int):=by omega
 rw [em]
 refine vP hb hlt hw (by omega) λtl hl hall=>?_
 walk_at "w"
 have hlast:=hall (min b G) (by omega)
 refine e6 (z:=Q7 (tl[min b G]'(by omega))) ?_ ?_
 ·have e:tl = tl.dropLast ++ [tl[min b G]'(by omega)]:=by
   have h1:=(List.dropLast_concat_getLast (l:=tl) (λz=>by rw [z] at hl;cases hl)).symm
   rw [List.getLast_eq_getElem] at h1
   have h2:tl.length - 1 = min b G:=by omega
   simp only [h2] at h1
   exact h1
  have e2:tl.map Q7 = tl.dropLast.map Q7 ++ [Q7 (tl[min b G]'(by omega))]:=by
   have:=congrArg (List.map Q7) e
   rw [List.map_append] at this
   exact this
  rw [e2]
  exact HP _ _
 ·refine q _ _ ?_
  by_cases h:b <= G
  ·have e:min b G = b:=by omega
   simp only [e] at hlast ⊢
   exact hlast
  ·have e:min b G = G:=by omega
   simp only [e] at hlast ⊢
   exact hlast.stays hc (by omega) (by omega)
theorem F0 {bk:List Sr} {b:Nat} {R:PV -> Prop} (hb:bk.length <= 31) (hlt:∀ s ∈ bk,s.b < s.e) (hw:∀ s ∈ bk,0 <= s.w) (q:∀ ks pp,Bst bk b ks pp -> R (.tup [.int (jS (aP bk ks)),g8 ks,dY pp])):fR [gJ bk,.int b] R:=by
 unfold fR
 walk_at "w"
 refine AX hb hlt hw λks pp h=>?_
 walk_at "w"
 refine ⟨rfl,?_⟩
 walk_at "w"
 have:=h.sm.len
 refine MX (by omega) h.sm.at_ ?_
 walk_at "w"
 exact q ks pp h
end Lib
set_option maxHeartbeats 4000000
namespace K28
open PySem L2
abbrev dE:PN:=Lib.dE
abbrev cC:PN:=Lib.cC
abbrev dH:PN:=Lib.dH
abbrev eN:PN:=Lib.eN
abbrev cW:PN:=Lib.cW
abbrev bV:PN:=Lib.bV
abbrev bO:PN:=Lib.bO
abbrev bU:PN:=Lib.bU
abbrev cV:PN:=Lib.cV
abbrev dG:PN:=Lib.dG
abbrev tX:PN:=C0
abbrev aZ:PN:=DO
def uI : bE := (pSeq (pSet 2 (pLst (pCons (pUn pNegI (pOp pPowI (pC (.int 10)) (pC (.int 12)))) (pCons (pOp pPowI (pC (.int 10)) (pC (.int 12))) pNil))))
 (pSeq (pFor (piLst (pVar 0)) (pgTup 4 (pgCons (pgName 3) (pgCons (pgName 4) (pgCons (pgName 5) (pgCons (pgName 6) pgNil))))) (pSeq (pSet 2 (pOp pCat (pVar 2) (pLst (pCons (pVar 4) (pCons (pVar 5) pNil)))))
 pNext))
 (pSeq (pSet 7 (pCl zB (pCons (pLc (piLst (pVar 2)) (pgName 0) (pBo (pOp pLeI (pVar 0) (pVar 1))) (pVar 0) (λenv=>[none,jn (l8 env 1)])) pNil)))
 (pRet (pTup (pCons (pVar 7) (pCons (pCl zC (pCons (pLc (piLst (pVar 2)) (pgName 0) (pBo (pOp pGtI (pVar 0) (pVar 1))) (pVar 0) (λenv=>[none,jn (l8 env 1)])) pNil)) pNil)))))))
abbrev uW:{r:bE // r = uI}:=⟨_,by unfold uI;walk_at "rp"⟩
def iD:PN:=xN (λa0 a1=>[some a0,some a1,none,none,none,none,none,none]) (λR=>R .non) uW.1
abbrev dJ:PN:=Lib.dJ
abbrev eJ:PN:=Lib.eJ
abbrev dF:PN:=Lib.dF
abbrev iC:PN:=Lib.iC
abbrev fQ:PN:=Lib.fQ
def uG : bE := (pSeq (pSet 3 (pC (.dic [] [])))
 (pSeq (pFor (piLst (pVar 2)) (pgTup 2 (pgCons (pgName 4) (pgCons (pgName 5) pgNil))) (pSeq (pAsg (pCl iD (pCons (pVar 1) (pCons (pVar 4) pNil))) (pgTup 2 (pgCons (pgName 6) (pgCons (pgName 7) pgNil))))
 (pSeq (pSet 8 (pOp pAddI (pVar 6) (pCl aZ (pCons (pVar 0) (pCons (pOp pSubI (pVar 7) (pVar 6)) pNil)))))
 (pSeq (pDPut 3 (pOp pAddI (pBm "dict" qY (pVar 3) (pCons (pVar 8) (pCons (pC (.int 0)) pNil))) (pVar 5)) (pVar 8))
 pNext))))
 (pRet (pLc (piLst (pCl gF (pCons (pVar 3) pNil))) (pgName 0) pTrue (pTup (pCons (pVar 0) (pCons (pOp d5 (pVar 1) (pVar 0)) pNil))) (λenv=>[none,jn (l8 env 3)])))))
abbrev uU:{r:bE // r = uG}:=⟨_,by unfold uG;walk_at "rp"⟩
def kR:PN:=QU (λa0 a1 a2=>[some a0,some a1,some a2,none,none,none,none,none,none]) (λ_=>False) uU.1
def rD : bE := (pSeq (pSet 3 (pCl qZ (pCons (pVar 2) pNil)))
 (pSeq (pFor (piLst (pSlice pSlL (pVar 2) pNoPart (pPart (pC (.int 4))))) (pgTup 2 (pgCons (pgName 4) (pgCons (pgName 5) pgNil))) (pSeq (pAsg (pCl iD (pCons (pVar 1) (pCons (pVar 4) pNil))) (pgTup 2 (pgCons (pgName 6) (pgCons (pgName 7) pgNil))))
 (pSeq (pIfS (pAnd (pBo (pOp pGtI (pVar 5) (pC (.int 1)))) (pBo (pOp pLtI (pOp pAddI (pVar 6) (pC (.int 1))) (pVar 7)))) (pSeq (pSet 8 (pOp pAddI (pC (.int 1)) (pCl aZ (pCons (pVar 0) (pCons (pOp pSubI (pVar 5) (pC (.int 1))) pNil)))))
 (pSeq (pSet 9 (pOp dM (pLst (pCons (pVar 6) (pCons (pOp pSubI (pVar 7) (pC (.int 1))) pNil))) (pCl pInt1 (pCons (pOp pEqI (pVar 4) (pVar 6)) pNil))))
 (pSeq (pIfS (pBo (pOp pNeI (pVar 9) (pVar 4))) (pSeq (pDPut 3 (pOp pSubI (pOp d5 (pVar 3) (pVar 4)) (pVar 8)) (pVar 4))
 (pSeq (pDPut 3 (pOp pAddI (pBm "dict" qY (pVar 3) (pCons (pVar 9) (pCons (pC (.int 0)) pNil))) (pVar 8)) (pVar 9))
 pNext)) pNext)
 pNext))) pNext)
 pNext)))
 (pRet (pFlatL (pLc (piLst (pCl gF (pCons (pVar 3) pNil))) (pgName 0) (pBo (pOp pGtI (pOp d5 (pVar 1) (pVar 0)) (pC (.int 0)))) (pTup (pCons (pVar 0) (pCons (pOp d5 (pVar 1) (pVar 0)) pNil))) (λenv=>[none,jn (l8 env 3)]))))))
abbrev rR:{r:bE // r = rD}:=⟨_,by unfold rD;walk_at "rp"⟩
def iX:PN:=QU (λa0 a1 a2=>[some a0,some a1,some a2,none,none,none,none,none,none,none]) (λ_=>False) rR.1
abbrev dI:PN:=Lib.dI
abbrev eK:PN:=Lib.eK
abbrev eM:PN:=Lib.eM
abbrev iB:PN:=Lib.iB
abbrev eL:PN:=Lib.eL
abbrev eI:PN:=Lib.eI
abbrev cU:PN:=Lib.cU
abbrev fH:PN:=Lib.fH
abbrev bT:PN:=Lib.bT
abbrev eG:PN:=Lib.eG
def uE : bE := (pSeq (pIfS (pOr (pBo (pOp pGtI (pCl pLen (pCons (pVar 3) pNil)) (pC (.int 48)))) (pBo (pOp pGtI (pClD lV (pCons (pLc (piLst (pVar 3)) (pgTup 2 (pgCons (pgName 0) (pgCons (pgName 1) pgNil))) pTrue (pVar 1) (fun env => [none, none])) pNil) (pC (.int 0))) (pOp pPowI (pC (.int 10)) (pC (.int 13)))))) (pRet (pC (.bl true))) pNext)
 (pSeq (pIfS (pBo (pOp pNeI (pCl fH (pCons (pVar 0) (pCons (pVar 1) (pCons (pVar 2) pNil)))) (pCl fH (pCons (pVar 0) (pCons (pVar 1) (pCons (pVar 3) pNil)))))) (pRet (pC (.bl false))) pNext)
 (pSeq (pFor (piLst (pVar 0)) (pgName 4) (pSeq (pIfS (pBo (pOp pNeI (pCl dJ (pCons (pVar 4) (pCons (pVar 2) pNil))) (pCl dJ (pCons (pVar 4) (pCons (pVar 3) pNil))))) (pRet (pC (.bl false))) pNext)
 (pSeq (pIfS (pBo (pOp pNeI (pCl dI (pCons (pVar 4) (pCons (pVar 2) pNil))) (pCl dI (pCons (pVar 4) (pCons (pVar 3) pNil))))) (pRet (pC (.bl false))) pNext)
 pNext)))
 (pRet (pC (.bl true))))))
abbrev uS:{r:bE // r = uE}:=⟨_,by unfold uE;walk_at "rp"⟩
def iA:PN:=a09 (λa0 a1 a2 a3=>[some a0,some a1,some a2,some a3,none]) (λR=>R .non) uS.1
def uF : bE := (pSeq (pIfS (pBo (pOp pGtI (pClD lV (pCons (pOp pCat (pLc (piLst (pVar 0)) (pgName 0) pTrue (pOp dM (pVar 0) (pC (.int 2))) (fun env => [none])) (pLc (piLst (pVar 2)) (pgName 0) pTrue (pOp pAddI (pOp dM (pVar 0) (pC (.int 0))) (pC (.int 1))) (fun env => [none]))) pNil) (pC (.int 0))) (pOp pSubI (pOp pPowI (pC (.int 10)) (pC (.int 12))) (pC (.int 1))))) (pRet (pC (.bl true))) pNext)
 (pSeq (pSet 3 (pLc (piLst (pVar 0)) (pgName 0) pTrue (pTup (pCons (pOp dM (pVar 0) (pC (.int 0))) (pCons (pOp pAddI (pOp dM (pVar 0) (pC (.int 1))) (pC (.int 1))) (pCons (pOp pAddI (pOp dM (pVar 0) (pC (.int 2))) (pC (.int 1))) (pCons (pOp dM (pVar 0) (pC (.int 3))) pNil))))) (λenv=>[none])))
 (pSeq (pSet 4 (pLc (piLst (pVar 2)) (pgTup 2 (pgCons (pgName 0) (pgCons (pgName 1) pgNil))) pTrue (pTup (pCons (pOp pAddI (pVar 0) (pC (.int 1))) (pCons (pVar 1) pNil))) (λenv=>[none,none])))
 (pRet (pOp pEqI (pCl fH (pCons (pVar 3) (pCons (pVar 1) (pCons (pVar 4) pNil)))) (pCl fH (pCons (pVar 0) (pCons (pVar 1) (pCons (pVar 2) pNil)))))))))
abbrev uT:{r:bE // r = uF}:=⟨_,by unfold uF;walk_at "rp"⟩
def kQ:PN:=QU (λa0 a1 a2=>[some a0,some a1,some a2,none,none]) (λR=>R .non) uT.1
abbrev fR:PN:=Lib.fR
def RC : bE := (pSeq (pFor (piRng1 (pCl pMax2 (pCons (pC (.int 1)) (pCons (pCl pMin2 (pCons (pCl pLenScr (pCons (pVar 0) pNil)) (pCons (pC (.int 16)) pNil))) pNil)))) (pgName 1) (pSeq (pSet 2 (pCl tX (pCons (pVar 0) (pCons (pVar 1) pNil))))
 (pSeq (pSet 3 (pCl iB (pCons (pVar 2) (pCons (pC (.int 8)) pNil))))
 (pSeq (pSet 4 (pCl aZ (pCons (pVar 2) (pCons (pC (.int 7)) pNil))))
 (pSeq (pFor (piLst (pLst (pCons (pOp dM (pCl fR (pCons (pVar 3) (pCons (pVar 4) pNil))) (pC (.int 2))) (pCons (pCl fQ (pCons (pVar 2) (pCons (pVar 3) pNil))) pNil)))) (pgName 5) (pSeq (pIfS (pNot (pBo (pCl iA (pCons (pVar 3) (pCons (pVar 4) (pCons (pVar 5) (pCons (pCl kR (pCons (pVar 2) (pCons (pVar 3) (pCons (pVar 5) pNil)))) pNil))))))) (pRet (pC (.bl false))) pNext)
 (pSeq (pIfS (pNot (pBo (pCl iA (pCons (pVar 3) (pCons (pVar 4) (pCons (pVar 5) (pCons (pCl iX (pCons (pVar 2) (pCons (pVar 3) (pCons (pVar 5) pNil)))) pNil))))))) (pRet (pC (.bl false))) pNext)
 (pSeq (pIfS (pNot (pBo (pCl kQ (pCons (pVar 3) (pCons (pVar 4) (pCons (pVar 5) pNil)))))) (pRet (pC (.bl false))) pNext)
 pNext))))
 pNext)))))
 (pRet (pC (.bl true))))
abbrev RI:{r:bE // r = RC}:=⟨_,by unfold RC;walk_at "rp"⟩
def IH:PN:=S6 (λa0=>[some a0,none,none,none,none,none]) (λR=>R .non) RI.1
end K28
set_option maxHeartbeats 2000000
namespace K28
open PySem L2 Lib
def KC (bk:List Sr):List Int:=[-1000000000000,1000000000000] ++ bk.flatMap λs=>[s.b,s.e]
structure Piece (bk:List Sr) (m lo hi:Int):Prop where
 le:lo <= m
 lt:m < hi
 ml:∀ x ∈ KC bk,x <= m -> x <= lo
 mh:∀ x ∈ KC bk,m < x -> hi <= x
theorem YO {bk:List Sr} {s:Sr} (h:s ∈ bk):s.b ∈ KC bk /\ s.e ∈ KC bk:=by
 unfold KC
 constructor <;> exact List.mem_append_right _ (List.mem_flatMap.mpr ⟨s,h,by simp⟩)
theorem Piece.over {bk:List Sr} {m lo hi x:Int} (h:Piece bk m lo hi) (h0:lo <= x) (h1:x < hi) {s:Sr} (hs:s ∈ bk):aI s x = aI s m:=by
 obtain ⟨p1,p2⟩:=YO hs
 have e1:=h.le;have e2:=h.lt
 have a1:=h.ml _ p1;have a2:=h.ml _ p2;have b1:=h.mh _ p1;have b2:=h.mh _ p2
 rw [Bool.eq_iff_iff,bP,bP]
 omega
theorem O2 {ns:List Int} {m:Int} {Q:PV -> Prop} {e1:Option PV} (q:Q (g8 (ns.filter λx=>decide (x <= m)))) :
  fA (RD.pgName 0) (RD.pBo (RD.pOp RD.pLeI (RD.pVar 0) (RD.pVar 1))) (RD.pVar 0) Q (ns.map PV.int) [] [e1,some (.int m)]:=by
 refine gC (λx=>match x with | .int k=>if k <= m then some (.int k) else none | _=>none) (λenv=>∃ t,env = [t,some (.int m)]) ⟨e1,rfl⟩ ?_ ?_
 ·rintro x env N hx ⟨t,rfl⟩ hN
  obtain ⟨k,hk,rfl⟩:=List.mem_map.mp hx
  have hN:=hN [some (.int k),some (.int m)] ⟨_,rfl⟩
  dsimp only at hN
  walk_at "w"
  refine AF (λh=>?_) λh=>?_
  ·rw [if_pos h] at hN;exact hN
  ·rw [if_neg h] at hN;exact hN
 ·rw [List.nil_append]
  have:(ns.map PV.int).filterMap (λx=>match x with | .int k=>if k <= m then some (PV.int k) else none | _=>none) = (ns.filter λx=>decide (x <= m)).map PV.int:=by
   rw [List.filterMap_map,<- List.filterMap_eq_map,List.filterMap_filter]
   congr 1;funext k
   show (if k <= m then some (PV.int k) else none) = _
   by_cases h:k <= m
   ·rw [if_pos h,if_pos (decide_eq_true h)];rfl
   ·rw [if_neg h,if_neg (by simp [h])]
  rw [this];exact q
theorem JE {ns:List Int} {m:Int} {Q:PV -> Prop} {e1:Option PV} (q:Q (g8 (ns.filter λx=>decide (m < x)))) :
  fA (RD.pgName 0) (RD.pBo (RD.pOp RD.pGtI (RD.pVar 0) (RD.pVar 1))) (RD.pVar 0) Q (ns.map PV.int) [] [e1,some (.int m)]:=by
 refine gC (λx=>match x with | .int k=>if m < k then some (.int k) else none | _=>none) (λenv=>∃ t,env = [t,some (.int m)]) ⟨e1,rfl⟩ ?_ ?_
 ·rintro x env N hx ⟨t,rfl⟩ hN
  obtain ⟨k,hk,rfl⟩:=List.mem_map.mp hx
  have hN:=hN [some (.int k),some (.int m)] ⟨_,rfl⟩
  dsimp only at hN
  walk_at "w"
  refine AF (λh=>?_) λh=>?_
  ·rw [if_pos h] at hN;exact hN
  ·rw [if_neg h] at hN;exact hN
 ·rw [List.nil_append]
  have:(ns.map PV.int).filterMap (λx=>match x with | .int k=>if m < k then some (PV.int k) else none | _=>none) = (ns.filter λx=>decide (m < x)).map PV.int:=by
   rw [List.filterMap_map,<- List.filterMap_eq_map,List.filterMap_filter]
   congr 1;funext k
   show (if m < k then some (PV.int k) else none) = _
   by_cases h:m < k
   ·rw [if_pos h,if_pos (decide_eq_true h)];rfl
   ·rw [if_neg h,if_neg (by simp [h])]
  rw [this];exact q
theorem yG (bk:List Sr):(bk.flatMap λs=>[s.b,s.e]).length = 2 * bk.length:=by
 induction bk with
 | nil=>rfl
 | cons s bk ih=>rw [List.flatMap_cons,List.length_append,ih,List.length_cons];simp;omega
theorem tS {bk:List Sr} {m:Int} {R:PV -> Prop} (hl:bk.length <= 100) (h0:-1000000000000 <= m) (h1:m < 1000000000000) (q:∀ lo hi,Piece bk m lo hi -> R (.tup [.int lo,.int hi])):iD [gJ bk,.int m] R:=by
 unfold iD
 walk_at "w"
 refine ⟨⟨by decide,by decide,by decide⟩,?_⟩
 walk_at "w"
 refine ⟨⟨by decide,by decide,by decide⟩,?_⟩
 walk_at "w"
 refine cL (λi env=>∃ (t3 t4 t5 t6:Option PV),env = [some (gJ bk),some (.int m),some (g8 ([-1000000000000,1000000000000] ++ (bk.take i).flatMap λs=>[s.b,s.e])),t3,t4,t5,t6,none]) ⟨_,_,_,_,rfl⟩ ?_ ?_
 ·rintro i x env N hx ⟨t3,t4,t5,t6,rfl⟩ hN
  rw [a0h,Option.map_eq_some_iff] at hx
  obtain ⟨s,hs,rfl⟩:=hx
  show RD.pgTup 4 _ (.tup [.str s.nm,.int s.b,.int s.e,.int s.w]) _ _
  walk_at "w"
  refine ⟨rfl,?_⟩
  walk_at "w"
  have:=yG (bk.take i)
  rw [List.length_take] at this
  refine ⟨b8 (by rw [a0c,List.length_append,this];simp;omega),?_⟩
  have e:List.map PV.int ([-1000000000000,1000000000000] ++ (bk.take i).flatMap λs=>[s.b,s.e]) ++ [PV.int s.b,PV.int s.e] = List.map PV.int ([-1000000000000,1000000000000] ++ (bk.take (i + 1)).flatMap λs=>[s.b,s.e]):=by
   rw [List.take_add_one,hs]
   simp
  rw [e]
  exact hN _ ⟨_,_,_,_,rfl⟩
 ·rintro env ⟨t3,t4,t5,t6,rfl⟩
  rw [a0c,List.take_length]
  have pl:(KC bk).length <= 202:=by
   have:=yG bk
   unfold KC
   rw [List.length_append,this];simp;omega
  have p0:(-1000000000000:Int) ∈ KC bk:=List.mem_append_left _ (by simp)
  have p1:(1000000000000:Int) ∈ KC bk:=List.mem_append_left _ (by simp)
  change _ at pl
  rw [show [-1000000000000,1000000000000] ++ (bk.flatMap λs=>[s.b,s.e]) = KC bk from rfl]
  generalize hps:KC bk = ps at pl p0 p1
  walk_at "w"
  refine ⟨b8 (by rw [a0c];omega),?_⟩
  refine O2 ?_
  refine OJ (List.length_pos_of_mem (List.mem_filter.mpr ⟨p0,decide_eq_true h0⟩)) λlo hlo hmax=>?_
  walk_at "w"
  refine ⟨b8 (by rw [a0c];omega),?_⟩
  refine JE ?_
  refine OK (List.length_pos_of_mem (List.mem_filter.mpr ⟨p1,decide_eq_true h1⟩)) λhi hhi hmin=>?_
  walk_at "w"
  rw [List.mem_filter,decide_eq_true_iff] at hlo hhi
  refine q lo hi ⟨hlo.2,hhi.2,λx hx h=>?_,λx hx h=>?_⟩
  ·exact hmax x (List.mem_filter.mpr ⟨hps ▸ hx,decide_eq_true h⟩)
  ·exact hmin x (List.mem_filter.mpr ⟨hps ▸ hx,decide_eq_true h⟩)
def Al (bk:List Sr) (P:Int -> Bool):Prop:=∀ m lo hi x,Piece bk m lo hi -> lo <= x -> x < hi -> P x = P m
structure Sam (bk:List Sr) (pp qq:List Pr):Prop where
 len:qq.length <= 24
 v1:∀ p ∈ qq,1 <= p.2
 sum:∀ P,Al bk P -> gG P qq = gG P pp
abbrev MK (m v:Int):Prop:=(-1000000000000 <= m /\ m < 1000000000000) /\ 1 <= v
theorem Piece.lo0 {bk:List Sr} {m lo hi:Int} (h:Piece bk m lo hi) (h0:-1000000000000 <= m):-1000000000000 <= lo:=h.ml _ (List.mem_append_left _ (by simp)) h0
theorem Piece.hi1 {bk:List Sr} {m lo hi:Int} (h:Piece bk m lo hi) (h1:m < 1000000000000):hi <= 1000000000000:=h.mh _ (List.mem_append_left _ (by simp)) h1
theorem EY {bk:List Sr} {pp:List Pr} {R:PV -> Prop} (hl:bk.length <= 100) (hp:PpOk pp MK 16) (q:∀ qq,Sam bk pp qq -> R (dY qq)):kR [.st,gJ bk,dY pp] R:=by
  have hpl:=hp.len
  unfold kR
  walk_at "w"
  refine cL (λi env=>∃ (kv:List Pr) (t4 t5 t6 t7 t8:Option PV),env = [some .st,some (gJ bk),some (dY pp),some (sR kv),t4,t5,t6,t7,t8] /\ KvOk kv (λ_ v=>1 <= v) i /\ ∀ P,Al bk P -> gG P kv = gG P (pp.take i)) ⟨[],_,_,_,_,_,rfl,KvOk.nil,λ_ _=>rfl⟩ ?_ ?_
  · rintro i x env N hx ⟨kv,t4,t5,t6,t7,t8,rfl,hk,hs⟩ hN
    rw [a0h,Option.map_eq_some_iff] at hx
    obtain ⟨⟨m,v⟩,hpi,rfl⟩:=hx
    have hkl:=hk.len
    have hi:=(a0i.mp hpi).1
    obtain ⟨⟨m0,m1⟩,v1⟩:=hp.at_ _ (List.mem_of_getElem? hpi)
    dsimp only at m0 m1 v1
    show RD.pgTup 2 _ (.tup [.int m,.int v]) _ _
    walk_at "w"
    refine ⟨rfl,?_⟩
    walk_at "w"
    refine tS hl m0 m1 λlo hi pc=>?_
    have l0:=pc.lo0 m0
    have h1:=pc.hi1 m1
    have e1:=pc.le
    have e2:=pc.lt
    walk_at "w"
    refine ⟨rfl,?_⟩
    walk_at "w"
    refine ⟨by omega, by have : (3000000000000 : Int) < 2 ^ 250 := by decide
                         omega,λr r0 r1=>?_⟩
    walk_at "w"
    refine ⟨rfl,?_⟩
    refine zA ?_
    walk_at "w"
    refine ⟨by rw [a0c];omega,?_⟩
    rw [pX]
    refine hN _ ⟨_,_,_,_,_,_,rfl,hk.put ?_,λP hP=>?_⟩
    · rcases DF hk (m:=lo + r) with e | ⟨u,e,hu⟩
      · rw [e];show 1 <= 0 + v;omega
      · rw [e];show 1 <= u + v;omega
    · rw [rO P hk.nd,hs P hP,List.take_add_one,hpi,KB,hP m lo hi (lo + r) pc (by omega) (by omega)]
      show _ = _ + gG P [(m,v)]
      rw [bH]
      show _ = _ + ((if P m then v else 0) + 0)
      omega
  · rintro env ⟨kv,t4,t5,t6,t7,t8,rfl,hk,hs⟩
    rw [a0c] at hk hs
    rw [List.take_length] at hs
    have hkl:=hk.len
    walk_at "w"
    refine lT (by omega) ?_
    walk_at "w"
    refine ⟨b8 (by rw [a0c,(bF _).length_eq,a0c];omega),?_⟩
    refine uA ?_
    have so:=hk.sort
    refine q _ ⟨by have:=so.len;omega,so.at_,λP hP=>?_⟩
    rw [uQ P hk.nd,hs P hP]
theorem qU {m v k:Int}:∀ {kv:List Pr},bZ (j4 kv m v) k = if k = m then some v else bZ kv k:=by
 intro kv
 induction kv with
 | nil =>
  rw [show j4 [] m v = [(m,v)] from rfl]
  unfold bZ
  by_cases h:k = m
  ·rw [if_pos h,List.find?_cons,decide_eq_true (show (m,v).1 = k from h.symm)];rfl
  ·rw [if_neg h,List.find?_cons,decide_eq_false (show ¬ (m,v).1 = k from λz=>h z.symm)]
 | cons p kv ih =>
  by_cases hp:p.1 = m
  ·have e:j4 (p :: kv) m v = (m,v) :: kv.map λp=>if p.1 = m then (p.1,v) else p:=by
    unfold j4
    rw [if_pos (by rw [List.any_cons,decide_eq_true hp];rfl),a0f,if_pos hp,hp]
   rw [e]
   unfold bZ
   by_cases h:k = m
   ·rw [if_pos h,List.find?_cons,decide_eq_true (show (m,v).1 = k from h.symm)];rfl
   ·rw [if_neg h,List.find?_cons,decide_eq_false (show ¬ (m,v).1 = k from λz=>h z.symm),List.find?_cons,decide_eq_false (show ¬ p.1 = k from λz=>h (by rw [<- z,hp]))]
    dsimp only
    clear ih e
    induction kv with
    | nil=>rfl
    | cons q kv ih =>
     rw [a0f,List.find?_cons,List.find?_cons]
     by_cases hq:q.1 = m
     ·rw [if_pos hq,decide_eq_false (show ¬ (q.1,v).1 = k from λz=>h (by rw [<- z,<- hq]))]
      exact ih
     ·rw [if_neg hq]
      cases decide (q.1 = k) with
      | true=>rfl
      | false=>exact ih
  ·have e:j4 (p :: kv) m v = p :: j4 kv m v:=by
    unfold j4
    rw [List.any_cons,decide_eq_false hp,Bool.false_or]
    split
    ·rw [a0f,if_neg hp]
    ·rfl
   rw [e]
   by_cases h:p.1 = k
   ·have:¬ k = m:=λz=>hp (by rw [h,z])
    rw [if_neg this]
    unfold bZ
    rw [List.find?_cons,decide_eq_true h,List.find?_cons,decide_eq_true h]
   ·have e1:∀ l,bZ (p :: l) k = bZ l k:=λl=>by unfold bZ;rw [List.find?_cons,decide_eq_false h]
    rw [e1,e1,ih]
theorem FU {kv:List Pr} {p:Pr} (nd:(kv.map (·.1)).Nodup) (h:p ∈ kv):bZ kv p.1 = some p.2:=by
 induction kv with
 | nil=>cases h
 | cons q kv ih =>
  rw [a0f,List.nodup_cons] at nd
  rcases List.mem_cons.mp h with rfl | z
  ·unfold bZ;rw [List.find?_cons,decide_eq_true rfl];rfl
  ·have:¬ q.1 = p.1:=λe=>nd.1 (List.mem_map.mpr ⟨p,z,e.symm⟩)
   unfold bZ
   rw [List.find?_cons,decide_eq_false this]
   exact ih nd.2 z
theorem BH {kv:List Pr} {Q:PV -> Prop} {e1:Option PV} (h1:∀ p ∈ kv,1 <= p.2) (q:Q (dY (gB kv))) :
  fA (RD.pgName 0) (RD.pBo (RD.pOp RD.pGtI (RD.pOp d5 (RD.pVar 1) (RD.pVar 0)) (RD.pC (PV.int 0)))) (RD.pTup (RD.pCons (RD.pVar 0) (RD.pCons (RD.pOp d5 (RD.pVar 1) (RD.pVar 0)) RD.pNil))) Q ((gA (kv.map (·.1))).map PV.int) [] [e1,some (sR kv)]:=by
 refine gC (λx=>match x with | .int m=>some (uP (m,(bZ kv m).getD 0)) | _=>none) (λenv=>∃ t,env = [t,some (sR kv)]) ⟨e1,rfl⟩ ?_ ?_
 ·rintro x env N hx ⟨t,rfl⟩ hN
  obtain ⟨m,hm,rfl⟩:=List.mem_map.mp hx
  obtain ⟨v,e,hv⟩:=mL ((bF _).mem_iff.mp hm)
  have hN:=hN [some (.int m),some (sR kv)] ⟨_,rfl⟩
  dsimp only at hN
  rw [e] at hN
  have v1:=h1 _ hv
  have g:∀ {Q:PV -> Prop},Q (.int v) -> d5 (sR kv) (.int m) Q:=λq=>by
   unfold d5 sR
   dsimp only
   rw [pR,e]
   exact q
  walk_at "w"
  refine g ?_
  walk_at "w"
  refine AF (λ_=>?_) λz=>absurd v1 (by dsimp only at *;omega)
  walk_at "w"
  refine g ?_
  exact hN
 ·rw [List.nil_append]
  have:((gA (kv.map (·.1))).map PV.int).filterMap (λx=>match x with | .int m=>some (uP (m,(bZ kv m).getD 0)) | _=>none) = (gB kv).map uP:=by
   unfold gB
   generalize gA (kv.map (·.1)) = ms
   rw [List.filterMap_map,List.map_map,<- List.filterMap_eq_map];rfl
  rw [this];exact q
theorem YK {lo hi m:Int} {Q:PV -> Prop} (q:∀ o:Int,(o = lo \/ o = hi - 1) -> Q (.int o)):dM (PV.lst [PV.int lo,PV.int (hi - 1)]) (PV.int (if decide (m = lo) = true then 1 else 0)) Q:=by
 split
 ·exact e6 nU (q _ (.inr rfl))
 ·exact e6 nT (q _ (.inl rfl))
theorem JX {kv:List Pr} {m u:Int} {Q:PV -> Prop} (e:bZ kv m = some u) (q:Q (.int u)):d5 (sR kv) (.int m) Q:=by
 unfold d5 sR
 dsimp only
 rw [pR,e]
 exact q
theorem AZ {bk:List Sr} {pp:List Pr} {R:PV -> Prop} (hl:bk.length <= 100) (hp:PpOk pp MK 16) (hv:∀ p ∈ pp,p.2 <= 1000000000000000) (q:∀ qq,Sam bk pp qq -> R (dY qq)):iX [.st,gJ bk,dY pp] R:=by
  have hpl:=hp.len
  have hkp:=hp.kv
  unfold iX
  walk_at "w"
  refine JY hkp.nd (by omega) ?_
  walk_at "w"
  have ec:sQ (pp.map uP) none (some 4) = (pp.take 4).map uP:=by
    rw [List.map_take]
    generalize pp.map uP = xs
    unfold sQ
    rw [HT.sIx_none,show (4:Int) = ((4:Nat):Int) from rfl,HT.sIx_nat,List.drop_zero]
    by_cases h:4 <= xs.length
    · congr 1;omega
    · rw [List.take_of_length_le (by omega),List.take_of_length_le (by omega)]
  rw [ec]
  refine cL (λi env=>∃ (kv:List Pr) (t4 t5 t6 t7 t8 t9:Option PV),env = [some .st,some (gJ bk),some (dY pp),some (sR kv),t4,t5,t6,t7,t8,t9] /\ KvOk kv (λ_ v=>1 <= v) (16 + 2 * i) /\ (∀ j p,i <= j -> pp[j]? = some p -> ∃ u,bZ kv p.1 = some u /\ p.2 <= u) /\ ∀ P,Al bk P -> gG P kv = gG P pp) ⟨pp,_,_,_,_,_,_,rfl,⟨hkp.nd,λp h=>(hkp.at_ p h).2,hpl⟩,λj p _ h=>⟨p.2,FU hkp.nd (List.mem_of_getElem? h),Int.le_refl _⟩,λ_ _=>rfl⟩ ?_ ?_
  · rintro i x env N hx ⟨kv,t4,t5,t6,t7,t8,t9,rfl,hk,hg,hs⟩ hN
    rw [a0h,Option.map_eq_some_iff] at hx
    obtain ⟨⟨m,v⟩,hpi,rfl⟩:=hx
    have hi:i < 4:=by
      have:=(a0i.mp hpi).1
      rw [List.length_take] at this;omega
    rw [List.getElem?_take_of_lt hi] at hpi
    have hkl:=hk.len
    obtain ⟨⟨m0,m1⟩,v1⟩:=hp.at_ _ (List.mem_of_getElem? hpi)
    have vv:=hv _ (List.mem_of_getElem? hpi)
    dsimp only at m0 m1 v1 vv
    have hst:KvOk kv (λ_ v=>1 <= v) (16 + 2 * (i + 1)):=⟨hk.nd,hk.at_,by omega⟩
    have hgt:∀ j p,i + 1 <= j -> pp[j]? = some p -> ∃ u,bZ kv p.1 = some u /\ p.2 <= u:=λj p hj=>hg j p (by omega)
    show RD.pgTup 2 _ (.tup [.int m,.int v]) _ _
    walk_at "w"
    refine ⟨rfl,?_⟩
    walk_at "w"
    refine tS hl m0 m1 λlo hi pc=>?_
    have l0:=pc.lo0 m0
    have h1:=pc.hi1 m1
    have e1:=pc.le
    have e2:=pc.lt
    walk_at "w"
    refine ⟨rfl,?_⟩
    walk_at "w"
    refine AF (λhv1=>?_) λ_=>?_
    · walk_at "w"
      refine AF (λhlh=>?_) λ_=>?_
      · walk_at "w"
        refine ⟨by omega, by have : (3000000000000000 : Int) < 2 ^ 250 := by decide
                             omega,λr r0 r1=>?_⟩
        walk_at "w"
        refine YK λo ho=>?_
        have ol:lo <= o /\ o < hi:=by omega
        walk_at "w"
        refine HY (λhne=>?_) λ_=>?_
        · walk_at "w"
          obtain ⟨u,eu,hu⟩:=hg i _ (Nat.le_refl _) hpi
          dsimp only at eu hu
          refine JX eu ?_
          walk_at "w"
          refine ⟨by rw [a0c];omega,?_⟩
          rw [pX]
          walk_at "w"
          refine ⟨rfl,?_⟩
          refine zA ?_
          walk_at "w"
          have k1:KvOk (j4 kv m (u - (1 + r))) (λ_ v=>1 <= v) (16 + 2 * i + 1):=hk.put (by show 1 <= u - (1 + r);omega)
          have kl:=k1.len
          refine ⟨by rw [a0c];omega,?_⟩
          rw [pX]
          walk_at "w"
          refine hN _ ⟨_,_,_,_,_,_,_,rfl,k1.put ?_,λj p hj hpj=>?_,λP hP=>?_⟩
          · rcases DF k1 (m:=o) with e | ⟨w,e,hw⟩
            · rw [e];show 1 <= 0 + (1 + r);omega
            · rw [e];show 1 <= w + (1 + r);omega
          · obtain ⟨w,ew,hw⟩:=hg j p (by omega) hpj
            have hmp:¬ p.1 = m:=by
              have hlt:=(a0i.mp hpj)
              have hli:=(a0i.mp hpi)
              have:=List.pairwise_iff_getElem.mp hp.lt i j hli.1 hlt.1 (by omega)
              rw [hlt.2,hli.2] at this
              intro z;rw [z] at this;exact absurd this (Int.lt_irrefl _)
            rw [qU,qU,qU]
            by_cases ez:p.1 = o
            · rw [if_pos ez,if_neg hne]
              rw [ez] at ew
              exact ⟨_,rfl,by rw [ew];show p.2 <= w + (1 + r);omega⟩
            · rw [if_neg ez,if_neg hmp];exact ⟨w,ew,hw⟩
          · rw [rO P k1.nd]
            have:=rO P (m:=m) (v:=-(1 + r)) hk.nd
            rw [eu] at this
            rw [show u - (1 + r) = (some u).getD 0 + -(1 + r) from rfl,this,hs P hP,hP m lo hi o pc ol.1 ol.2]
            cases P m with
            | true=>rw [if_pos rfl,if_pos rfl];omega
            | false=>rw [if_neg a0k,if_neg a0k];omega
        · exact hN _ ⟨_,_,_,_,_,_,_,rfl,hst,hgt,hs⟩
      · exact hN _ ⟨_,_,_,_,_,_,_,rfl,hst,hgt,hs⟩
    · exact hN _ ⟨_,_,_,_,_,_,_,rfl,hst,hgt,hs⟩
  · rintro env ⟨kv,t4,t5,t6,t7,t8,t9,rfl,hk,hg,hs⟩
    have hkl:=hk.len
    rw [a0c,List.length_take] at hkl
    walk_at "w"
    refine lT (by omega) ?_
    walk_at "w"
    refine ⟨b8 (by rw [a0c,(bF _).length_eq,a0c];omega),?_⟩
    refine BH hk.at_ ⟨yI _,?_⟩
    have so:=hk.sort
    refine q _ ⟨by have:=so.len;rw [a0c,List.length_take] at this;omega,so.at_,λP hP=>?_⟩
    rw [uQ P hk.nd,hs P hP]
theorem Sam.toll {bk:List Sr} {pp qq:List Pr} (h:Sam bk pp qq) {s:Sr} (hs:s ∈ bk):d4 s qq = d4 s pp:=by
 rw [<- kX,<- kX]
 exact h.sum _ λm lo hi x pc h0 h1=>pc.over h0 h1 hs
theorem Sam.rest {bk:List Sr} {pp qq:List Pr} (h:Sam bk pp qq) {s:Sr} (hs:s ∈ bk):c9 s qq = c9 s pp:=by
 unfold c9
 rw [h.toll hs]
theorem Sam.claim {bk:List Sr} {pp qq:List Pr} (h:Sam bk pp qq) (b:Int):bL bk b qq = bL bk b pp:=by
 have e:=h.sum (λ_=>true) λ_ _ _ _ _ _ _=>rfl
 rw [iG,iG] at e
 unfold bL d7
 rw [e]
 congr 2
 exact List.map_congr_left λs hs=>h.rest hs
theorem rM {ns:List Int} {k:Int} {Q:PV -> Prop} (q:∀ M:Int,Q (.int M)):lV [g8 ns] (.int k) Q:=K5 (λ_=>q _) λ_ M _ _=>q M
theorem tR {bk:List Sr} {b:Int} {pp qq:List Pr} {R:PV -> Prop} (hl:bk.length <= 100) (b0:0 <= b) (b1:b <= 1000) (hpl:pp.length <= 16) (hp0:∀ p ∈ pp,0 <= p.2) (h:Sam bk pp qq) (q:R (.bl true)):iA [gJ bk,.int b,dY pp,dY qq] R:=by
 have hql:=h.len
 have hq0:∀ p ∈ qq,0 <= p.2:=λp hp=>by have:=h.v1 p hp;omega
 unfold iA
 walk_at "w"
 refine AF (λz=>absurd z (by rw [a0c];omega)) λ_=>?_
 walk_at "w"
 refine ⟨b8 (by rw [a0c];omega),?_⟩
 refine U6 ?_
 refine rM λM=>?_
 walk_at "w"
 refine ⟨⟨by decide,by decide,by decide⟩,?_⟩
 walk_at "w"
 refine AF (λ_=>q) λ_=>?_
 walk_at "w"
 refine pQ (by omega) (by omega) hp0 b0 b1 ?_
 walk_at "w"
 refine pQ (by omega) (by omega) hq0 b0 b1 ?_
 walk_at "w"
 refine HY (λz=>absurd (h.claim b).symm z) λ_=>?_
 walk_at "w"
 refine vW (λenv=>∃ t,env = [some (gJ bk),some (.int b),some (dY pp),some (dY qq),t]) ⟨_,rfl⟩ ?_ ?_
 ·rintro x env N hx ⟨t,rfl⟩ hN
  obtain ⟨s,hs,rfl⟩:=List.mem_map.mp hx
  walk_at "w"
  refine o6 (by omega) ?_
  walk_at "w"
  refine o6 (by omega) ?_
  walk_at "w"
  refine HY (λz=>absurd (h.toll hs).symm z) λ_=>?_
  walk_at "w"
  refine o5 (by omega) ?_
  walk_at "w"
  refine o5 (by omega) ?_
  walk_at "w"
  refine HY (λz=>absurd (h.rest hs).symm z) λ_=>?_
  exact hN _ ⟨_,rfl⟩
 ·rintro env ⟨t,rfl⟩
  exact q
def RM (s:Sr):Sr:=⟨s.nm,s.b + 1,s.e + 1,s.w⟩
def WZ (p:Pr):Pr:=(p.1 + 1,p.2)
theorem QB (s:Sr) (pp:List Pr):d4 (RM s) (pp.map WZ) = d4 s pp:=by
 unfold d4
 rw [List.filter_map,List.map_map]
 congr 2
 congr 1
 funext p
 show aI (RM s) (p.1 + 1) = aI s p.1
 rw [Bool.eq_iff_iff,bP,bP]
 unfold RM
 dsimp only
 omega
theorem IF (bk:List Sr) (b:Int) (pp:List Pr):bL (bk.map RM) b (pp.map WZ) = bL bk b pp:=by
 unfold bL d7
 rw [List.map_map,List.map_map]
 congr 2
 refine List.map_congr_left λs _=>?_
 show c9 (RM s) (pp.map WZ) = c9 s pp
 unfold c9
 rw [QB]
 rfl
theorem U5 {bk:List Sr} {Q:PV -> Prop} {e1:Option PV} (q:Q (gJ (bk.map RM))) :
  fA (RD.pgName 0) RD.pTrue (RD.pTup (RD.pCons (RD.pOp dM (RD.pVar 0) (RD.pC (PV.int 0))) (RD.pCons (RD.pOp RD.pAddI (RD.pOp dM (RD.pVar 0) (RD.pC (PV.int 1))) (RD.pC (PV.int 1))) (RD.pCons (RD.pOp RD.pAddI (RD.pOp dM (RD.pVar 0) (RD.pC (PV.int 2))) (RD.pC (PV.int 1))) (RD.pCons (RD.pOp dM (RD.pVar 0) (RD.pC (PV.int 3))) RD.pNil))))) Q (bk.map lI) [] [e1]:=by
 refine eP (λi acc env=>acc = ((bk.take i).map RM).map lI /\ ∃ t,env = [t]) ⟨rfl,_,rfl⟩ ?_ ?_
 ·rintro i x acc env N hx ⟨rfl,t,rfl⟩ hN
  rw [a0h,Option.map_eq_some_iff] at hx
  obtain ⟨s,hs,rfl⟩:=hx
  unfold lI at hN ⊢
  walk_at "w"
  refine e7 nT ?_
  walk_at "w"
  refine e7 nU ?_
  walk_at "w"
  refine e7 qD ?_
  walk_at "w"
  refine e7 vK ?_
  refine hN _ _ ⟨?_,_,rfl⟩
  rw [List.take_add_one,hs]
  simp [RM]
 ·rintro acc env ⟨rfl,t,rfl⟩
  rw [a0c,List.take_length];exact q
theorem U4 {pp:List Pr} {Q:PV -> Prop} {e1 e2:Option PV} (q:Q (dY (pp.map WZ))) :
  fA (RD.pgTup 2 (RD.pgCons (RD.pgName 0) (RD.pgCons (RD.pgName 1) RD.pgNil))) RD.pTrue (RD.pTup (RD.pCons (RD.pOp RD.pAddI (RD.pVar 0) (RD.pC (PV.int 1))) (RD.pCons (RD.pVar 1) RD.pNil))) Q (pp.map uP) [] [e1,e2]:=by
 refine eP (λi acc env=>acc = ((pp.take i).map WZ).map uP /\ ∃ t1 t2,env = [t1,t2]) ⟨rfl,_,_,rfl⟩ ?_ ?_
 ·rintro i x acc env N hx ⟨rfl,t1,t2,rfl⟩ hN
  rw [a0h,Option.map_eq_some_iff] at hx
  obtain ⟨⟨m,v⟩,hp,rfl⟩:=hx
  show RD.pgTup 2 _ (.tup [.int m,.int v]) _ _
  walk_at "w"
  refine ⟨rfl,?_⟩
  walk_at "w"
  refine hN _ _ ⟨?_,_,_,rfl⟩
  rw [List.take_add_one,hp]
  simp [WZ,uP]
 ·rintro acc env ⟨rfl,t1,t2,rfl⟩
  rw [a0c,List.take_length];exact q
theorem FW {pp:List Pr} {Q:PV -> Prop} {e1:Option PV} (q:Q (g8 (pp.map λp=>p.1 + 1))) :
  fA (RD.pgName 0) RD.pTrue (RD.pOp RD.pAddI (RD.pOp dM (RD.pVar 0) (RD.pC (PV.int 0))) (RD.pC (PV.int 1))) Q (pp.map uP) [] [e1]:=by
 refine eP (λi acc env=>acc = ((pp.take i).map λp=>p.1 + 1).map PV.int /\ ∃ t,env = [t]) ⟨rfl,_,rfl⟩ ?_ ?_
 ·rintro i x acc env N hx ⟨rfl,t,rfl⟩ hN
  rw [a0h,Option.map_eq_some_iff] at hx
  obtain ⟨⟨m,v⟩,hp,rfl⟩:=hx
  walk_at "w"
  show dM (.tup [.int m,.int v]) (.int 0) _
  refine e7 (xs:=[.int m,.int v]) nT ?_
  refine hN _ _ ⟨?_,_,rfl⟩
  rw [List.take_add_one,hp];simp
 ·rintro acc env ⟨rfl,t,rfl⟩
  rw [a0c,List.take_length];exact q
theorem EX {bk:List Sr} {b:Int} {pp:List Pr} {R:PV -> Prop} (hl:bk.length <= 100) (b0:0 <= b) (b1:b <= 1000) (hpl:pp.length <= 16) (hp0:∀ p ∈ pp,0 <= p.2) (q:R (.bl true)):kQ [gJ bk,.int b,dY pp] R:=by
 unfold kQ
 walk_at "w"
 refine ⟨b8 (by rw [a0c];omega),?_⟩
 refine O1 (g:=Sr.e) (λs R h=>e7 qD h) ?_
 walk_at "w"
 refine ⟨b8 (by rw [a0c];omega),?_⟩
 refine FW ?_
 walk_at "w"
 refine ⟨b8 (by simp;omega),?_⟩
 rw [<- List.map_append]
 refine rM λM=>?_
 walk_at "w"
 refine ⟨⟨by decide,by decide,by decide⟩,?_⟩
 walk_at "w"
 refine AF (λ_=>q) λ_=>?_
 walk_at "w"
 refine ⟨b8 (by rw [a0c];omega),?_⟩
 refine U5 ?_
 walk_at "w"
 refine ⟨b8 (by rw [a0c];omega),?_⟩
 refine U4 ?_
 walk_at "w"
 refine pQ (by rw [a0c];omega) (by rw [a0c];omega) (λp hp=>by obtain ⟨r,hr,rfl⟩:=List.mem_map.mp hp;exact hp0 r hr) b0 b1 ?_
 walk_at "w"
 refine pQ (by omega) (by omega) hp0 b0 b1 ?_
 rw [IF]
 walk_at "w"
 show R (.bl (decide (bL bk b pp = bL bk b pp)))
 rw [decide_eq_true rfl]
 exact q
theorem OE {bk:List Sr} {b:Nat} {ks:List Int} {pp:List Pr} (hl:bk.length <= 8) (hsr:∀ s ∈ bk,s.b < s.e /\ -1000000000000 <= s.b /\ s.e <= 1000000000000 /\ 0 <= s.w /\ s.w <= 1000000000000) (hB:Bst bk b ks pp):PpOk pp MK 16 /\ ∀ p ∈ pp,p.2 <= 1000000000000000:=by
 obtain ⟨ks',sm,ld,cl⟩:=hB.nx
 have nn:=hB.nn
 have less:∀ p ∈ pp,∃ pp',pp.Perm (p :: pp') /\ ∀ q ∈ pp',0 <= q.2:=λp hp=>⟨pp.erase p,List.perm_cons_erase hp,λq hq=>nn q (List.mem_of_mem_erase hq)⟩
 have over:∀ p ∈ pp,∃ s ∈ bk,aI s p.1 = true:=λp hp=>by
  refine Classical.byContradiction λno=>?_
  obtain ⟨pp',pm,n'⟩:=less p hp
  have p1:=(hB.pr.at_ p hp).1
  have nb:=yU (b:=(b:Int) + 1) (pp:=pp') sm (λm=>by have:=ld m;omega) n'
  have e:bL bk ((b:Int) + 1) pp = bL bk ((b:Int) + 1) pp' + p.2 * ((b:Int) + 1):=by
   have e1:=kW (λ_=>true) pm
   rw [iG,iG,a0f,List.sum_cons] at e1
   have e2:d7 bk pp = d7 bk pp':=by
    unfold d7
    congr 1
    refine List.map_congr_left λs hs=>?_
    have e3:=kW (λm=>aI s m) pm
    rw [bH,if_neg (λz=>no ⟨s,hs,z⟩),kX,kX] at e3
    unfold c9
    rw [e3];congr 2;omega
   unfold bL
   rw [e1,e2,Int.add_mul]
   omega
  have:1 * 1 <= p.2 * ((b:Int) + 1):=Int.mul_le_mul p1 (by omega) (by omega) (by omega)
  omega
 have tot:jS (aP bk ks') <= 8 * 1000000000000:=by
  have h1:∀ l:List Sr,(∀ s ∈ l,s.w <= 1000000000000) -> jS l <= (l.length:Int) * 1000000000000:=λl=>by
   induction l with
   | nil=>intro _;exact Int.le_refl _
   | cons s l ih =>
    intro h
    have a1:=ih λt ht=>h t (a0j _ ht)
    have a2:=h s a0m
    unfold jS at *
    rw [a0f,List.sum_cons,List.length_cons]
    omega
  have h2:=h1 (aP bk ks') λs hs=>(hsr s (mV sm.at_ hs)).2.2.2.2
  have h3:=sm.len
  rw [rK] at h2
  omega
 refine ⟨⟨hB.pr.lt,λp hp=>⟨?_,(hB.pr.at_ p hp).1⟩,by have:=hB.pr.len;omega⟩,λp hp=>?_⟩
 ·obtain ⟨s,hs,ho⟩:=over p hp
  rw [bP] at ho
  have:=hsr s hs
  omega
 ·obtain ⟨pp',pm,n'⟩:=less p hp
  have e1:=kW (λ_=>true) pm
  rw [iG,iG,a0f,List.sum_cons] at e1
  have s0:0 <= (pp'.map (·.2)).sum:=by
   clear e1 pm
   induction pp' with
   | nil=>exact Int.le_refl _
   | cons q l ih =>
    have a1:=ih λt ht=>n' t (a0j _ ht)
    have a2:=n' q a0m
    rw [a0f,List.sum_cons];omega
  have r0:0 <= d7 bk pp:=by
   unfold d7
   clear over tot hsr hl hB sm ld cl
   induction bk with
   | nil=>exact Int.le_refl _
   | cons s l ih =>
    rw [a0f,List.sum_cons]
    have:0 <= c9 s pp:=by unfold c9;omega
    omega
  have p1:=(hB.pr.at_ p hp).1
  unfold bL at cl
  have m1:(pp.map (·.2)).sum * 1 <= (pp.map (·.2)).sum * ((b:Int) + 1):=Int.mul_le_mul_of_nonneg_left (by omega) (by omega)
  omega
theorem U3:∀ ns:List Int,ns.length <= 63 -> IH [.scr ns] λr=>r = .bl true:=by
 intro ns hns
 unfold IH
 walk_at "w"
 refine ⟨by omega,?_⟩
 refine ⟨by omega,?_⟩
 refine vW (λenv=>∃ t1 t2 t3 t4 t5,env = [some (.scr ns),t1,t2,t3,t4,t5]) ⟨_,_,_,_,_,rfl⟩ ?_ ?_
 ·rintro x env N hx ⟨t1,t2,t3,t4,t5,rfl⟩ hN
  obtain ⟨i,rfl,i0,i1⟩:=BK hx
  walk_at "w"
  refine ⟨by omega,by omega,?_⟩
  walk_at "w"
  refine IB (n:=8) (by omega) λbk hb=>?_
  have hlen:=hb.len
  have hsr:∀ s ∈ bk,s.b < s.e /\ -1000000000000 <= s.b /\ s.e <= 1000000000000 /\ 0 <= s.w /\ s.w <= 1000000000000:=λt ht=>by
   obtain ⟨i,hi,e⟩:=List.getElem_of_mem ht
   have h:=hb.at_ i t (by rw [a0b hi,e])
   exact ⟨h.lt,h.b0,h.e1,h.w0,h.w1⟩
  walk_at "w"
  refine ⟨by decide,by decide,λb b0 b1=>?_⟩
  obtain ⟨b,rfl⟩ : ∃ j:Nat,b = (j:Int):=⟨b.toNat,by omega⟩
  walk_at "w"
  refine F0 (by omega) (λs hs=>(hsr s hs).1) (λs hs=>(hsr s hs).2.2.2.1) λks pp hB=>?_
  obtain ⟨hp1,hp2⟩:=OE hlen hsr hB
  walk_at "w"
  refine e7 qD ?_
  walk_at "w"
  refine EZ hb (by omega) λdd hdd=>?_
  walk_at "w"
  have inner:∀ q ∈ [pp,dd],PpOk q MK 16 /\ ∀ p ∈ q,p.2 <= 1000000000000000:=λq hq=>by
   simp only [List.mem_cons,List.not_mem_nil,or_false] at hq
   rcases hq with rfl | rfl
   ·exact ⟨hp1,hp2⟩
   ·exact ⟨⟨hdd.lt,λp hp=>⟨⟨(hdd.at_ p hp).m0,(hdd.at_ p hp).m1⟩,(hdd.at_ p hp).v0⟩,by have:=hdd.len;omega⟩,λp hp=>by have:=(hdd.at_ p hp).v1;omega⟩
  refine vW (items:=[pp,dd].map dY) (λenv=>∃ t,env = [some (.scr ns),some (.int i),some .st,some (gJ bk),some (.int (b:Int)),t]) ⟨_,rfl⟩ ?_ ?_
  ·rintro x env N2 hx ⟨t,rfl⟩ hN2
   obtain ⟨q,hq,rfl⟩:=List.mem_map.mp hx
   obtain ⟨hq1,hq2⟩:=inner q hq
   have hql:=hq1.len
   have hq0:∀ p ∈ q,0 <= p.2:=λp hp=>by have:=(hq1.at_ p hp).2;omega
   walk_at "w"
   refine EY (by omega) hq1 λqq hs=>?_
   walk_at "w"
   refine tR (by omega) (by omega) (by omega) hql hq0 hs ?_
   walk_at "w"
   refine AZ (by omega) hq1 hq2 λqq2 hs2=>?_
   walk_at "w"
   refine tR (by omega) (by omega) (by omega) hql hq0 hs2 ?_
   walk_at "w"
   refine EX (by omega) (by omega) (by omega) hql hq0 ?_
   walk_at "w"
   exact hN2 _ ⟨_,rfl⟩
  ·rintro env ⟨t,rfl⟩
   exact hN _ ⟨_,_,_,_,_,rfl⟩
 ·rintro env ⟨t1,t2,t3,t4,t5,rfl⟩
  rfl
end K28
set_option maxHeartbeats 4000000
local macro_rules | `(tactic| walk_at "lk") => `(tactic| with_reducible first | assumption | exact L2.b5 | (apply L2.lk_ne; (walk_at "ne"); (walk_at "lk")))
local macro_rules | `(tactic| walk_at "ne") => `(tactic| with_reducible first | assumption | exact Ne.symm (by assumption) | (apply L2.ne_new; assumption; (walk_at "lk")) | (apply Ne.symm; apply L2.ne_new; assumption; (walk_at "lk")))
local macro_rules | `(tactic| walk_at "at") => `(tactic| with_reducible first | exact L2.nT | exact L2.nU | exact L2.qD | exact L2.vK | exact L2.at_b | exact L2.at_e | exact L2.at_w | exact L2.at_n | assumption)
local macro_rules | `(tactic| walk_at "side") => `(tactic| first | assumption | omega | (apply L2.S4 <;> omega) | (apply L2.S5 <;> omega) | (apply L2.MZ; omega; first | assumption | (apply L2.Y5; omega)))
local macro_rules | `(tactic| walk_at "len") => `(tactic| first | assumption | omega | (simp only [List.length_cons, List.length_nil, List.length_append]; omega))
local macro_rules | `(tactic| walk_at "st1") => `(tactic| with_reducible first
  | refine L2.step ?_
  | (apply L2.a0T;(walk_at "side"))
  | (apply L2.P9;(walk_at "lk");(walk_at "at"))
  | (apply L2.rIxTp_s;(walk_at "lk");(walk_at "at"))
  | (apply L2.iteT) | (apply L2.iteF) | (apply L2.iteNT_s) | (apply L2.iteNF_s)
  | (apply L2.Y1;(walk_at "len"))
  | (apply L2.VY;(walk_at "lk")) | (apply L2.VZ;(walk_at "lk")) | (apply L2.W7;(walk_at "lk"))
  | (apply L2.gTup2_s;(walk_at "lk")) | (apply L2.gTup3_s;(walk_at "lk")) | (apply L2.gTup4_s;(walk_at "lk"))
  | (apply L2.E2;assumption) | (apply L2.rLenL_s;(walk_at "lk")) | (apply L2.rLenT_s;(walk_at "lk"))
  | (apply L2.rListOfL_s;(walk_at "lk"))
  | (apply L2.tyL_s;(walk_at "lk"))
  | (apply L2.rAppend_s;(walk_at "lk");(apply L2.lenT_s;(walk_at "len")))
  | (apply L2.sl13_s;(walk_at "lk"))
  | (apply L2.rCat_s;(walk_at "lk");(walk_at "lk");(apply L2.lenL_s;(walk_at "len")))
  | (apply L2.exfl_s;(walk_at "lk"))
  | (apply L2.exacc_s;(walk_at "lk");(walk_at "len"))
  | (apply L2.rListR_s;(walk_at "lk");omega)
  | (apply L2.rAddS_s;(apply L2.lenL_s;omega)))
local macro_rules | `(tactic| walk_at "st") => `(tactic| (repeat walk_at "st1"))
local macro_rules | `(tactic| walk_at "but") => `(tactic| with_reducible (repeat (first | assumption | exact L2.But.refl | refine L2.But.put_of ?_ | (refine L2.But.new_of ?_ (by assumption)) | (refine L2.But.own_of ?_ (by assumption)))))
local macro_rules | `(tactic| walk_at "same") => `(tactic| with_reducible (repeat (first | assumption | exact L2.Same.refl _ | (refine L2.Same.new_of ?_ (by assumption)))))
local macro_rules | `(tactic| walk_at "tups") => `(tactic| with_reducible (repeat (first | assumption | exact L2.Tups.refl | (refine L2.Tups.new_of ?_ (by assumption)) | (apply L2.Tups.put_of; rotate_left; (walk_at "lk")))))
local macro_rules | `(tactic| walk_at "n") => `(tactic| exact L2.RA (by first | exact Or.inl (by decide +kernel) | exact Or.inr (by decide +kernel)) rfl (by decide +kernel) (by decide +kernel))
local macro_rules | `(tactic| walk_at "d") => `(tactic| (refine' L2.S8 ?da ?dl ?dc ?dk; (case da => k_is); (case dl => k_is); (case dc => k_is); (case dk => k_is)))
namespace K28
open PySem L2
def top (i:Nat):Stmt:=PySem.Challenge.pw_benchworth_k28_whole_moved_prices.main.body.getD i (.Pass ⟨0,0,0,0⟩)
structure Txt (K:PySem.W.Frag) (mg:Str -> Option Value):Prop where
 b_dict:mg "dict" = none
 b_enumerate:mg "enumerate" = none
 b_int:mg "int" = none
 b_len:mg "len" = none
 b_list:mg "list" = none
 b_max:mg "max" = none
 b_min:mg "min" = none
 b_range:mg "range" = none
 b_set:mg "set" = none
 b_sorted:mg "sorted" = none
 b_sum:mg "sum" = none
 b_zip:mg "zip" = none
section
variable {P:Program} {w:World} {K:PySem.W.Frag} {mg:Str -> Option Value} {base:Heap}
theorem a1C {X:Cx} {md:List Md} {e:Expr} {pe:aQ} (h:VE X md e (.c .fl) pe):VE X md e (.p .fl) pe:=d6 h rfl
theorem a1D {X:Cx} {md:List Md} {e:Expr} {pe:aQ} (h:VE X md e (.c .sh) pe):VE X md e (.p .sh) pe:=d6 h rfl
theorem HE {X:Cx} {md:List Md} {e:Expr} {pe:aQ} (h:VE X md e (.o .fl) pe):VE X md e (.p .fl) pe:=d6 h rfl
theorem U2 {X:Cx} {md:List Md} {e:Expr} {pe:aQ} (h:VE X md e (.o .fl) pe):VE X md e .bw pe:=d6 h rfl
theorem ZT {X:Cx} {md:List Md} {e:Expr} {pe:aQ} (h:VE X md e (.o .sh) pe):VE X md e (.p .sh) pe:=d6 h rfl
theorem NZ {X:Cx} {md:List Md} {e:Expr} {pe:aQ} (h:VE X md e (.o .sh) pe):VE X md e .bw pe:=d6 h rfl
theorem a1P {X:Cx} {md:List Md} {e:Expr} {pe:aQ} (h:VE X md e (.o .sn) pe):VE X md e (.p .sn) pe:=d6 h rfl
theorem a1Q {X:Cx} {md:List Md} {e:Expr} {pe:aQ} (h:VE X md e (.p .fl) pe):VE X md e (.p .sh) pe:=d6 h rfl
theorem a1R {X:Cx} {md:List Md} {e:Expr} {pe:aQ} (h:VE X md e (.v .fl) pe):VE X md e (.p .fl) pe:=d6 h rfl
theorem a0K {X:Cx} {md:List Md} {e:Expr} {pe:aQ} (h:VE X md e (.v .fl) pe):VE X md e (.v .sh) pe:=d6 h rfl
theorem aC {X:Cx} {md:List Md} {e:Expr} {pe:aQ} (h:VE X md e (.v .fl) pe):VE X md e .bw pe:=d6 h rfl
theorem mM {X:Cx} {md:List Md} {e:Expr} {pe:aQ} (h:VE X md e (.v .sh) pe):VE X md e (.p .sh) pe:=d6 h rfl
theorem k8 {X:Cx} {md:List Md} {e:Expr} {pe:aQ} (h:VE X md e (.v .sh) pe):VE X md e .bw pe:=d6 h rfl
theorem Y0 {X:Cx} {md:List Md} {e:Expr} {pe:aQ} (h:VE X md e (.v .sn) pe):VE X md e (.p .sn) pe:=d6 h rfl
theorem a0I {X:Cx} {md:List Md} {e:Expr} {pe:aQ} (h:VE X md e (.v .sn) pe):VE X md e (.v .sh) pe:=d6 h rfl
theorem a0J {X:Cx} {md:List Md} {e:Expr} {pe:aQ} (h:VE X md e (.v .sn) pe):VE X md e .bw pe:=d6 h rfl
theorem BF {X:Cx} {md:List Md} {e:Expr} {pe:aQ} (h:VE X md e (.z .fl) pe):VE X md e (.v .sn) pe:=d6 h rfl
abbrev oF:Stmt:=top 1
abbrev EK:List Str:=["stretch", "moment"]
theorem GO:SN EK ["stretch", "moment"] oF:=bK
abbrev fW:=kO 1 "is_over" ["stretch", "moment"] [.bw,.bw] (.v .fl) dE
theorem BM (D:Df K mg "is_over" oF) (T:Txt K mg)  : fW P w K mg base :=
 have z:=GO
 A7 (mn:=[.no,.no]) (yF Lib.uR.2) D z λf cdv A outer s H E hr =>
 (aG (aS (LW KO wN a1G a1H (k8 (aH (vp .sh z) (aC aB) (λ_ _=>rfl))) (vb z) (k8 (aH (vp .sh z) (aC aB) (λ_ _=>rfl)))) rfl))
abbrev fM:Stmt:=top 2
abbrev vH:List Str:=["book"]
theorem xK:SN vH ["book"] fM:=bK
abbrev eU:=kO 1 "moments_of" ["book"] [.bw] (.o .fl) cC
theorem sZ (D:Df K mg "moments_of" fM) (T:Txt K mg)  : eU P w K mg base :=
 have z:=xK
 X1 (mn:=[.no]) (WY Lib.mZ.2) D z λf cdv A outer s H E hr =>
 (aG (aS (CI (N':=["stretch", "moment"]) (n:=2) (cap:=[]) (mb:=[(.v .sh),.no]) (m2:=[(.v .sh),.no]) (λ_=>rfl) rfl (show LcOk ["book"] (aA fM) _ _ _ _ from pT (by rfl) (by rfl) (by decide +kernel)) rfl rfl gD T.b_sorted (bS (vr (.v .sh) z)) (λ_ _ _ _=>(gq 0)) (λ_ _ _ _=>bY) (λ_ _ _ _=>ZI (m1:=[(.v .sh),(.v .sh)]) (m2:=[(.v .sh),(.v .sh)]) rfl rfl rfl rfl (WS (M0 (mM (aR (m:=(.v .sh)) qo rfl rfl)) (l5 (aC aB)) (l5 (aC aB)))) (gq 1) bY (WM rfl rfl bo))) rfl))
abbrev kK:Stmt:=top 7
abbrev xS:List Str:=["paper"]
theorem AD:SN xS ["paper"] kK:=bK
abbrev iR:=kO 1 "prices_of" ["paper"] [.bw] (.v .fl) dH
theorem wG (D:Df K mg "prices_of" kK) (T:Txt K mg)  : iR P w K mg base :=
 have z:=AD
 X1 (mn:=[.no]) (WY Lib.p7.2) D z λf cdv A outer s H E hr =>
 (aG (aS (aX (wM rfl) pY gD T.b_sum vO (a7 (NZ (AI ["moment", "price"] 2 [] [(.v .sh),(.v .sh)] (bS (vr (.v .sh) z)) (λ_ _ _ _=>(bR (n:=2) rfl (aD (gq 0) (aD (gq 1) bB)))) (λ_ _ _ _=>bY) (λ_ _ _ _=>(aR (m:=(.v .sh)) qo rfl rfl)))) a9) vN vM) rfl))
abbrev m7:Stmt:=top 14
abbrev AQ:List Str:=["book", "some"]
theorem CT:SN AQ ["book", "some"] m7:=bK
abbrev jZ:=kO 1 "worth_of" ["book", "some"] [.bw,.bw] (.v .fl) eN
theorem z9 (D:Df K mg "worth_of" m7) (T:Txt K mg)  : jZ P w K mg base :=
 have z:=CT
 A7 (mn:=[.no,.no]) (yF Lib.rW.2) D z λf cdv A outer s H E hr =>
 (aG (aS (aX (wM rfl) pY gD T.b_sum vO (a7 (NZ (AI ["number", "book"] 1 [0] [(.v .sh),(.v .sh)] (bS (vr (.v .sh) z)) (λ_ _ _ _=>(gq 0)) (λ_ _ _ _=>bY) (λ_ _ _ _=>(aH (mM (aH (mM (aR (m:=(.v .sh)) (qk cD) rfl rfl)) bo (λ_ _=>rfl))) (aC aB) (λ_ _=>rfl))))) a9) vN vM) rfl))
abbrev jB:Stmt:=top 17
abbrev vG:List Str:=["rooms", "ahead", "back"]
theorem xJ:SN vG ["rooms"] jB:=bK
abbrev gZ:=kO 1 "free_roads" ["rooms"] [.bw] (.o .fl) cW
theorem sY (D:Df K mg "free_roads" jB) (T:Txt K mg)  : gZ P w K mg base :=
  have z:=xJ
  X1 (mn:=[.no,.no,.no]) (WY Lib.mY.2) D z λf cdv A outer s H E hr =>
  (a8 (X0 1 z ["at"] 1 [] [(.v .fl)] (eT gD T.b_range (aC (aX eX fN gD T.b_len fY (a7 (vb z) a9) hZ hW))) (λ_ _ _ _=>(gq 0)) (λ_ _ _ _=>bY) (λ_ _ _ _=>(c4 .fl (a7 (aR (m:=(.v .fl)) qo rfl rfl) (a7 (aL aN fL bo (aC aB)) (a7 aB (a7 jE a9)))) rfl)))
 (a8 (X0 2 z ["at", "room"] 2 [] [(.v .sh),(.v .sh)] (xE gD T.b_enumerate (vr (.v .sh) z)) (λ_ _ _ _=>(bR (n:=2) rfl (aD (gq 0) (aD (gq 1) bB)))) (λ_ _ _ _=>(gW (bN eR L8 bo (aC aB) (bA _)))) (λ_ _ _ _=>(c4 .sh (a7 (aL aN fL bo (aC aB)) (a7 (aR (m:=(.v .sh)) qo rfl rfl) (a7 aB (a7 jE a9)))) rfl)))
 (aG (aS (nN (sL (vp .sh z) (ZT (WR (vk .sh z) (aC (jD (aC aB))))))) rfl))))
abbrev d8:Stmt:=top 18
abbrev pE:List Str:=["book", "places", "chosen", "place_of", "roads", "number", "name", "begin", "end", "worth"]
theorem pP:SN pE ["book", "places", "chosen"] d8:=bK
abbrev eD:=kO 1 "stretch_roads" ["book", "places", "chosen"] [.bw,.bw,.bw] (.o .fl) bV
theorem oB (D:Df K mg "stretch_roads" d8) (T:Txt K mg)  : eD P w K mg base :=
  have z:=pP
  WN (mn:=[.no,.no,.no,.no,.no,.no,.no,.no,.no,.no]) (S9 Lib.jP.2) D z λf cdv A outer s H E hr =>
  (a8 (M7 (i:=3) (N':=["at", "moment"]) (n:=2) (cap:=[]) (mb:=[(.v .sh),(.v .sh)]) z.s.nd rfl (ln z 3) rfl (.inl rfl) rfl (by decide) (λ_=>rfl) rfl (show LcOk ["book", "places", "chosen", "place_of", "roads", "number", "name", "begin", "end", "worth"] (aA d8) _ _ _ _ from pT (by rfl) (by rfl) (by decide +kernel)) rfl rfl (xE gD T.b_enumerate (vr (.v .sh) z)) (λ_ _ _ _=>(bR (n:=2) rfl (aD (gq 0) (aD (gq 1) bB)))) (λ_ _ _ _=>bY) (λ_ _ _ _=>bo) (λ_ _ _ _=>(nM bo)))
 (a8 (jC 4 z (c0 .fl a9 rfl))
 (a8 (dC PassesOwn.never rfl rfl (xE gD T.b_enumerate (vr (.v .sh) z)) (bR (n:=2) rfl (aD (gn 5 z) (aD (bR (n:=4) rfl (aD (gn 6 z) (aD (gn 7 z) (aD (gn 8 z) (aD (gn 9 z) bB))))) bB)))
 (a8 (fG (bN (P4 hr.units) W8 (vb z) (vb z) (by with_unfolding_all rfl))
 (a8 (l6 PySem.F.plainAttrs_list PySem.F.slot_list_append PySem.F.type_list_append fU dN (qn z) rfl (a7 (nM (k8 (c4 .sh (a7 (fO hr.units (vk .fl z) (vb z) (λ_ _=>rfl)) (a7 (fO hr.units (vk .fl z) (vb z) (λ_ _=>rfl)) (a7 (jD (vb z)) (a7 (vr (.v .sh) z) a9)))) rfl))) a9))
 aF)
 (a8 (l6 PySem.F.plainAttrs_list PySem.F.slot_list_append PySem.F.type_list_append fU dN (qn z) rfl (a7 (nM (k8 (c4 .sh (a7 (fO hr.units (vk .fl z) (vb z) (λ_ _=>rfl)) (a7 (fO hr.units (vk .fl z) (vb z) (λ_ _=>rfl)) (a7 (vr (.v .sh) z) (a7 (vr (.v .sh) z) a9)))) rfl))) a9))
 aF))
 (cS (m1:=[(.v .sh),(.v .sh),(.v .sh),(.o .fl),(.o .fl),.no,.no,.no,.no,.no]) rfl aF)))
 (aG (nO (qn z) rfl rfl)))))
abbrev cA:Stmt:=top 20
abbrev nR:List Str:=["roads", "many", "start", "gains", "last_roads", "better", "road", "before", "goal", "gain", "number"]
theorem oR:SN nR ["roads", "many", "start"] cA:=bK
abbrev dO:=kO 1 "greatest_gains" ["roads", "many", "start"] [.bw,.bw,.bw] (.v .sn) bO
theorem mP (D:Df K mg "greatest_gains" cA) (T:Txt K mg)  : dO P w K mg base :=
  have z:=oR
  WN (mn:=[.no,.no,.no,.no,.no,.no,.no,.no,.no,.no,.no]) (S9 Lib.iH.2) D z λf cdv A outer s H E hr =>
  (a8 (EG (i:=3) (j:=4) (m1:=(.o .fl)) (m2:=(.o .fl)) rfl z.s.nd rfl rfl (by decide) (show (aA cA).names.lookup (Str.ofString "gains") = some NameKind.local by decide +kernel) (show (aA cA).names.lookup (Str.ofString "last_roads") = some NameKind.local by decide +kernel) (CH (HE (c0 .fl (a7 jE a9) rfl)) (vb z)) (CH (HE (c0 .fl (a7 jE a9) rfl)) (vb z)) rfl rfl rfl (by decide) rfl (by decide))
 (a8 (WT (qn z) rfl aB (vb z))
 (a8 (jC 5 z iJ)
 (a8 (A9 PassesOwn.never (m9 (vb z))
 (a8 (jC 5 z iJ)
 (a8 (dC PassesOwn.never rfl rfl (bS (vr (.v .sh) z)) (gn 6 z)
 (a8 (kN (vr (.v .sh) z) (bR (n:=4) rfl (aD (gn 7 z) (aD (gn 8 z) (aD (gn 9 z) (aD (gn 10 z) bB))))))
 (a8 (fG (AA (CL (bN rZ sH (aC (aH (vk .fl z) (vb z) (λ_ _=>rfl))) (aC jE) (bA _)) (xF (AA (RR (bN P5 PL (aC (aH (vk .fl z) (vb z) (λ_ _=>rfl))) (aC jE) (bA _)) (MA (bN eR L8 (aC (aL aN fL (aC (aH (vk .fl z) (vb z) (λ_ _=>rfl))) (vb z))) (aC (aH (vk .fl z) (vb z) (λ_ _=>rfl))) (bA _))))))))
 (a8 (QK rfl (qn z) rfl (qn z) rfl (nM (k8 (c4 .sh (a7 (aL aN fL (aC (aH (vk .fl z) (vb z) (λ_ _=>rfl))) (vb z)) (a7 (vr (.v .sh) z) a9)) rfl))) (vb z) (vb z))
 (a8 (jC 5 z iJ)
 aF))
 aF)
 (cS (m1:=[(.v .sh),(.v .sh),(.v .sh),(.o .fl),(.o .fl),(.v .fl),.no,.no,.no,.no,.no]) rfl aF))))
 aF)))
 (aG (sM 3 .fl rfl (sM 4 .fl rfl (aS (c4 .sn (a7 (BF (vr (.z .fl) z)) (a7 (BF (vr (.z .fl) z)) a9)) rfl) rfl))))))))
abbrev fD:Stmt:=top 21
abbrev pD:List Str:=["last_roads", "goal", "numbers", "reached", "gain", "number"]
theorem pO:SN pD ["last_roads", "goal"] fD:=bK
abbrev eC:=kO 1 "numbers_along" ["last_roads", "goal"] [.bw,.bw] (.o .fl) bU
theorem oA (D:Df K mg "numbers_along" fD) (T:Txt K mg)  : eC P w K mg base :=
  have z:=pO
  A7 (mn:=[.no,.no,.no,.no,.no,.no]) (yF Lib.jO.2) D z λf cdv A outer s H E hr =>
  (a8 (jC 2 z (c0 .fl a9 rfl))
 (a8 (A9 PassesOwn.never (bN rZ sH (k8 (aH (vp .sh z) (vb z) (λ_ _=>rfl))) (aC jE) (bA _))
 (a8 (kN (aH (vp .sh z) (vb z) (λ_ _=>rfl)) (bR (n:=4) rfl (aD (gn 1 z) (aD (gn 3 z) (aD (gn 4 z) (aD (gn 5 z) bB))))))
 (a8 (fG (bN rZ sH (vb z) (aC jE) (bA _))
 (a8 (l6 PySem.F.plainAttrs_list PySem.F.slot_list_append PySem.F.type_list_append fU dN (qn z) rfl (a7 (nM (vb z)) a9))
 aF)
 aF)
 (cS (m1:=[(.v .sh),(.v .sh),(.o .fl),.no,.no,.no]) rfl aF))))
 (aG (nO (qn z) rfl rfl))))
abbrev jA:Stmt:=top 22
abbrev vF:List Str:=["chosen", "numbers"]
theorem xI:SN vF ["chosen", "numbers"] jA:=bK
abbrev gY:=kO 1 "changed_by" ["chosen", "numbers"] [.bw,.bw] (.o .fl) cV
theorem sX (D:Df K mg "changed_by" jA) (T:Txt K mg)  : gY P w K mg base :=
 have z:=xI
 A7 (mn:=[.no,.no]) (yF Lib.mX.2) D z λf cdv A outer s H E hr =>
 (aG (aS (CJ rfl gD T.b_sorted gD T.b_set (vb z) (vb z)) rfl))
abbrev kJ:Stmt:=top 23
abbrev xR:List Str:=["gains", "spots", "rises"]
theorem AC:SN xR ["gains", "spots"] kJ:=bK
abbrev iQ:=kO 1 "prices_by" ["gains", "spots"] [.bw,.bw] (.o .fl) dG
theorem wF (D:Df K mg "prices_by" kJ) (T:Txt K mg)  : iQ P w K mg base :=
  have z:=AC
  A7 (mn:=[.no,.no,.no]) (yF Lib.p6.2) D z λf cdv A outer s H E hr =>
  (a8 (X0 2 z ["at", "gains"] 1 [0] [(.v .fl),(.v .sh)] (eT gD T.b_range (aC (aX eX fN gD T.b_len fY (a7 (vb z) a9) hZ hW))) (λ_ _ _ _=>(gq 0)) (λ_ _ _ _=>bY) (λ_ _ _ _=>(aL cM oE (k8 (aH (mM (aR (m:=(.v .sh)) (qk cD) rfl rfl)) (aC (aL aN fL bo (aC aB))) (λ_ _=>rfl))) (k8 (aH (mM (aR (m:=(.v .sh)) (qk cD) rfl rfl)) bo (λ_ _=>rfl))))))
 (aG (sM 2 .fl rfl (aS (nN (AI ["spot", "rise"] 2 [] [(.v .sh),(.v .sh)] (M5 gD T.b_zip (vr (.v .sh) z) (a0I (BF (vr (.z .fl) z)))) (λ_ _ _ _=>(bR (n:=2) rfl (aD (gq 0) (aD (gq 1) bB)))) (λ_ _ _ _=>(gW (bN eR L8 bo (aC aB) (bA _)))) (λ_ _ _ _=>(c4 .sh (a7 (aR (m:=(.v .sh)) qo rfl rfl) (a7 (aR (m:=(.v .sh)) qo rfl rfl) a9)) rfl)))) rfl))))
abbrev cB:Stmt:=top 30
abbrev eE:List Str:=["_law_script", "_law_k", "_law_cell", "_law_number", "_law_seed"]
theorem fV:SN eE ["_law_script", "_law_k"] cB:=bK
theorem sG:FnScope eE ["_law_script", "_law_k"] (aA cB):=fV.s
theorem oX:NV eE "_law_begun" cB "_law_script" 0:=fV.n.nv rfl
theorem gP:NV eE "_law_begun" cB "_law_k" 1:=fV.n.nv rfl
theorem gQ:NV eE "_law_begun" cB "_law_cell" 2:=fV.n.nv rfl
theorem f6:NV eE "_law_begun" cB "_law_number" 3:=fV.n.nv rfl
theorem oY:NV eE "_law_begun" cB "_law_seed" 4:=fV.n.nv rfl
theorem qP:GL cB "len" := by decide +kernel
theorem qQ:GL cB "max" := by decide +kernel
theorem BO (D:Df K mg "_law_begun" cB) (T:Txt K mg):Cal P w K mg base 1 "_law_begun" ["_law_script", "_law_k"] (E4 K):=by
 refine D.ok sG (λ_ _ _ _ _ _ us hl=>UA hl (λ_ _=>rfl)) (λvs H Q E h=>?_) (λf cdv A outer s H vs Q E hr h=>?_)
 ·obtain ⟨p,k,ns,rfl,_⟩:=h
  rfl
 ·obtain ⟨p,k,ns,rfl,hS,k0,k1,kk⟩:=h
  have sc:=sG
  refine KF (cG (kF (i:=2) sc.nd rfl gQ.lo aY rfl (.inl rfl))
   (cG (KP (wQ wN gP.h (zK OY qP T.b_len fY (gT oX.h rX) hZ hW) (bA _))
    (kY (kF (i:=2) sc.nd rfl gQ.lo (n0 P7 oX.h gP.h (λ_ _=>rfl)) rfl (.inl rfl)))
    wO)
   (cG (kF (i:=3) sc.nd rfl f6.lo (zK (C3 rfl) qQ T.b_max nZ (gT gQ.h (gT (cZ cM (YU E1 aY) gQ.h) rX)) nX nV) rfl (.inl rfl))
   (cG (kF (i:=4) sc.nd rfl oY.lo (cZ n4 (cZ aN (cZ aN f6.h (cZ eY (cZ eY aY gP.h) gP.h)) aY) aY) rfl (.inl rfl))
   (cG (KP (wQ wN f6.h (cZ cX aY aY) (bA _))
    (kY (kF (i:=3) sc.nd rfl f6.lo aY rfl (.inl rfl)))
    wO)
   (kY (C7 (VD (gT f6.h (gT oY.h (gT aY rX))))))))))) ?_
  refine E5 (σ:=[some _,some _,none,none,none]) rfl ?_
  walk_at "st"
  have nn:∀ cell:Int,0 <= (if -1 - cell > cell then -1 - cell else cell):=by
   intro cell;split <;> omega
  refine E2 hS ?_
  walk_at "st"
  refine NW (λh1=>?_) (λh1=>?_)
  ·have h2:k < ((ns.map V.int).length:Int):=of_decide_eq_true h1
   rw [a0c] at h2
   have h3:k.toNat < ns.length:=by omega
   have e:jF (ns.map V.int) k = some (.int ns[k.toNat]):=c6 k0 (by rw [a0h,a0b h3];rfl)
   walk_at "st"
   refine VP hS e ?_
   walk_at "st"
   have h4:=nn ns[k.toNat]
   refine NW (λh2=>?_) (λh2=>?_)
   all_goals (walk_at "st";intro q hq;exact kk q _ _ _ hq ⟨by first | omega | exact h4,Int.emod_nonneg _ (by omega),Int.emod_lt_of_pos _ (by omega)⟩)
  ·walk_at "st"
   have h4:=nn 0
   refine NW (λh2=>?_) (λh2=>?_)
   all_goals (walk_at "st";intro q hq;exact kk q _ _ _ hq ⟨by first | omega | exact h4,Int.emod_nonneg _ (by omega),Int.emod_lt_of_pos _ (by omega)⟩)
abbrev qB:=kO 1 "_law_begun" ["_law_script", "_law_k"] [.scr,.bw] .st tX
abbrev cQ:Stmt:=top 31
abbrev fX:List Str:=["_law_state", "_law_many", "_law_found", "_law_made", "_law_turn"]
theorem iK:SN fX ["_law_state", "_law_many"] cQ:=bK
theorem vA:FnScope fX ["_law_state", "_law_many"] (aA cQ):=iK.s
theorem bQ:NV fX "_law_take" cQ "_law_state" 0:=iK.n.nv rfl
theorem j5:NV fX "_law_take" cQ "_law_many" 1:=iK.n.nv rfl
theorem qX:NV fX "_law_take" cQ "_law_found" 2:=iK.n.nv rfl
theorem j6:NV fX "_law_take" cQ "_law_made" 3:=iK.n.nv rfl
theorem BL:NV fX "_law_take" cQ "_law_turn" 4:=iK.n.nv rfl
theorem pL:GL cQ "range" := by decide +kernel
theorem sU:GL cQ "int" := by decide +kernel
def RU (H:Hp) (p:Addr) (m a:Int) (_:Nat) (σ:St) (H1:Hp):Prop:=∃ (b c made:Int) (tv:Option V),σ = [some (.ref p),some (.int m),none,some (.int made),tv] /\ H1 = bD H p (ME a b c) /\ StOk a b c
theorem G6 (D:Df K mg "_law_take" cQ) (T:Txt K mg):Cal P w K mg base 1 "_law_take" ["_law_state", "_law_many"] LG:=by
 refine D.ok vA (λ_ _ _ _ _ _ us hl=>UA hl (λ_ _=>rfl)) (λvs H Q E h=>?_) (λf cdv A outer s H vs Q E hr h=>?_)
 ·obtain ⟨p,m,a,b,c,rfl,_⟩:=h
  rfl
 ·obtain ⟨p,m,a,b,c,rfl,hp,ok,m0,m1,k⟩:=h
  have sc:=vA
  refine KF (cG (KP (wQ eR (n0 kG bQ.h aY (λ_ _=>rfl)) aY (bA _))
    (cG (kF (i:=2) sc.nd rfl qX.lo (cZ n4 (n0 kG bQ.h aY (λ_ _=>rfl)) j5.h) rfl (.inl rfl))
    (cG (C6 (cZ v6 (n0 kG bQ.h aY (λ_ _=>rfl)) j5.h) (C4 bQ.h aY oD))
    (kY (C7 qX.h))))
    wO)
   (cG (kF (i:=3) sc.nd rfl j6.lo aY rfl (.inl rfl))
   (cG (VL PassesOwn.never rfl (G8 pL T.b_range (gT (cZ aN aY (G7 KJ sU T.b_int HZ (gT (P1 eR j5.h (cZ cX aY aY) (bA _)) rX) HW HR)) rX)) (DZ (i:=4) sc.nd rfl BL.lo (.inl rfl))
    (cG (C6 (cZ aN (n0 kG bQ.h aY (λ_ _=>rfl)) aY) (C4 bQ.h aY oD))
    (cG (C6 (cZ n4 (cZ aN (cZ eY (n0 kG bQ.h aY (λ_ _=>rfl)) aY) (cZ eY aY (n0 kG bQ.h aY (λ_ _=>rfl)))) aY) (C4 bQ.h aY oD))
    (kY (kF (i:=3) sc.nd rfl j6.lo (cZ aN (cZ eY j6.h aY) (cZ n4 (cZ eY (n0 kG bQ.h aY (λ_ _=>rfl)) (n0 kG bQ.h aY (λ_ _=>rfl))) aY)) rfl (.inl rfl))))))
   (kY (C7 (cZ n4 (cZ v6 j6.h aY) j5.h)))))) ?_
  refine E5 (σ:=[some _,some _,none,none,none]) rfl ?_
  walk_at "st"
  refine NW (λh1=>?_) (λh1=>?_)
  ·have h2:=of_decide_eq_true h1
   walk_at "st"
   exact k _ _ _ _ (Int.emod_nonneg _ (by omega)) (Int.emod_lt_of_pos _ m0) ⟨Int.ediv_nonneg ok.a0 (by omega),ok.b0,ok.b1⟩
  ·walk_at "st"
   generalize hn:(1 + if decide ((1000000:Int) < m) = true then (1:Int) else 0) = n
   have hn0:1 <= n /\ n <= 2:=by subst hn;split <;> omega
   refine ⟨by omega,by omega,FL (RU H p m a) ⟨b,c,0,none,rfl,(LS hp).symm,ok⟩ ?_ ?_⟩
   ·rintro i σ H1 hi ⟨b',c',made,tv,rfl,rfl,ok'⟩
    have h3:0 <= (b' * 48271 + 11 * (c' + 1)) % 2147483647:=Int.emod_nonneg _ (by decide)
    have h4:(b' * 48271 + 11 * (c' + 1)) % 2147483647 < 2147483647:=Int.emod_lt_of_pos _ (by decide)
    walk_at "st"
    exact ⟨_,_,_,_,rfl,by rw [EC,EC],⟨ok'.a0,h3,h4⟩⟩
   ·rintro σ H1 ⟨b',c',made,tv,rfl,rfl,ok'⟩
    walk_at "st"
    exact k _ _ _ _ (Int.emod_nonneg _ (by omega)) (Int.emod_lt_of_pos _ m0) ok'
abbrev e9:=kO 1 "_law_take" ["_law_state", "_law_many"] [.st,.bw] (.v .fl) aZ
abbrev oK:Stmt:=top 35
abbrev EQ:List Str:=["_law_book_here", "_law_moment", "_law_points", "_law_name_here", "_law_begin", "_law_end", "_law_worth", "_law_low"]
theorem GU:SN EQ ["_law_book_here", "_law_moment"] oK:=bK
abbrev iN:=kO 1 "_law_piece" ["_law_book_here", "_law_moment"] [.bw,.bw] (.v .fl) iD
theorem BU (D:Df K mg "_law_piece" oK) (T:Txt K mg)  : iN P w K mg base :=
  have z:=GU
  A7 (mn:=[.no,.no,.no,.no,.no,.no,.no,.no]) (yF uW.2) D z λf cdv A outer s H E hr =>
  (a8 (jC 2 z (c0 .fl (a7 (jD (aC (aL cX sD (aC aB) (aC aB)))) (a7 (aL cX sD (aC aB) (aC aB)) a9)) rfl))
 (a8 (M6 (m1:=[(.v .sh),(.v .sh),(.o .sh),.no,.no,.no,.no,.no]) rfl (dC PassesOwn.never rfl rfl (bS (vr (.v .sh) z)) (bR (n:=4) rfl (aD (gn 3 z) (aD (gn 4 z) (aD (gn 5 z) (aD (gn 6 z) bB)))))
 (a8 (jC 2 z (sL (vk .sh z) (ZT (c0 .sh (a7 (vr (.v .sh) z) (a7 (vr (.v .sh) z) a9)) rfl))))
 (cS (m1:=[(.v .sh),(.v .sh),(.o .sh),.no,.no,.no,.no,.no]) rfl aF))))
 (a8 (sM 2 .sh rfl (jC 7 z (aX (OZ rfl) LC gD T.b_max nZ (a7 (NZ (AI ["_law_point", "_law_moment"] 1 [1] [(.v .sh),(.v .sh)] (dW (vr (.z .sh) z)) (λ_ _ _ _=>(gq 0)) (λ_ _ _ _=>(gW (bN KO a1G bo (bk cD) (bA _)))) (λ_ _ _ _=>(aR (m:=(.v .sh)) qo rfl rfl)))) a9) nX nV)))
 (aG (aS (c4 .fl (a7 (vr (.v .fl) z) (a7 (aX (P0 rfl) LD gD T.b_min AW (a7 (NZ (AI ["_law_point", "_law_moment"] 1 [1] [(.v .sh),(.v .sh)] (dW (vr (.z .sh) z)) (λ_ _ _ _=>(gq 0)) (λ_ _ _ _=>(gW (bN eR L8 bo (bk cD) (bA _)))) (λ_ _ _ _=>(aR (m:=(.v .sh)) qo rfl rfl)))) a9) AV AU) a9)) rfl) rfl)))))
abbrev oP:Stmt:=top 4
abbrev EU:List Str:=["stretch", "paper"]
theorem GZ:SN EU ["stretch", "paper"] oP:=bK
abbrev iT:=kO 2 "toll_of" ["stretch", "paper"] [.bw,.bw] (.v .fl) dJ
theorem BY (D:Df K mg "toll_of" oP) (T:Txt K mg) (C_is_over:fW P w K mg base):iT P w K mg base :=
 have z:=GZ
 A7 (mn:=[.no,.no]) (yF Lib.v5.2) D z λf cdv A outer s H E hr =>
 (aG (aS (aX (wM rfl) pY gD T.b_sum vO (a7 (NZ (AI ["moment", "price", "stretch"] 2 [0] [(.v .sh),(.v .sh),(.v .sh)] (bS (vr (.v .sh) z)) (λ_ _ _ _=>(bR (n:=2) rfl (aD (gq 0) (aD (gq 1) bB)))) (λ_ _ _ _=>(gW (m9 (aC (dA hr C_is_over (a7 (bk cD) (a7 bo a9)) gL))))) (λ_ _ _ _=>(aR (m:=(.v .sh)) qo rfl rfl)))) a9) vN vM) rfl))
abbrev oM:Stmt:=top 10
abbrev ER:List Str:=["book", "some", "moment"]
theorem GV:SN ER ["book", "some", "moment"] oM:=bK
abbrev iO:=kO 2 "load_at" ["book", "some", "moment"] [.bw,.bw,.bw] (.v .fl) eJ
theorem BV (D:Df K mg "load_at" oM) (T:Txt K mg) (C_is_over:fW P w K mg base):iO P w K mg base :=
 have z:=GV
 WN (mn:=[.no,.no,.no]) (S9 Lib.uX.2) D z λf cdv A outer s H E hr =>
 (aG (aS (aX eX fN gD T.b_len fY (a7 (NZ (AI ["number", "moment", "book"] 1 [2,0] [(.v .sh),(.v .sh),(.v .sh)] (bS (vr (.v .sh) z)) (λ_ _ _ _=>(gq 0)) (λ_ _ _ _=>(gW (m9 (aC (dA hr C_is_over (a7 (k8 (aH (mM (aR (m:=(.v .sh)) (qk cD) rfl rfl)) bo (λ_ _=>rfl))) (a7 (bk cD) a9)) gL))))) (λ_ _ _ _=>(aR (m:=(.v .sh)) qo rfl rfl)))) a9) hZ hW) rfl))
abbrev kI:Stmt:=top 16
abbrev xQ:List Str:=["book"]
theorem AB:SN xQ ["book"] kI:=bK
abbrev iP:=kO 2 "places_of" ["book"] [.bw] (.o .fl) dF
theorem wD (D:Df K mg "places_of" kI) (T:Txt K mg) (C_moments_of:eU P w K mg base):iP P w K mg base :=
 have z:=AB
 X1 (mn:=[.no]) (WY Lib.p5.2) D z λf cdv A outer s H E hr =>
 (aG (aS (WQ (dA hr C_moments_of (a7 (vb z) a9) gD) (WP (c0 .fl (a7 aB a9) rfl))) rfl))
abbrev sF:Stmt:=top 32
abbrev HM:List Str:=["_law_state", "_law_k", "_law_letters", "_law_spelt", "_law_j"]
theorem MC:SN HM ["_law_state", "_law_k"] sF:=bK
abbrev nQ:=kO 2 "_law_name" ["_law_state", "_law_k"] [.st,.bw] (.v .fl) iC
theorem G5 (D:Df K mg "_law_name" sF) (T:Txt K mg) (C_l_take:e9 P w K mg base):nQ P w K mg base :=
  have z:=MC
  A7 (mn:=[.no,.no,.no,.no,.no]) (yF Lib.zJ.2) D z λf cdv A outer s H E hr =>
  (a8 (jC 2 z M3)
 (a8 (jC 3 z M3)
 (a8 (dC PassesOwn.never rfl rfl (eT gD T.b_range (aC (dA hr C_l_take (a7 (vr .st z) (a7 (aC aB) a9)) gD))) (gn 4 z)
 (a8 (jC 3 z (aL zM zU (vb z) (aC (aH (vp .fl z) (aC (dA hr C_l_take (a7 (vr .st z) (a7 (aC aB) a9)) gD)) (λ_ _=>rfl)))))
 (cS (m1:=[.st,(.v .sh),(.v .fl),(.v .fl),.no]) rfl aF)))
 (aG (aS (aL zM zU (vb z) (aC (aH (vp .fl z) (vb z) (λ_ _=>rfl)))) rfl)))))
abbrev oJ:Stmt:=top 34
abbrev EO:List Str:=["_law_state", "_law_book_here", "_law_moments", "_law_name_here", "_law_begin", "_law_end", "_law_worth", "_law_prices", "_law_turn", "_law_moment"]
theorem GS:SN EO ["_law_state", "_law_book_here"] oJ:=bK
abbrev lM:=kO 2 "_law_paper" ["_law_state", "_law_book_here"] [.st,.bw] (.o .fl) fQ
theorem BR (D:Df K mg "_law_paper" oJ) (T:Txt K mg) (C_l_take:e9 P w K mg base):lM P w K mg base :=
  have z:=GS
  A7 (mn:=[.no,.no,.no,.no,.no,.no,.no,.no,.no,.no]) (yF Lib.uV.2) D z λf cdv A outer s H E hr =>
  (a8 (jC 2 z (c0 .fl (a7 aB (a7 aB (a7 (jD (aC (aL cX sD (aC aB) (aC aB)))) (a7 (aL cM oE (aC (aL cX sD (aC aB) (aC aB))) (aC aB)) a9)))) rfl))
 (a8 (M6 (m1:=[.st,(.v .sh),(.o .sh),.no,.no,.no,.no,.no,.no,.no]) rfl (dC PassesOwn.never rfl rfl (bS (vr (.v .sh) z)) (bR (n:=4) rfl (aD (gn 3 z) (aD (gn 4 z) (aD (gn 5 z) (aD (gn 6 z) bB)))))
 (a8 (jC 2 z (sL (vk .sh z) (ZT (c0 .sh (a7 (vr (.v .sh) z) (a7 (aL cM oE (vb z) (aC aB)) a9)) rfl))))
 (cS (m1:=[.st,(.v .sh),(.o .sh),.no,.no,.no,.no,.no,.no,.no]) rfl aF))))
 (a8 (jC 7 z EE)
 (a8 (dC PassesOwn.never rfl rfl (eT gD T.b_range (aC (dA hr C_l_take (a7 (vr .st z) (a7 (aC aB) a9)) gD))) (gn 8 z)
 (a8 (jC 9 z (aH (vk .sh z) (aC (dA hr C_l_take (a7 (vr .st z) (a7 (aC (aX eX fN gD T.b_len fY (a7 (vb z) a9) hZ hW)) a9)) gD)) (λ_ _=>rfl)))
 (a8 (qA hr.units (qn z) rfl (aL aN fL (aC aB) (aC (dA hr C_l_take (a7 (vr .st z) (a7 (aC (aH (HE (c0 .fl (a7 aB (a7 aB (a7 aB (a7 (aL cX sD (aC aB) (aC aB)) a9)))) rfl)) (aC (dA hr C_l_take (a7 (vr .st z) (a7 (aC aB) a9)) gD)) (λ_ _=>rfl))) a9)) gD))) (vb z))
 (cS (m1:=[.st,(.v .sh),(.o .sh),.no,.no,.no,.no,(.o .fl),.no,.no]) rfl aF))))
 (aG (aS (AI ["_law_moment", "_law_prices"] 1 [7] [(.v .fl),(.c .fl)] (dW (i7 (aX (lX rfl) kL gD T.b_sorted i9 (a7 (vk .fl z) a9) nY nW))) (λ_ _ _ _=>(gq 0)) (λ_ _ _ _=>bY) (λ_ _ _ _=>(c4 .fl (a7 (aR (m:=(.v .fl)) qo rfl rfl) (a7 (fO hr.units (a1C (aR (m:=(.c .fl)) (qk cD) rfl rfl)) bo (λ_ _=>rfl)) a9)) rfl))) rfl))))))
abbrev oI:Stmt:=top 36
abbrev EN:List Str:=["_law_state", "_law_book_here", "_law_paper_here", "_law_prices", "_law_moment", "_law_price", "_law_low", "_law_high", "_law_other"]
theorem GR:SN EN ["_law_state", "_law_book_here", "_law_paper_here"] oI:=bK
abbrev lL:=kO 2 "_law_moved" ["_law_state", "_law_book_here", "_law_paper_here"] [.st,.bw,.bw] (.o .fl) kR
theorem BQ (D:Df K mg "_law_moved" oI) (T:Txt K mg) (C_l_piece:iN P w K mg base) (C_l_take:e9 P w K mg base):lL P w K mg base :=
  have z:=GR
  WN (mn:=[.no,.no,.no,.no,.no,.no,.no,.no,.no]) (S9 uU.2) D z λf cdv A outer s H E hr =>
  (a8 (jC 3 z EE)
 (a8 (dC PassesOwn.never rfl rfl (bS (vr (.v .sh) z)) (bR (n:=2) rfl (aD (gn 4 z) (aD (gn 5 z) bB)))
 (a8 (kN (dA hr C_l_piece (a7 (vb z) (a7 (vb z) a9)) gD) (bR (n:=2) rfl (aD (gn 6 z) (aD (gn 7 z) bB))))
 (a8 (jC 8 z (aL aN fL (vb z) (aC (dA hr C_l_take (a7 (vr .st z) (a7 (aC (aL cM oE (vb z) (vb z))) a9)) gD))))
 (a8 (qA hr.units (qn z) rfl (aL aN fL (aC (RQ PySem.F.plainAttrs_dict PySem.F.slot_dict_get PySem.F.type_dict_get (zL hr.units) vB rfl (vk .fl z) (a7 (vb z) (a7 aB a9)))) (vb z)) (vb z))
 (cS (m1:=[.st,(.v .sh),(.v .sh),(.o .fl),.no,.no,.no,.no,.no]) rfl aF)))))
 (aG (aS (AI ["_law_moment", "_law_prices"] 1 [3] [(.v .fl),(.c .fl)] (dW (i7 (aX (lX rfl) kL gD T.b_sorted i9 (a7 (vk .fl z) a9) nY nW))) (λ_ _ _ _=>(gq 0)) (λ_ _ _ _=>bY) (λ_ _ _ _=>(c4 .fl (a7 (aR (m:=(.v .fl)) qo rfl rfl) (a7 (fO hr.units (a1C (aR (m:=(.c .fl)) (qk cD) rfl rfl)) bo (λ_ _=>rfl)) a9)) rfl))) rfl))))
abbrev m3:Stmt:=top 37
abbrev AL:List Str:=["_law_state", "_law_book_here", "_law_paper_here", "_law_prices", "_law_moment", "_law_price", "_law_low", "_law_high", "_law_less", "_law_other"]
theorem CO:SN AL ["_law_state", "_law_book_here", "_law_paper_here"] m3:=bK
abbrev jV:=kO 2 "_law_parted" ["_law_state", "_law_book_here", "_law_paper_here"] [.st,.bw,.bw] (.o .fl) iX
theorem yY (D:Df K mg "_law_parted" m3) (T:Txt K mg) (C_l_piece:iN P w K mg base) (C_l_take:e9 P w K mg base):jV P w K mg base :=
  have z:=CO
  WN (mn:=[.no,.no,.no,.no,.no,.no,.no,.no,.no,.no]) (S9 rR.2) D z λf cdv A outer s H E hr =>
  (a8 (jC 3 z (vD (KI rfl) GA gD T.b_dict MT (a7 (vp .sh z) a9) MS MQ))
 (a8 (dC PassesOwn.never rfl rfl (dW (i7 (LZ (vp .sh z) EF (l5 (aC aB))))) (bR (n:=2) rfl (aD (gn 4 z) (aD (gn 5 z) bB)))
 (a8 (kN (dA hr C_l_piece (a7 (vb z) (a7 (vb z) a9)) gD) (bR (n:=2) rfl (aD (gn 6 z) (aD (gn 7 z) bB))))
 (a8 (fG (AA (CL (bN eR L8 (vb z) (aC aB) (bA _)) (xF (bN wN a1H (aC (aL aN fL (vb z) (aC aB))) (vb z) (bA _)))))
 (a8 (jC 8 z (aL aN fL (aC aB) (aC (dA hr C_l_take (a7 (vr .st z) (a7 (aC (aL cM oE (vb z) (aC aB))) a9)) gD))))
 (a8 (jC 9 z (aH (HE (c0 .fl (a7 (vr (.v .fl) z) (a7 (aL cM oE (vb z) (aC aB)) a9)) rfl)) (aC (vD KJ LB gD T.b_int HZ (a7 (aC (LX C5 wX (vb z) (vb z) (bA _))) a9) HW HR)) (λ_ _=>rfl)))
 (a8 (fG (bN rY nG (vb z) (vb z) (bA _))
 (a8 (qA hr.units (qn z) rfl (a0K (aL cM oE (k8 (fO hr.units (vk .sh z) (vb z) (λ_ _=>rfl))) (vb z))) (vb z))
 (a8 (qA hr.units (qn z) rfl (a0K (aL aN fL (k8 (RQ PySem.F.plainAttrs_dict PySem.F.slot_dict_get PySem.F.type_dict_get (zL hr.units) vB rfl (vk .sh z) (a7 (vb z) (a7 (a0K aB) a9)))) (vb z))) (vb z))
 aF))
 aF)
 (cS (m1:=[.st,(.v .sh),(.v .sh),(.o .sh),(.v .sh),(.v .sh),(.v .fl),(.v .fl),.no,.no]) rfl aF))))
 aF)
 (cS (m1:=[.st,(.v .sh),(.v .sh),(.o .sh),.no,.no,.no,.no,.no,.no]) rfl aF))))
 (aG (aS (nN (AI ["_law_one", "_law_prices"] 1 [3] [(.v .fl),(.c .sh)] (dW (i7 (aX (lX rfl) kL gD T.b_sorted i9 (a7 (vk .sh z) a9) nY nW))) (λ_ _ _ _=>(gq 0)) (λ_ _ _ _=>(gW (bN eR L8 (k8 (fO hr.units (a1D (aR (m:=(.c .sh)) (qk cD) rfl rfl)) bo (λ_ _=>rfl))) (aC aB) (bA _)))) (λ_ _ _ _=>(c4 .sh (a7 (aR (m:=(.v .fl)) qo rfl rfl) (a7 (fO hr.units (a1D (aR (m:=(.c .sh)) (qk cD) rfl rfl)) bo (λ_ _=>rfl)) a9)) rfl)))) rfl))))
abbrev oO:Stmt:=top 5
abbrev ET:List Str:=["stretch", "paper"]
theorem GY:SN ET ["stretch", "paper"] oO:=bK
abbrev iS:=kO 3 "rest_of" ["stretch", "paper"] [.bw,.bw] (.v .fl) dI
theorem BX (D:Df K mg "rest_of" oO) (T:Txt K mg) (C_toll_of:iT P w K mg base):iS P w K mg base :=
 have z:=GY
 A7 (mn:=[.no,.no]) (yF Lib.uZ.2) D z λf cdv A outer s H E hr =>
 (aG (aS (aX (C3 rfl) zV gD T.b_max nZ (a7 (aC aB) (a7 (aC (aL cM oE (k8 (aH (vp .sh z) (aC aB) (λ_ _=>rfl))) (aC (dA hr C_toll_of (a7 (vb z) (a7 (vb z) a9)) gD)))) a9)) nX nV) rfl))
abbrev m4:Stmt:=top 11
abbrev AM:List Str:=["book", "some", "steps", "before", "moment", "load"]
theorem CP:SN AM ["book", "some"] m4:=bK
abbrev jW:=kO 3 "loads_of" ["book", "some"] [.bw,.bw] (.o .fl) eK
theorem yZ (D:Df K mg "loads_of" m4) (T:Txt K mg) (C_moments_of:eU P w K mg base) (C_load_at:iO P w K mg base):jW P w K mg base :=
  have z:=CP
  A7 (mn:=[.no,.no,.no,.no,.no,.no]) (yF Lib.rS.2) D z λf cdv A outer s H E hr =>
  (a8 (jC 2 z (c0 .fl a9 rfl))
 (a8 (jC 3 z aB)
 (a8 (dC PassesOwn.never rfl rfl (dW (i7 (dA hr C_moments_of (a7 (NZ (AI ["number", "book"] 1 [0] [(.v .sh),(.v .sh)] (bS (vr (.v .sh) z)) (λ_ _ _ _=>(gq 0)) (λ_ _ _ _=>bY) (λ_ _ _ _=>(aH (mM (aR (m:=(.v .sh)) (qk cD) rfl rfl)) bo (λ_ _=>rfl))))) a9) gD))) (gn 4 z)
 (a8 (jC 5 z (dA hr C_load_at (a7 (vb z) (a7 (vb z) (a7 (vb z) a9))) gD))
 (a8 (fG (bN rY nG (vb z) (vb z) (bA _))
 (a8 (l6 PySem.F.plainAttrs_list PySem.F.slot_list_append PySem.F.type_list_append fU dN (qn z) rfl (a7 (c4 .fl (a7 (vr (.v .fl) z) (a7 (vr (.v .fl) z) a9)) rfl) a9))
 aF)
 aF)
 (a8 (jC 3 z (vr (.v .fl) z))
 (cS (m1:=[(.v .sh),(.v .sh),(.o .fl),(.v .fl),.no,.no]) rfl aF)))))
 (aG (nO (qn z) rfl rfl)))))
abbrev m6:Stmt:=top 19
abbrev AO:List Str:=["book", "places", "limits", "chosen", "rooms"]
theorem CS:SN AO ["book", "places", "limits", "chosen"] m6:=bK
abbrev jY:=kO 3 "roads_of" ["book", "places", "limits", "chosen"] [.bw,.bw,.bw,.bw] (.o .fl) eM
theorem z8 (D:Df K mg "roads_of" m6) (T:Txt K mg) (C_free_roads:gZ P w K mg base) (C_stretch_roads:eD P w K mg base) (C_load_at:iO P w K mg base):jY P w K mg base :=
  have z:=CS
  a1L (mn:=[.no,.no,.no,.no,.no]) (a1B Lib.rV.2) D z λf cdv A outer s H E hr =>
  (a8 (X0 4 z ["limit", "place", "book", "chosen"] 2 [0,3] [(.v .sh),(.v .sh),(.v .sh),(.v .sh)] (M5 gD T.b_zip (vr (.v .sh) z) (vr (.v .sh) z)) (λ_ _ _ _=>(bR (n:=2) rfl (aD (gq 0) (aD (gq 1) bB)))) (λ_ _ _ _=>bY) (λ_ _ _ _=>(aL cM oE bo (aC (dA hr C_load_at (a7 (bk cD) (a7 (bk cD) (a7 bo a9))) gL)))))
 (aG (aS (sL (HE (dA hr C_free_roads (a7 (vb z) a9) gD)) (HE (dA hr C_stretch_roads (a7 (vb z) (a7 (vb z) (a7 (vb z) a9))) gD))) rfl)))
abbrev sE:Stmt:=top 33
abbrev HL:List Str:=["_law_state", "_law_most", "_law_size", "_law_unit", "_law_low", "_law_book_here", "_law_k", "_law_begin", "_law_end", "_law_worth", "_law_span"]
theorem MB:SN HL ["_law_state", "_law_most"] sE:=bK
abbrev nP:=kO 3 "_law_book" ["_law_state", "_law_most"] [.st,.bw] (.o .fl) iB
theorem G4 (D:Df K mg "_law_book" sE) (T:Txt K mg) (C_l_take:e9 P w K mg base) (C_l_name:nQ P w K mg base):nP P w K mg base :=
  have z:=MB
  A7 (mn:=[.no,.no,.no,.no,.no,.no,.no,.no,.no,.no,.no]) (yF Lib.zI.2) D z λf cdv A outer s H E hr =>
  (a8 (jC 2 z (aH (HE (c0 .fl (a7 aB (a7 aB (a7 aB (a7 aB a9)))) rfl)) (aC (dA hr C_l_take (a7 (vr .st z) (a7 (aC aB) a9)) gD)) (λ_ _=>rfl)))
 (a8 (jC 3 z (aL aN fL (aC aB) (aC (dA hr C_l_take (a7 (vr .st z) (a7 (aC (aH (HE (c0 .fl (a7 aB (a7 aB (a7 aB (a7 (aL cX sD (aC aB) (aC aB)) a9)))) rfl)) (aC (dA hr C_l_take (a7 (vr .st z) (a7 (aC aB) a9)) gD)) (λ_ _=>rfl))) a9)) gD))))
 (a8 (jC 4 z (aH (HE (c0 .fl (a7 aB (a7 (jD (aC aB)) (a7 (jD (aC (aL cX sD (aC aB) (aC aB)))) (a7 (aL cM oE (aC (aL cX sD (aC aB) (aC aB))) (aC (aL eY PH (aC aB) (vb z)))) a9)))) rfl)) (aC (dA hr C_l_take (a7 (vr .st z) (a7 (aC aB) a9)) gD)) (λ_ _=>rfl)))
 (a8 (jC 5 z (c0 .fl a9 rfl))
 (a8 (dC PassesOwn.never rfl rfl (eT gD T.b_range (aC (dA hr C_l_take (a7 (vr .st z) (a7 (aC (aL aN fL (vb z) (aC aB))) a9)) gD))) (gn 6 z)
 (a8 (jC 7 z (dA hr C_l_take (a7 (vr .st z) (a7 (vb z) a9)) gD))
 (a8 (jC 8 z (aL aN fL (aC (aL aN fL (vb z) (aC aB))) (aC (dA hr C_l_take (a7 (vr .st z) (a7 (vb z) a9)) gD))))
 (a8 (jC 9 z (dA hr C_l_take (a7 (vr .st z) (a7 (aC (aH (HE (c0 .fl (a7 aB (a7 aB (a7 aB (a7 (aL aN fL (aC (aL cX sD (aC aB) (aC aB))) (aC aB)) a9)))) rfl)) (aC (dA hr C_l_take (a7 (vr .st z) (a7 (aC aB) a9)) gD)) (λ_ _=>rfl))) a9)) gD))
 (a8 (jC 10 z (c4 .fl (a7 (aL aN fL (vb z) (aC (aL eY PH (vb z) (vb z)))) (a7 (aL aN fL (vb z) (aC (aL eY PH (vb z) (vb z)))) a9)) rfl))
 (a8 (fG (AA (CL (bN eR L8 (vb z) (aC aB) (bA _)) (xF (bN C5 wX (aC (dA hr C_l_take (a7 (vr .st z) (a7 (aC aB) a9)) gD)) (aC aB) (bA _)))))
 (a8 (jC 10 z (M0 (a1R (aH (vk .fl z) (aC (jD (aC aB))) (λ_ _=>rfl))) (l5 (aC aB)) (l5 (aC aB))))
 aF)
 aF)
 (a8 (l6 PySem.F.plainAttrs_list PySem.F.slot_list_append PySem.F.type_list_append fU dN (qn z) rfl (a7 (c4 .fl (a7 (dA hr C_l_name (a7 (vr .st z) (a7 (vb z) a9)) gD) (a7 (aH (vp .fl z) (aC aB) (λ_ _=>rfl)) (a7 (aH (vp .fl z) (aC aB) (λ_ _=>rfl)) (a7 (vr (.v .fl) z) a9)))) rfl) a9))
 (cS (m1:=[.st,(.v .sh),(.v .fl),(.v .fl),(.v .fl),(.o .fl),.no,.no,.no,.no,.no]) rfl aF))))))))
 (aG (nO (qn z) rfl rfl)))))))
abbrev m5:Stmt:=top 6
abbrev AN:List Str:=["book", "paper"]
theorem CQ:SN AN ["book", "paper"] m5:=bK
abbrev jX:=kO 4 "rests_of" ["book", "paper"] [.bw,.bw] (.v .fl) eL
theorem z7 (D:Df K mg "rests_of" m5) (T:Txt K mg) (C_rest_of:iS P w K mg base):jX P w K mg base :=
 have z:=CQ
 A7 (mn:=[.no,.no]) (yF Lib.rT.2) D z λf cdv A outer s H E hr =>
 (aG (aS (aX (wM rfl) pY gD T.b_sum vO (a7 (U2 (AI ["stretch", "paper"] 1 [1] [(.v .sh),(.v .sh)] (bS (vr (.v .sh) z)) (λ_ _ _ _=>(gq 0)) (λ_ _ _ _=>bY) (λ_ _ _ _=>(dA hr C_rest_of (a7 bo (a7 (bk cD) a9)) gL)))) a9) vN vM) rfl))
abbrev lZ:Stmt:=top 12
abbrev AK:List Str:=["book", "some", "greatest", "first", "moment", "load"]
theorem CN:SN AK ["book", "some"] lZ:=bK
abbrev jU:=kO 4 "crowd_of" ["book", "some"] [.bw,.bw] (.v .sn) eI
theorem yX (D:Df K mg "crowd_of" lZ) (T:Txt K mg) (C_loads_of:jW P w K mg base) (C_is_over:fW P w K mg base):jU P w K mg base :=
  have z:=CN
  A7 (mn:=[.no,.no,.no,.no,.no,.no]) (yF Lib.rQ.2) D z λf cdv A outer s H E hr =>
  (a8 (kN (c4 .fl (a7 aB (a7 jE a9)) rfl) (bR (n:=2) rfl (aD (gn 2 z) (aD (gn 3 z) bB))))
 (a8 (dC PassesOwn.never rfl rfl (dW (i7 (dA hr C_loads_of (a7 (vb z) (a7 (vb z) a9)) gD))) (bR (n:=2) rfl (aD (gn 4 z) (aD (gn 5 z) bB)))
 (a8 (fG (bN eR L8 (vb z) (vb z) (bA _))
 (a8 (kN (c4 .fl (a7 (vr (.v .fl) z) (a7 (vr (.v .fl) z) a9)) rfl) (bR (n:=2) rfl (aD (gn 2 z) (aD (gn 3 z) bB))))
 aF)
 aF)
 (cS (m1:=[(.v .sh),(.v .sh),(.v .fl),(.v .fl),.no,.no]) rfl aF)))
 (aG (aS (c4 .sn (a7 (vr (.v .fl) z) (a7 (vr (.v .fl) z) (a7 (BF (i7 (nN (AI ["number", "first", "book"] 1 [3,0] [(.v .sh),(.v .fl),(.v .sh)] (bS (vr (.v .sh) z)) (λ_ _ _ _=>(gq 0)) (λ_ _ _ _=>(gW (m9 (aC (dA hr C_is_over (a7 (k8 (aH (mM (aR (m:=(.v .sh)) (qk cD) rfl rfl)) bo (λ_ _=>rfl))) (a7 (bk cD) a9)) gL))))) (λ_ _ _ _=>(aR (m:=(.v .sh)) qo rfl rfl)))))) a9))) rfl) rfl))))
abbrev dS:Stmt:=top 25
abbrev vE:List Str:=["book", "benches", "places", "chosen", "told", "many", "roads", "gains", "last_roads"]
theorem xH:SN vE ["book", "benches"] dS:=bK
abbrev gX:=kO 4 "best_up_to" ["book", "benches"] [.bw,.bw] (.o .sn) cU
theorem sW (D:Df K mg "best_up_to" dS) (T:Txt K mg) (C_places_of:iP P w K mg base) (C_roads_of:jY P w K mg base) (C_greatest_gains:dO P w K mg base) (C_changed_by:gY P w K mg base) (C_numbers_along:eC P w K mg base) (C_prices_by:iQ P w K mg base):gX P w K mg base :=
  have z:=xH
  A7 (mn:=[.no,.no,.no,.no,.no,.no,.no,.no,.no]) (yF Lib.mW.2) D z λf cdv A outer s H E hr =>
  (a8 (jC 2 z (dA hr C_places_of (a7 (vb z) a9) gD))
 (a8 (EG (i:=3) (j:=4) (m1:=(.o .fl)) (m2:=(.o .fl)) rfl z.s.nd rfl rfl (by decide) (show (aA dS).names.lookup (Str.ofString "chosen") = some NameKind.local by decide +kernel) (show (aA dS).names.lookup (Str.ofString "told") = some NameKind.local by decide +kernel) (c0 .fl a9 rfl) (c0 .fl a9 rfl) rfl rfl rfl (by decide) rfl (by decide))
 (a8 (M6 (m1:=[(.v .sh),(.v .sh),(.o .fl),(.o .fl),(.o .sn),.no,.no,.no,.no]) rfl (dC PassesOwn.never rfl rfl (eT gD T.b_range (aC (aL aN fL (vb z) (aC aB)))) (gn 5 z)
 (a8 (jC 6 z (dA hr C_roads_of (a7 (vb z) (a7 (vb z) (a7 (U2 (CH (HE (c0 .fl (a7 (vr (.v .fl) z) a9) rfl)) (aC (aL cM oE (aC (aX eX fN gD T.b_len fY (a7 (vb z) a9) hZ hW)) (aC aB))))) (a7 (vb z) a9)))) gD))
 (a8 (kN (dA hr C_greatest_gains (a7 (vb z) (a7 (aC (aX eX fN gD T.b_len fY (a7 (vb z) a9) hZ hW)) (a7 (aC aB) a9))) gD) (bR (n:=2) rfl (aD (gn 7 z) (aD (gn 8 z) bB))))
 (a8 (sM 3 .fl rfl (l6 PySem.F.plainAttrs_list PySem.F.slot_list_append PySem.F.type_list_append fU dN (qn z) rfl (a7 (c4 .sn (a7 (BF (vr (.z .fl) z)) (a7 (BF (i7 (dA hr C_prices_by (a7 (vb z) (a7 (U2 (LZ (vk .fl z) EF (l5 (aC (jD (aC aB)))))) a9)) gD))) a9)) rfl) a9)))
 (a8 (jC 3 z (dA hr C_changed_by (a7 (vb z) (a7 (U2 (dA hr C_numbers_along (a7 (vb z) (a7 (aC (aL cM oE (aC (aX eX fN gD T.b_len fY (a7 (vb z) a9) hZ hW)) (aC aB))) a9)) gD)) a9)) gD))
 (cS (m1:=[(.v .sh),(.v .sh),(.o .fl),(.o .fl),(.o .sn),.no,.no,.no,.no]) rfl aF)))))))
 (aG (nO (qn z) rfl rfl)))))
abbrev wV:Stmt:=top 8
abbrev MH:List Str:=["book", "benches", "paper"]
theorem QO:SN MH ["book", "benches", "paper"] wV:=bK
abbrev mC:=kO 5 "claim" ["book", "benches", "paper"] [.bw,.bw,.bw] (.v .fl) fH
theorem JT (D:Df K mg "claim" wV) (T:Txt K mg) (C_rests_of:jX P w K mg base) (C_prices_of:iR P w K mg base):mC P w K mg base :=
 have z:=QO
 WN (mn:=[.no,.no,.no]) (S9 Lib.DY.2) D z λf cdv A outer s H E hr =>
 (aG (aS (aL aN fL (aC (aL eY PH (aC (dA hr C_prices_of (a7 (vb z) a9) gD)) (vb z))) (aC (dA hr C_rests_of (a7 (vb z) (a7 (vb z) a9)) gD))) rfl))
abbrev fB:Stmt:=top 26
abbrev pB:List Str:=["book"]
theorem pN:SN pB ["book"] fB:=bK
abbrev e8:=kO 5 "greatest_load" ["book"] [.bw] (.v .sn) bT
theorem o9 (D:Df K mg "greatest_load" fB) (T:Txt K mg) (C_crowd_of:jU P w K mg base):e8 P w K mg base :=
 have z:=pN
 X1 (mn:=[.no]) (WY Lib.jN.2) D z λf cdv A outer s H E hr =>
 (aG (aS (aH (Y0 (dA hr C_crowd_of (a7 (vb z) (a7 (U2 (LY rfl gD T.b_list gD T.b_range (aC (aX eX fN gD T.b_len fY (a7 (vb z) a9) hZ hW)))) a9)) gD)) (aC aB) (λ_ _=>rfl)) rfl))
abbrev lY:Stmt:=top 27
abbrev AJ:List Str:=["book", "benches"]
theorem CM:SN AJ ["book", "benches"] lY:=bK
abbrev jT:=kO 6 "best_for" ["book", "benches"] [.bw,.bw] (.v .sn) eG
theorem yW (D:Df K mg "best_for" lY) (T:Txt K mg) (C_best_up_to:gX P w K mg base) (C_greatest_load:e8 P w K mg base):jT P w K mg base :=
 have z:=CM
 A7 (mn:=[.no,.no]) (yF Lib.rP.2) D z λf cdv A outer s H E hr =>
 (aG (aS (aH (a1P (dA hr C_best_up_to (a7 (vb z) (a7 (aC (aX (KL rfl) zX gD T.b_min AW (a7 (vb z) (a7 (a0J (dA hr C_greatest_load (a7 (vb z) a9) gD)) a9)) AV AU)) a9)) gD)) (aC (jD (aC aB))) (λ_ _=>rfl)) rfl))
abbrev oG:Stmt:=top 38
abbrev EL:List Str:=["_law_book_here", "_law_benches", "_law_one", "_law_other", "_law_stretch"]
theorem GP:SN EL ["_law_book_here", "_law_benches", "_law_one", "_law_other"] oG:=bK
abbrev lJ:=kO 6 "_law_alike" ["_law_book_here", "_law_benches", "_law_one", "_law_other"] [.bw,.bw,.bw,.bw] (.v .fl) iA
theorem BN (D:Df K mg "_law_alike" oG) (T:Txt K mg) (C_claim:mC P w K mg base) (C_toll_of:iT P w K mg base) (C_rest_of:iS P w K mg base):lJ P w K mg base :=
  have z:=GP
  a1L (mn:=[.no,.no,.no,.no,.no]) (a1B uS.2) D z λf cdv A outer s H E hr =>
  (a8 (fG (AA (RR (bN eR L8 (aC (aX eX fN gD T.b_len fY (a7 (vb z) a9) hZ hW)) (aC aB) (bA _)) (MA (bN eR L8 (aC (A8 (KN rfl) zW gD T.b_max nZ (a7 (NZ (AI ["_law_moment", "_law_price"] 2 [] [(.v .sh),(.v .sh)] (bS (vr (.v .sh) z)) (λ_ _ _ _=>(bR (n:=2) rfl (aD (gq 0) (aD (gq 1) bB)))) (λ_ _ _ _=>bY) (λ_ _ _ _=>(aR (m:=(.v .sh)) qo rfl rfl)))) a9) aB nX nV)) (aC (aL cX sD (aC aB) (aC aB))) (bA _)))))
 (aG (aS iJ rfl))
 aF)
 (a8 (fG (bN rY nG (aC (dA hr C_claim (a7 (vb z) (a7 (vb z) (a7 (vb z) a9))) gD)) (aC (dA hr C_claim (a7 (vb z) (a7 (vb z) (a7 (vb z) a9))) gD)) (bA _))
 (aG (aS iJ rfl))
 aF)
 (a8 (dC PassesOwn.never rfl rfl (bS (vr (.v .sh) z)) (gn 4 z)
 (a8 (fG (bN rY nG (aC (dA hr C_toll_of (a7 (vb z) (a7 (vb z) a9)) gD)) (aC (dA hr C_toll_of (a7 (vb z) (a7 (vb z) a9)) gD)) (bA _))
 (aG (aS iJ rfl))
 aF)
 (a8 (fG (bN rY nG (aC (dA hr C_rest_of (a7 (vb z) (a7 (vb z) a9)) gD)) (aC (dA hr C_rest_of (a7 (vb z) (a7 (vb z) a9)) gD)) (bA _))
 (aG (aS iJ rfl))
 aF)
 (cS (m1:=[(.v .sh),(.v .sh),(.v .sh),(.v .sh),.no]) rfl aF))))
 (aG (aS iJ rfl)))))
abbrev oH:Stmt:=top 39
abbrev EM:List Str:=["_law_book_here", "_law_benches", "_law_paper_here", "_law_later_here", "_law_behind"]
theorem GQ:SN EM ["_law_book_here", "_law_benches", "_law_paper_here"] oH:=bK
abbrev lK:=kO 6 "_law_later" ["_law_book_here", "_law_benches", "_law_paper_here"] [.bw,.bw,.bw] (.v .fl) kQ
theorem BP (D:Df K mg "_law_later" oH) (T:Txt K mg) (C_claim:mC P w K mg base):lK P w K mg base :=
  have z:=GQ
  WN (mn:=[.no,.no,.no,.no,.no]) (S9 uT.2) D z λf cdv A outer s H E hr =>
  (a8 (fG (bN eR L8 (aC (A8 (KN rfl) zW gD T.b_max nZ (a7 (NZ (sL (ZT (AI ["_law_one"] 1 [] [(.v .sh)] (bS (vr (.v .sh) z)) (λ_ _ _ _=>(gq 0)) (λ_ _ _ _=>bY) (λ_ _ _ _=>(aH (mM (aR (m:=(.v .sh)) qo rfl rfl)) (aC aB) (λ_ _=>rfl))))) (a1Q (HE (AI ["_law_one"] 1 [] [(.v .sh)] (bS (vr (.v .sh) z)) (λ_ _ _ _=>(gq 0)) (λ_ _ _ _=>bY) (λ_ _ _ _=>(aL aN fL (k8 (aH (mM (aR (m:=(.v .sh)) qo rfl rfl)) (aC aB) (λ_ _=>rfl))) (aC aB)))))))) a9) aB nX nV)) (aC (aL cM oE (aC (aL cX sD (aC aB) (aC aB))) (aC aB))) (bA _))
 (aG (aS iJ rfl))
 aF)
 (a8 (X0 3 z ["_law_one"] 1 [] [(.v .sh)] (bS (vr (.v .sh) z)) (λ_ _ _ _=>(gq 0)) (λ_ _ _ _=>bY) (λ_ _ _ _=>(c4 .sh (a7 (aH (mM (aR (m:=(.v .sh)) qo rfl rfl)) (aC aB) (λ_ _=>rfl)) (a7 (aL aN fL (k8 (aH (mM (aR (m:=(.v .sh)) qo rfl rfl)) (aC aB) (λ_ _=>rfl))) (aC aB)) (a7 (aL aN fL (k8 (aH (mM (aR (m:=(.v .sh)) qo rfl rfl)) (aC aB) (λ_ _=>rfl))) (aC aB)) (a7 (aH (mM (aR (m:=(.v .sh)) qo rfl rfl)) (aC aB) (λ_ _=>rfl)) a9)))) rfl)))
 (a8 (X0 4 z ["_law_moment", "_law_price"] 2 [] [(.v .sh),(.v .sh)] (bS (vr (.v .sh) z)) (λ_ _ _ _=>(bR (n:=2) rfl (aD (gq 0) (aD (gq 1) bB)))) (λ_ _ _ _=>bY) (λ_ _ _ _=>(c4 .sh (a7 (aL aN fL bo (aC aB)) (a7 (aR (m:=(.v .sh)) qo rfl rfl) a9)) rfl)))
 (aG (aS (LX C5 wX (aC (dA hr C_claim (a7 (vb z) (a7 (vb z) (a7 (vb z) a9))) gD)) (aC (dA hr C_claim (a7 (vb z) (a7 (vb z) (a7 (vb z) a9))) gD)) (bA _)) rfl)))))
abbrev oN:Stmt:=top 28
abbrev ES:List Str:=["book", "benches", "choice", "paper"]
theorem GW:SN ES ["book", "benches"] oN:=bK
abbrev lN:=kO 7 "most_of" ["book", "benches"] [.bw,.bw] (.v .sn) fR
theorem BW (D:Df K mg "most_of" oN) (T:Txt K mg) (C_best_for:jT P w K mg base) (C_worth_of:jZ P w K mg base):lN P w K mg base :=
  have z:=GW
  A7 (mn:=[.no,.no,.no,.no]) (yF Lib.uY.2) D z λf cdv A outer s H E hr =>
  (a8 (kN (dA hr C_best_for (a7 (vb z) (a7 (vb z) a9)) gD) (bR (n:=2) rfl (aD (gn 2 z) (aD (gn 3 z) bB))))
 (aG (aS (c4 .sn (a7 (dA hr C_worth_of (a7 (vb z) (a7 (vb z) a9)) gD) (a7 (vr (.v .sn) z) (a7 (vr (.v .sn) z) a9))) rfl) rfl)))
abbrev v9:Stmt:=top 40
abbrev X5:List Str:=["_law_script", "_law_k", "_law_state", "_law_book_here", "_law_benches", "_law_paper_here"]
theorem ZP:SN X5 ["_law_script"] v9:=bK
abbrev HH:=kO 8 "law" ["_law_script"] [.scr] (.v .fl) IH
theorem UG (D:Df K mg "law" v9) (T:Txt K mg) (C_l_begun:qB P w K mg base) (C_l_book:nP P w K mg base) (C_l_take:e9 P w K mg base) (C_l_paper:lM P w K mg base) (C_most_of:lN P w K mg base) (C_l_alike:lJ P w K mg base) (C_l_later:lK P w K mg base) (C_l_moved:lL P w K mg base) (C_l_parted:jV P w K mg base):HH P w K mg base :=
  have z:=ZP
  X1 (mn:=[.no,.no,.no,.no,.no,.no]) (WY RI.2) D z λf cdv A outer s H E hr =>
  (a8 (dC PassesOwn.never rfl rfl (eT gD T.b_range (aC (aX (C3 rfl) zV gD T.b_max nZ (a7 (aC aB) (a7 (aC (aX (KL rfl) zX gD T.b_min AW (a7 (aC (GK gD T.b_len fY (a7 (vr .scr z) a9))) (a7 (aC aB) a9)) AV AU)) a9)) nX nV))) (gn 1 z)
 (a8 (jC 2 z (dA hr C_l_begun (a7 (vr .scr z) (a7 (vb z) a9)) gD))
 (a8 (jC 3 z (dA hr C_l_book (a7 (vr .st z) (a7 (aC aB) a9)) gD))
 (a8 (jC 4 z (dA hr C_l_take (a7 (vr .st z) (a7 (aC aB) a9)) gD))
 (a8 (dC PassesOwn.never rfl rfl (dW (i7 (c0 .sn (a7 (aH (Y0 (dA hr C_most_of (a7 (vb z) (a7 (vb z) a9)) gD)) (aC aB) (λ_ _=>rfl)) (a7 (BF (i7 (dA hr C_l_paper (a7 (vr .st z) (a7 (vb z) a9)) gD))) a9)) rfl))) (gn 5 z)
 (a8 (fG (CK (m9 (aC (dA hr C_l_alike (a7 (vb z) (a7 (vb z) (a7 (vb z) (a7 (U2 (dA hr C_l_moved (a7 (vr .st z) (a7 (vb z) (a7 (vb z) a9))) gD)) a9)))) gD))))
 (aG (aS iJ rfl))
 aF)
 (a8 (fG (CK (m9 (aC (dA hr C_l_alike (a7 (vb z) (a7 (vb z) (a7 (vb z) (a7 (U2 (dA hr C_l_parted (a7 (vr .st z) (a7 (vb z) (a7 (vb z) a9))) gD)) a9)))) gD))))
 (aG (aS iJ rfl))
 aF)
 (a8 (fG (CK (m9 (aC (dA hr C_l_later (a7 (vb z) (a7 (vb z) (a7 (vb z) a9))) gD))))
 (aG (aS iJ rfl))
 aF)
 (cS (m1:=[.scr,(.v .fl),.st,(.o .fl),(.v .fl),.no]) rfl aF)))))
 (cS (m1:=[.scr,.no,.no,.no,.no,.no]) rfl aF))))))
 (aG (aS iJ rfl)))
end
theorem RV {l:PySem.W.OpenLaw} {w:World} {K:PySem.W.Frag} {h:Heap} {mg:Str -> Option Value} {fa:Addr} (X:K.In h) (G:h.Ns mainGlobals mg) (hfa:mg "law" = some (.ref fa))
  (D_is_over:DfA K "is_over" oF) (D_moments_of:DfA K "moments_of" fM) (D_toll_of:DfA K "toll_of" oP) (D_rest_of:DfA K "rest_of" oO) (D_rests_of:DfA K "rests_of" m5) (D_prices_of:DfA K "prices_of" kK) (D_claim:DfA K "claim" wV) (D_load_at:DfA K "load_at" oM) (D_loads_of:DfA K "loads_of" m4) (D_crowd_of:DfA K "crowd_of" lZ) (D_worth_of:DfA K "worth_of" m7) (D_places_of:DfA K "places_of" kI) (D_free_roads:DfA K "free_roads" jB) (D_stretch_roads:DfA K "stretch_roads" d8) (D_roads_of:DfA K "roads_of" m6) (D_greatest_gains:DfA K "greatest_gains" cA) (D_numbers_along:DfA K "numbers_along" fD) (D_changed_by:DfA K "changed_by" jA) (D_prices_by:DfA K "prices_by" kJ) (D_best_up_to:DfA K "best_up_to" dS) (D_greatest_load:DfA K "greatest_load" fB) (D_best_for:DfA K "best_for" lY) (D_most_of:DfA K "most_of" oN) (D_l_begun:DfA K "_law_begun" cB) (D_l_take:DfA K "_law_take" cQ) (D_l_name:DfA K "_law_name" sF) (D_l_book:DfA K "_law_book" sE) (D_l_paper:DfA K "_law_paper" oJ) (D_l_piece:DfA K "_law_piece" oK) (D_l_moved:DfA K "_law_moved" oI) (D_l_parted:DfA K "_law_parted" m3) (D_l_alike:DfA K "_law_alike" oG) (D_l_later:DfA K "_law_later" oH) (D_law:DfA K "law" v9)
  (z_dict:PySem.W.nsIn K mainGlobals "dict" = some none) (z_enumerate:PySem.W.nsIn K mainGlobals "enumerate" = some none) (z_int:PySem.W.nsIn K mainGlobals "int" = some none) (z_len:PySem.W.nsIn K mainGlobals "len" = some none) (z_list:PySem.W.nsIn K mainGlobals "list" = some none) (z_max:PySem.W.nsIn K mainGlobals "max" = some none) (z_min:PySem.W.nsIn K mainGlobals "min" = some none) (z_range:PySem.W.nsIn K mainGlobals "range" = some none) (z_set:PySem.W.nsIn K mainGlobals "set" = some none) (z_sorted:PySem.W.nsIn K mainGlobals "sorted" = some none) (z_sum:PySem.W.nsIn K mainGlobals "sum" = some none) (z_zip:PySem.W.nsIn K mainGlobals "zip" = some none)   :
  ∃ fd:FuncData,(∀ (s:Shared) (v:Value),BindsTo s fd ⟨[v],[]⟩ [("_law_script",v)]) /\ ∀ base:Heap,K.In base -> base.Ns mainGlobals mg -> FnOk l.prog w K mg base iU 8 fa fd ["_law_script"] (x8 K):=by
 obtain ⟨fl,oc,od,an,osl,kV,doc,pm,cdv,ct,al,ll,cl,kl⟩:=D_law.ex
 have e:=hfa.symm.trans (PySem.W.mg_of X G al)
 cases e
 have T:Txt K mg:=⟨PySem.W.mg_none_of X G z_dict,PySem.W.mg_none_of X G z_enumerate,PySem.W.mg_none_of X G z_int,PySem.W.mg_none_of X G z_len,PySem.W.mg_none_of X G z_list,PySem.W.mg_none_of X G z_max,PySem.W.mg_none_of X G z_min,PySem.W.mg_none_of X G z_range,PySem.W.mg_none_of X G z_set,PySem.W.mg_none_of X G z_sorted,PySem.W.mg_none_of X G z_sum,PySem.W.mg_none_of X G z_zip⟩
 refine ⟨PySem.W.fnOf "law" "law" (cK v9) (bI v9) (aA v9) .none kV doc pm an cdv ct,λs v=>.of_eq rfl,λbase _ _=>?_⟩
 have C_is_over:fW l.prog w K mg base:=BM (D_is_over.df X G) T
 have C_moments_of:eU l.prog w K mg base:=sZ (D_moments_of.df X G) T
 have C_prices_of:iR l.prog w K mg base:=wG (D_prices_of.df X G) T
 have C_worth_of:jZ l.prog w K mg base:=z9 (D_worth_of.df X G) T
 have C_free_roads:gZ l.prog w K mg base:=sY (D_free_roads.df X G) T
 have C_stretch_roads:eD l.prog w K mg base:=oB (D_stretch_roads.df X G) T
 have C_greatest_gains:dO l.prog w K mg base:=mP (D_greatest_gains.df X G) T
 have C_numbers_along:eC l.prog w K mg base:=oA (D_numbers_along.df X G) T
 have C_changed_by:gY l.prog w K mg base:=sX (D_changed_by.df X G) T
 have C_prices_by:iQ l.prog w K mg base:=wF (D_prices_by.df X G) T
 have C_l_begun:qB l.prog w K mg base:=F2 (BO (D_l_begun.df X G) T )
 have C_l_take:e9 l.prog w K mg base:=IC (G6 (D_l_take.df X G) T )
 have C_l_piece:iN l.prog w K mg base:=BU (D_l_piece.df X G) T
 have C_toll_of:iT l.prog w K mg base:=BY (D_toll_of.df X G) T C_is_over
 have C_load_at:iO l.prog w K mg base:=BV (D_load_at.df X G) T C_is_over
 have C_places_of:iP l.prog w K mg base:=wD (D_places_of.df X G) T C_moments_of
 have C_l_name:nQ l.prog w K mg base:=G5 (D_l_name.df X G) T C_l_take
 have C_l_paper:lM l.prog w K mg base:=BR (D_l_paper.df X G) T C_l_take
 have C_l_moved:lL l.prog w K mg base:=BQ (D_l_moved.df X G) T C_l_piece C_l_take
 have C_l_parted:jV l.prog w K mg base:=yY (D_l_parted.df X G) T C_l_piece C_l_take
 have C_rest_of:iS l.prog w K mg base:=BX (D_rest_of.df X G) T C_toll_of
 have C_loads_of:jW l.prog w K mg base:=yZ (D_loads_of.df X G) T C_moments_of C_load_at
 have C_roads_of:jY l.prog w K mg base:=z8 (D_roads_of.df X G) T C_free_roads C_stretch_roads C_load_at
 have C_l_book:nP l.prog w K mg base:=G4 (D_l_book.df X G) T C_l_take C_l_name
 have C_rests_of:jX l.prog w K mg base:=z7 (D_rests_of.df X G) T C_rest_of
 have C_crowd_of:jU l.prog w K mg base:=yX (D_crowd_of.df X G) T C_loads_of C_is_over
 have C_best_up_to:gX l.prog w K mg base:=sW (D_best_up_to.df X G) T C_places_of C_roads_of C_greatest_gains C_changed_by C_numbers_along C_prices_by
 have C_claim:mC l.prog w K mg base:=JT (D_claim.df X G) T C_rests_of C_prices_of
 have C_greatest_load:e8 l.prog w K mg base:=o9 (D_greatest_load.df X G) T C_crowd_of
 have C_best_for:jT l.prog w K mg base:=yW (D_best_for.df X G) T C_best_up_to C_greatest_load
 have C_l_alike:lJ l.prog w K mg base:=BN (D_l_alike.df X G) T C_claim C_toll_of C_rest_of
 have C_l_later:lK l.prog w K mg base:=BP (D_l_later.df X G) T C_claim
 have C_most_of:lN l.prog w K mg base:=BW (D_most_of.df X G) T C_best_for C_worth_of
 have C_law:HH l.prog w K mg base:=UG (D_law.df X G) T C_l_begun C_l_book C_l_take C_l_paper C_most_of C_l_alike C_l_later C_l_moved C_l_parted
 exact S3 (MY C_law U3) hfa ll
theorem a17 {l:PySem.W.OpenLaw} {q:Program} {loose:List Str} {XP:(Str -> Option Value) -> Heap -> Prop} {YP:World -> Heap -> Prop} {d:DefRec} {K:Params -> PySem.W.Frag} (hn:l.most = some 63) (hdf:d.params.defaults = []) (himp:PyProof.Rows.importsNone q = true)
  (hY:∀ (w:World) (h:Heap),YP w h -> (K w.params).In h)
  (F:∀ (w:World) (mg:Str -> Option Value) (fa:Addr) (h:Heap),(K w.params).In h -> h.Ns mainGlobals mg -> mg d.name = some (.ref fa) ->
   ∃ fd:FuncData,(∀ (s:Shared) (u:Value),BindsTo s fd ⟨[u],[]⟩ [("_law_script",u)]) /\ ∀ base:Heap,(K w.params).In base -> base.Ns mainGlobals mg -> FnOk l.prog w (K w.params) mg base iU 8 fa fd ["_law_script"] (x8 (K w.params))) :
  PySem.W.WalkO q loose XP YP l.row.toRowW d [] (λf vs=>PySem.call f vs) :=
 L2.QN (n:=63) (k:=8) (x := "_law_script") (CX:=λ_=>iU) (sp:=λw=>x8 (K w.params)) hn (by decide) hdf himp ⟨rfl,by decide,by decide,rfl⟩ hY F (λ_ _ a ns hl o hS=>⟨a,ns,rfl,L9 hS o,hl,λ_=>rfl⟩) λ_ _ _ _ _ z=>z
end K28
theorem PySem.W.Fast.tw10652543888690151132:True:=⟨⟩
theorem PySem.W.Fast.tw14037735385488991368:True:=⟨⟩
theorem PySem.W.Fast.tw11893443037431208481:True:=⟨⟩
theorem PySem.W.Fast.tw13989935436514206552:True:=⟨⟩
theorem PySem.W.Fast.tw18324785360881093510:True:=⟨⟩
theorem PySem.W.Fast.tw9532335442814434893:True:=⟨⟩
theorem PySem.W.Fast.tw9196694839637198651:True:=⟨⟩
theorem PySem.W.Fast.tw14482041362648632070:True:=⟨⟩
theorem PySem.W.Fast.tw11064513201776880413:True:=⟨⟩
theorem PySem.W.Fast.tw18087661099786376208:True:=⟨⟩
theorem PySem.W.Fast.tw14183336928848348915:True:=⟨⟩
theorem PySem.W.Fast.tw12352046245581559833:True:=⟨⟩
theorem PySem.W.Fast.tw10776799246908942481:True:=⟨⟩
theorem PySem.W.Fast.tw12006209240164982583:True:=⟨⟩
theorem PySem.W.Fast.tw13673577505232722324:True:=⟨⟩
theorem PySem.W.Fast.tw14816749952029647213:True:=⟨⟩
theorem PySem.W.Fast.tw15513259271747785413:True:=⟨⟩
theorem PySem.W.Fast.tw15376321109067458247:True:=⟨⟩
theorem PySem.W.Fast.tw9180328759123479649:True:=⟨⟩
theorem PySem.W.Fast.tw11820241494787493649:True:=⟨⟩
theorem PySem.W.Fast.tw14749927104288755049:True:=⟨⟩
theorem PySem.W.Fast.tw9028548158284450463:True:=⟨⟩
theorem PySem.W.Fast.tw16279898941750117292:True:=⟨⟩
theorem PySem.W.Fast.tw16581588633876221566:True:=⟨⟩
theorem PySem.W.Fast.tw14827791370606332238:True:=⟨⟩
theorem PySem.W.Fast.tw3307976630815911208:True:=⟨⟩
theorem PySem.W.Fast.tw143850028757448808:True:=⟨⟩
theorem PySem.W.Fast.tw1469897541648804227:True:=⟨⟩
theorem PySem.W.Fast.tw2618826432948965930:True:=⟨⟩
theorem PySem.W.Fast.tw9038775457574547764:True:=⟨⟩
theorem PySem.W.Fast.tw17234580215398444534:True:=⟨⟩
theorem PySem.W.Fast.tw17286697102447051608:True:=⟨⟩
theorem PySem.W.Fast.tw16664835212047286794:True:=⟨⟩
theorem PySem.W.Fast.tw4895699348162027625:True:=⟨⟩
theorem PySem.W.Fast.tw17282252926495379692:True:=⟨⟩
theorem PySem.W.Fast.tw10733200106768338264:True:=⟨⟩
theorem PySem.W.Fast.tw9655510546524353482:True:=⟨⟩
theorem PySem.W.Fast.tw11704308138359853355:True:=⟨⟩
theorem PySem.W.Fast.tw5488001092872514188:True:=⟨⟩
theorem PySem.W.Fast.tw8103614089642055438:True:=⟨⟩
theorem PySem.W.Fast.tw5458551269182463308:True:=⟨⟩
theorem PySem.W.Fast.tw2048241531802090016:True:=⟨⟩
theorem PySem.W.Fast.tw18294693022973467835:True:=⟨⟩
theorem PySem.W.Fast.tw2659561017849626809:True:=⟨⟩
theorem PySem.W.Fast.tw12161428452558987367:True:=⟨⟩
theorem PySem.W.Fast.tw15840768239056199633:True:=⟨⟩
open PySem PySem.W PyProof.Rows
set_option maxRecDepth 100000 in
set_option maxHeartbeats 0 in
theorem PySem.Challenge.cw_benchworth_k28_whole_moved_prices_holds : PySem.Challenge.rw_benchworth_k28_whole_moved_prices.Holds := by
 w_on;o_law;k_head;(case hw=>w_witness2)
 k_fill
 refine K28.a17 (l:=PySem.Challenge.rw_benchworth_k28_whole_moved_prices) rfl rfl (by decide +kernel) (λw h Y=>PySem.W.kIn_of Y) ?F
 case F =>
  intro w mg fa h KX G hmg
  refine' K28.RV KX G hmg ?_ ?_ ?_ ?_ ?_ ?_ ?_ ?_ ?_ ?_ ?_ ?_ ?_ ?_ ?_ ?_ ?_ ?_ ?_ ?_ ?_ ?_ ?_ ?_ ?_ ?_ ?_ ?_ ?_ ?_ ?_ ?_ ?_ ?_ ?_ ?_ ?_ ?_ ?_ ?_ ?_ ?_ ?_ ?_ ?_ ?_
  all_goals first | walk_at "d" | k_is | kernel_rfl | decide +kernel
