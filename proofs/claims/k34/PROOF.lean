import PyProof.Rows.All
import Wide.All
import OpenK.AllK
import Wide.FinOn
import Lean
import PyProof.EqAt
import PyProof.CallStr
import PyProof.StrCalls2
import PyProof.EqKinds
import PyProof.TupleCall
import PyProof.NeKinds
import PyProof.CollectWalk
import PyProof.CollectStr
import PyProof.SetRoads
import KE.KDictSum
import PyProof.Rows.RuleN_abs
import PyProof.Rows.SeqMore2
import KE.KSortTup
import PyProof.SeqI3
import PyProof.ZipIter
import PyProof.Rows.SetFrom
import PyProof.FactsAll.set
import PySem.Challenge.RW_benchworth_k34_whole_far_books_add
set_option Elab.async false
set_option linter.all false
set_option maxRecDepth 100000
set_option genSizeOf false
abbrev a0a:=@List.getElem?_eq_getElem
abbrev a0b:=@PySem.wpAny_bind
abbrev a0c:=@List.getD_eq_getElem?_getD
abbrev a0d:=@PySem.wpAny_pure
abbrev a0e:=@PySem.Heap.get?_push_of_some
abbrev a0f:=@List.length_map
local macro_rules | `(tactic| tb_from $t) => `(tactic| (walk_at "w"; refine $t))
abbrev Aa:=PySem.W.Frag
abbrev Ab:=PySem.Shared
abbrev Ac:=PySem.Addr
namespace L2
open PySem PySem.Spec PyProof.Rows
abbrev cI:=Sum Int Str
def vL:cI->Value->Bool
 |.inl k,v=>Value.isInt k v
 |.inr x,v=>Value.isStrOf x v
def a2N(w:World):cI->Int
 |.inl k=>hashInt k
 |.inr x=>hashStr w x
theorem bY:∀ {k:cI} {v:Value},vL k v=true->(∃i t,k=Sum.inl i/\v=Value.int i t)\/(∃x t,k=Sum.inr x/\v=Value.str x t)
 | .inl i,v,h=>by
  obtain⟨t,e⟩:=Value.isInt_shape (k:=i) (v:=v) h
  exact .inl ⟨i,t,rfl,e⟩
 | .inr x,v,h=>by
  obtain⟨t,e⟩:=Value.isStrOf_shape (x:=x) (v:=v) h
  exact .inr ⟨x,t,rfl,e⟩
theorem HE(i:Int)(t:Tok):vL (.inl i) (.int i t)=true:=by simp[vL,Value.isInt]
theorem HF(x:Str)(t:Tok):vL (.inr x) (.str x t)=true:=by simp[vL,Value.isStrOf]
theorem VX (a b:Int):decide ((Sum.inl a:cI)=Sum.inl b)=(a==b):=by
 by_cases e:a=b
 ·subst e;simp
 ·have h:¬(Sum.inl a:cI)=Sum.inl b:=λq=>e (Sum.inl.inj q)
  rw[decide_eq_false h]
  exact (beq_eq_false_iff_ne.mpr e).symm
theorem W7 (a b:Str):decide ((Sum.inr a:cI)=Sum.inr b)=decide (a=b):=by
 by_cases e:a=b
 ·subst e;simp
 ·have h:¬(Sum.inr a:cI)=Sum.inr b:=λq=>e (Sum.inr.inj q)
  rw[decide_eq_false h,decide_eq_false e]
theorem VY(a:Int)(b:Str):decide ((Sum.inl a:cI)=Sum.inr b)=false:=decide_eq_false (λq=>nomatch q)
theorem VZ(a:Str)(b:Int):decide ((Sum.inr a:cI)=Sum.inl b)=false:=decide_eq_false (λq=>nomatch q)
def dB (prog:Program) (w:World):PySem.KeyKind prog w cI where
 is:=vL
 hash:=a2N w
 inj:=λv a b ha hb=>by
  rcases bY ha with ⟨i,t,rfl,rfl⟩|⟨x,t,rfl,rfl⟩
  ·rcases bY hb with ⟨j,u,rfl,e⟩|⟨y,u,rfl,e⟩
   ·injection e with e1 _;rw[e1]
   ·exact nomatch e
  ·rcases bY hb with ⟨j,u,rfl,e⟩|⟨y,u,rfl,e⟩
   ·exact nomatch e
   ·injection e with e1 _;rw[e1]
 byValue:=λk v h=>by
  rcases bY h with ⟨i,t,rfl,rfl⟩|⟨x,t,rfl,rfl⟩<;>rfl
 pyHash:=λhv h=>by
  rcases bY hv with ⟨i,t,rfl,rfl⟩|⟨x,t,rfl,rfl⟩
  ·exact wpAny_pyHash_int h
  ·exact wpAny_pyHash_str h
 eqBool:=λhu hv h=>by
  rcases bY hu with ⟨i,t,rfl,rfl⟩|⟨x,t,rfl,rfl⟩
  ·rcases bY hv with ⟨j,u,rfl,rfl⟩|⟨y,u,rfl,rfl⟩
   ·rw[VX] at h;exact wpAny_eqBool_int h
   ·rw[VY] at h;exact SeqAt.EqAt.int_str i t y u _ _ _ _ h
  ·rcases bY hv with ⟨j,u,rfl,rfl⟩|⟨y,u,rfl,rfl⟩
   ·rw[VZ] at h;exact SeqAt.EqAt.str_int x t j u _ _ _ _ h
   ·rw[W7] at h;exact wpAny_eqBool_str h
 «strs»:=λk x t v h=>by
  rcases bY h with ⟨i,u,rfl,e⟩|⟨y,u,rfl,e⟩
  ·exact nomatch e
  ·injection e with e1 _
   subst e1
   cases v<;>rfl
theorem AD(prog:Program)(w:World)(i:Int)(t:Tok):(dB prog w).is (.inl i) (.int i t)=true:=HE i t
theorem AE(prog:Program)(w:World)(x:Str)(t:Tok):(dB prog w).is (.inr x) (.str x t)=true:=HF x t
inductive V where
 |non|bl (b:Bool)|int (i:Int)|str (x:Str)|byt (b:Array UInt8)|flt (b:UInt64)|ref (a:Ac)|ty (n:String)
 deriving DecidableEq
def bA:V->Value->Prop
 |.non,u=>u=Value.none
 |.bl b,u=>u=Value.bool b
 |.int i,u=>∃t,u=Value.int i t
 |.str x,u=>∃t,u=Value.str x t
 |.byt b,u=>∃t,u=Value.bytes b t
 |.flt b,u=>∃t,u=Value.float b t
 |.ref a,u=>u=Value.ref a
 |.ty n,u=>u=Value.type n
abbrev aV:List V->List Value->Prop:=Paired bA
theorem aV.length{xs:List V}{us:List Value}(r:aV xs us):xs.length=us.length:=Paired.length r
theorem aV.get:∀ {xs:List V} {us:List Value} {i:Nat} {x:V},aV xs us->xs[i]? =some x->∃u,us[i]? =some u/\bA x u
 |_,_,_,_,.nil,e=>by simp at e
 |_,_,0,_,.cons r _,e=>by simp at e;subst e;exact⟨_,rfl,r⟩
 | _,_,i+1,x,.cons _ t,e=>by
  obtain⟨u,h1,h2⟩:=aV.get (i:=i) (x:=x) t (by simpa using e)
  exact⟨u,by simpa using h1,h2⟩
theorem aV.set{x:V}{u:Value}(r:bA x u):∀ {xs:List V} {us:List Value} (i:Nat),aV xs us->aV (xs.set i x) (us.set i u)
 |_,_,_,.nil=>.nil
 |_,_,0,.cons _ t=>.cons r t
 |_,_,i+1,.cons q t=>.cons q (aV.set r i t)
theorem aV.append:∀ {xs ys:List V} {us ws:List Value},aV xs us->aV ys ws->aV (xs++ys) (us++ws)
 |_,_,_,_,.nil,s=>s
 |_,_,_,_,.cons r t,s=>.cons r (aV.append t s)
theorem aV.take:∀ {xs:List V} {us:List Value} (n:Nat),aV xs us->aV (xs.take n) (us.take n)
 |_,_,0,_=>.nil
 |_,_,_+1,.nil=>.nil
 |_,_,n+1,.cons r t=>.cons r (aV.take n t)
theorem aV.drop:∀ {xs:List V} {us:List Value} (n:Nat),aV xs us->aV (xs.drop n) (us.drop n)
 |_,_,0,r=>r
 |_,_,_+1,.nil=>.nil
 |_,_,n+1,.cons _ t=>aV.drop n t
def wV:Option V->Option Value->Prop
 |some v,some u=>bA v u
 |none,none=>True
 |_,_=>False
def KV{κ:Type}:List (κ×V)->List (κ×Value)->Prop:=Paired λ(p:κ×V) (q:κ×Value)=>p.1=q.1/\bA p.2 q.2
def kV:cI->V
 |.inl i=>.int i
 |.inr x=>.str x
inductive HO where
 |lst (xs:List V)
 |tup (xs:List V)
 |dK (kvs:List (cI×V))|dT (kvs:List (List cI×V))
 |set (S:Int->Bool) (n:Nat)
 |ins (C dx:Ac) (fs:List (Str×V))
 |own (x:Ac)
 |xd (fs:List (Str×V))
 |met (f x:Ac)
 |rng (lo hi:Int)
 |frz (o:Obj) (u:HO)
 |tbl
 |ext (φ:Heap->Prop)
abbrev Hp:=Ac->Option HO
def b7(H:Hp)(a:Ac)(o:HO):Hp:=λb=>if b=a then some o else H b
theorem aU{H:Hp}{a:Ac}{o:HO}:b7 H a o a=some o:=by unfold b7;rw[if_pos rfl]
theorem aD{H:Hp}{a b:Ac}{o:HO}(h:b≠a):b7 H a o b=H b:=by unfold b7;rw[if_neg h]
theorem FN{H:Hp}{a:Addr}{o u:HO}:b7 (b7 H a o) a u=b7 H a u:=by
 funext b;unfold b7;split<;>rfl
theorem bR{H:Hp}{a b:Addr}{o:HO}(h:H a=some o)(h':H b=none):a≠b:=by
 intro e;subst e;rw[h] at h';cases h'
section
variable(P:Program)(w:World)
def bT (H:Hp) (h:Heap) (a:Addr):HO->Prop
 |.lst xs=>xs.length<=sizeLine/\∃(its:List Value) (n:Nat),aV xs its/\h.get? a=some {cls:=.type "list",data:=.seq its.toArray n}
 |.tup xs=>xs.length<=sizeLine/\∃its:List Value,aV xs its/\IsTup h a its.toArray
 |.dK kvs=>kvs.length<=sizeLine/\(a==sysModules)=false/\∃vs,KV kvs vs/\h.DictOf (dB P w) a vs
 | .dT kvs=>kvs.length<=sizeLine/\(a==sysModules)=false/\∃xs:List (List cI×Addr×Value),
   Paired (λ(p:List cI×V) (q:List cI×Ac×Value)=>p.1=q.1/\H q.2.1=some (.tup (p.1.map kV))/\bA p.2 q.2.2) kvs xs/\
   ∃o es ep,h.get? a=some o/\o.ExactDict/\o.data= .dict es ep/\es.toList=xs.map (entryOfKey (tupleKind (dB P w)))/\(xs.map (·.1)).Nodup
 |.set S n=>h.SetOf (intKind P w) a S n
 | .ins C dx fs=>H dx=some (.own a)/\fs.length<=1000/\dx≠a/\h.get? a=some (PySem.W.instObj C dx)/\
   ∃mA,h.Ns1 dx mA/\(∀f,wV (fs.lookup f) (mA f))/\PySem.Within mA (fs.map (·.1))
 |.own _=>∃o,h.get? a=some o
 |.xd fs=>∃mA,h.Ns1 a mA/\∀f,wV (fs.lookup f) (mA f)
 |.rng lo hi=>∃t u v,h.get? a=some {cls:=.type "range",data:=.fields #[.int lo t,.int hi u,.int 1 v]}
 |.frz o u=>h.get? a=some o/\bT H h a u
 |.tbl=>∃ps:Array Value,h.get? a=some {cls:=.none,data:=.fields ps}/\TriplesOk ps.toList
 |.met f x=>h.get? a=some (PySem.W.methodObj (.ref f) (.ref x))
 |.ext φ=>φ h/\(∃o,h.get? a=some o)/\∀h1 h2:Heap,φ h1->(∀o,h1.get? a=some o->h2.get? a=some o)->φ h2
def lL(H:Hp)(h:Heap):Prop:=∀a o,H a=some o->bT P w H h a o
end
section
variable{P:Program}{w:World}{H H':Hp}{h h':Heap}{a:Ac}{o:HO}
theorem bT.lt(x:bT P w H h a o):a<h.objs.size:=by
 cases o with
 |lst xs=>obtain⟨_,_,_,_,e⟩:=x;exact Heap.lt_size e
 |tup xs=>obtain⟨_,_,_,p⟩:=x;exact p.lt
 |dK kvs=>obtain⟨_,_,_,_,o,_,_,e,_⟩:=x;exact Heap.lt_size e
 |dT kvs=>obtain⟨_,_,_,_,o,_,_,e,_⟩:=x;exact Heap.lt_size e
 |set S n=>obtain⟨o,_,_,_,e,_⟩:=x;exact Heap.lt_size e
 |ins C dx fs=>obtain⟨_,_,_,e,_⟩:=x;exact Heap.lt_size e
 |own y=>obtain⟨_,e⟩:=x;exact Heap.lt_size e
 |xd fs=>obtain⟨_,⟨_,_,_,e,_⟩,_⟩:=x;exact Heap.lt_size e
 |rng lo hi=>obtain⟨_,_,_,e⟩:=x;exact Heap.lt_size e
 |frz ob u=>obtain⟨e,_⟩:=x;exact Heap.lt_size e
 |tbl=>obtain⟨_,e,_⟩:=x;exact Heap.lt_size e
 |met f y=>exact Heap.lt_size (show h.get? a=some _ from x)
 |ext φ=>obtain⟨_,⟨_,e⟩,_⟩:=x;exact Heap.lt_size e
theorem Paired.mapP{α β:Type}{F G:α->β->Prop}:∀ {l₁:List α} {l₂:List β},Paired F l₁ l₂->(∀a b,F a b->G a b)->Paired G l₁ l₂
 |_,_,.nil,_=>.nil
 |_,_,.cons r t,f=>.cons (f _ _ r) (Paired.mapP t f)
theorem bT.stay (x:bT P w H h a o) (k:∀b u,(b=a\/H b=some (.own a))->h.get? b=some u->h'.get? b=some u)
  (ho:∀b,H b=some (.own a)->H' b=some (.own a)) (ht:∀b xs,H b=some (.tup xs)->H' b=some (.tup xs)):bT P w H' h' a o:=by
 induction o with
 |lst xs=>obtain⟨z,its,n,r,e⟩:=x;exact⟨z,its,n,r,k _ _ (.inl rfl) e⟩
 |tup xs=>obtain⟨z,its,r,ob,e,c⟩:=x;exact⟨z,its,r,ob,k _ _ (.inl rfl) e,c⟩
 |dK kvs=>obtain⟨z,y,vs,r,ob,es,ep,e,c⟩:=x;exact⟨z,y,vs,r,ob,es,ep,k _ _ (.inl rfl) e,c⟩
 | dT kvs=>
  obtain⟨z,y,xs,r,ob,es,ep,e,c⟩:=x
  exact⟨z,y,xs,Paired.mapP r λp q z=>⟨z.1,ht _ _ z.2.1,z.2.2⟩,ob,es,ep,k _ _ (.inl rfl) e,c⟩
 |set S n=>obtain⟨ob,es,ep,t,e,c⟩:=x;exact⟨ob,es,ep,t,k _ _ (.inl rfl) e,c⟩
 | ins C dx fs=>
  obtain⟨d,z,ne,e,mA,⟨od,es,ep,e2,c⟩,r⟩:=x
  exact⟨ho _ d,z,ne,k _ _ (.inl rfl) e,mA,⟨od,es,ep,k _ _ (.inr d) e2,c⟩,r⟩
 |own y=>obtain⟨ob,e⟩:=x;exact⟨ob,k _ _ (.inl rfl) e⟩
 |xd fs=>obtain⟨mA,⟨od,es,ep,e,c⟩,r⟩:=x;exact⟨mA,⟨od,es,ep,k _ _ (.inl rfl) e,c⟩,r⟩
 |rng lo hi=>obtain⟨t,u,v,e⟩:=x;exact⟨t,u,v,k _ _ (.inl rfl) e⟩
 |frz ob u ih=>obtain⟨e,q⟩:=x;exact⟨k _ _ (.inl rfl) e,ih q⟩
 |tbl=>obtain⟨ps,e,q⟩:=x;exact⟨ps,k _ _ (.inl rfl) e,q⟩
 | met f y=>
  have e:h.get? a=some (PySem.W.methodObj (.ref f) (.ref y)):=x
  show h'.get? a=some (PySem.W.methodObj (.ref f) (.ref y))
  exact k a _ (.inl rfl) e
 |ext φ=>obtain⟨p,⟨o,e⟩,st⟩:=x;exact⟨st _ _ p λo q=>k _ _ (.inl rfl) q,⟨o,k _ _ (.inl rfl) e⟩,st⟩
theorem lL.lt(x:lL P w H h)(e:H a=some o):a<h.objs.size:=(x a o e).lt
theorem lL.fresh(x:lL P w H h)(e:h.objs.size<=a):H a=none:=by
 cases q:H a with
 |none=>rfl
 |some u=>exact absurd (Nat.lt_of_lt_of_le (x.lt q) e) (Nat.lt_irrefl _)
theorem lL.kept(x:lL P w H h)(k:∀b u,h.get? b=some u->h'.get? b=some u):lL P w H h':=λa o e=>
 (x a o e).stay (λb u _ q=>k b u q) (λ_ q=>q) λ_ _ q=>q
theorem lL.laid (x:lL P w H h) (k:∀b u,h.get? b=some u->h'.get? b=some u) (hp:h.objs.size<=a) (new:bT P w (b7 H a o) h' a o):lL P w (b7 H a o) h':=λb u e=>by
 have hn:=x.fresh hp
 by_cases hb:b=a
 ·subst hb;rw[aU] at e;cases e;exact new
 ·rw[aD hb] at e
  exact (x b u e).stay (λc v _ q=>k c v q) (λc q=>by rw[aD (bR q hn)];exact q) λc xs q=>by rw[aD (bR q hn)];exact q
end
def Rd(H:Hp)(a:Ac)(u:HO):Prop:=H a=some u\/∃o,H a=some (.frz o u)
theorem Rd.ok {P:Program} {w:World} {H:Hp} {h:Heap} {a:Addr} {u:HO} (r:Rd H a u) (x:lL P w H h):bT P w H h a u:=by
 rcases r with r|⟨o,r⟩
 ·exact x a u r
 ·obtain⟨_,q⟩:=x a _ r
  exact q
def ZA:Option HO->Prop
 |some (.lst _)=>True
 |some (.dK _)=>True
 |some (.dT _)=>True
 |some (.set _ _)=>True
 |some (.ins _ _ _)=>True
 |some (.ext _)=>True
 |_=>False
section
variable{P:Program}{w:World}{H:Hp}{h h':Heap}{x e:Ac}{o':HO}
theorem lL.write (ok:lL P w H h) (mu:ZA (H x)) (he:e=x\/H e=some (.own x)) (k:∀b u,b≠e->h.get? b=some u->h'.get? b=some u) (heo:∃u,h'.get? e=some u)
  (new:bT P w (b7 H x o') h' x o'):lL P w (b7 H x o') h':=λb u q=>by
 have nown:∀c y,H c=some (.own y)->c≠x:=λc y r z=>by subst z;rw[r] at mu;exact mu
 have ntup:∀c xs,H c=some (.tup xs)->c≠x:=λc xs r z=>by subst z;rw[r] at mu;exact mu
 by_cases hb:b=x
 ·subst hb;rw[aU] at q;cases q;exact new
 ·rw [aD hb] at q
  by_cases hbe:b=e
  ·have q':H b=some (.own x):=by
    rcases he with z|z
    ·exact absurd (hbe.trans z) hb
    ·rw[hbe];exact z
   rw[q] at q';cases q'
   obtain⟨v,hv⟩:=heo
   exact⟨v,by rw[hbe];exact hv⟩
  ·refine (ok b u q).stay (λc v hc r=>k c v ?_ r) (λc r=>by rw[aD (nown c b r)];exact r) λc xs r=>by rw[aD (ntup c xs r)];exact r
   rcases hc with rfl|hc
   ·exact hbe
   ·rintro rfl
    rcases he with z|z
    ·exact nown c b hc z
    ·rw[hc] at z;cases z;exact hb rfl
end
structure Un(fs ex:List Addr)(H H':Hp)(h h':Heap):Prop where
 keep:∀b o,h.get? b=some o->H b=none->b∉fs->b∉ex->h'.get? b=some o
 slot:∀b o,h.get? b=some o->H b=none->b∈fs->b∉ex->∃sl,h'.get? b=some {o with slots:=sl}
 free:∀b o,h.get? b=some o->H b=none->b∉ex->H' b=none
 there:∀b o,h.get? b=some o->b∉ex->∃o',h'.get? b=some o'
 tups:∀b xs,H b=some (.tup xs)->H' b=some (.tup xs)
 frzs:∀b o u,H b=some (.frz o u)->H' b=some (.frz o u)
 tbls:∀b,H b=some .tbl->H' b=some .tbl
section
variable{fs fs' ex ex':List Ac}{H H1 H2:Hp}{h h1 h2 h':Heap}{a x e:Ac}{o:HO}
theorem Un.any(u:Un fs ex H H1 h h1){b:Addr}{ob:Obj}(q:h.get? b=some ob)(n:H b=none)(hx:b∉ex):∃sl,h1.get? b=some {ob with slots:=sl}:=by
 by_cases hb:b∈fs
 ·exact u.slot b ob q n hb hx
 ·exact⟨ob.slots,u.keep b ob q n hb hx⟩
theorem Un.kept(k:∀b u,h.get? b=some u->h'.get? b=some u):Un fs ex H H h h':=
 ⟨λb ob q _ _ _=>k b ob q,λb ob q _ _ _=>⟨ob.slots,k b ob q⟩,λ_ _ _ n _=>n,λb ob q _=>⟨ob,k b ob q⟩,λ_ _ q=>q,λ_ _ _ q=>q,λ_ q=>q⟩
theorem Un.refl:Un fs ex H H h h:=Un.kept λ_ _ q=>q
theorem Un.laid(k:∀b u,h.get? b=some u->h'.get? b=some u)(hp:h.objs.size<=a)(hn:H a=none):Un fs ex H (b7 H a o) h h' where
 keep:=λb u q _ _ _=>k b u q
 slot:=λb u q _ _ _=>⟨u.slots,k b u q⟩
 free:=λb u q n _=>by rw[aD (Nat.ne_of_lt (Nat.lt_of_lt_of_le (Heap.lt_size q) hp))];exact n
 there:=λb u q _=>⟨u,k b u q⟩
 tups:=λb xs q=>by rw[aD (bR q hn)];exact q
 frzs:=λb u xs q=>by rw[aD (bR q hn)];exact q
 tbls:=λb q=>by rw[aD (bR q hn)];exact q
theorem Un.write (mu:ZA (H x)) (he:e=x\/H e=some (.own x)) (k:∀b u,b≠e->h.get? b=some u->h'.get? b=some u) (heo:∃u,h'.get? e=some u):Un fs ex H (b7 H x o) h h':=by
 have hx:∀b,H b=none->b≠x:=λb n z=>by subst z;rw[n] at mu;exact mu
 have hb:∀b,H b=none->b≠e:=λb n z=>by
  subst z
  rcases he with r|r
  ·exact hx b n r
  ·rw[n] at r;cases r
 have hm:∀b u,H b=some u->¬ZA (some u)->b≠x:=λb u q nm z=>by subst z;rw[q] at mu;exact nm mu
 refine ⟨λb u q n _ _=>k b u (hb b n) q,λb u q n _ _=>⟨u.slots,k b u (hb b n) q⟩,λb u q n _=>by rw[aD (hx b n)];exact n,λb u q _=>?_,
  λb xs q=>by rw[aD (hm b _ q λz=>z)];exact q,λb u xs q=>by rw[aD (hm b _ q λz=>z)];exact q,λb q=>by rw[aD (hm b _ q λz=>z)];exact q⟩
 by_cases hbe:b=e
 ·subst hbe;exact heo
 ·exact⟨u,k b u hbe q⟩
end
def a20(h:Heap)(H:Hp):List Ac:=(List.range h.objs.size).filter λa=>(H a).isSome
def GY(h:Heap)(H:Hp):Heap:=PySem.W.hideAll h (a20 h H)
theorem GZ(h:Heap)(H:Hp):(GY h H).objs.size=h.objs.size:=PySem.W.hideAll_size _ _
theorem KP {h:Heap} {H:Hp} {b:Addr} {o:Obj} (e:h.get? b=some o) (n:H b=none):(GY h H).get? b=some o:=
 PySem.W.hideAll_get _ e λhm=>by
  have q:(H b).isSome=true:=(List.mem_filter.mp hm).2
  rw[n] at q;simp at q
theorem QV {h:Heap} {H:Hp} {b:Addr} {o:Obj} (e:(GY h H).get? b=some o):h.get? b=some o/\H b=none:=by
 have e':h.get? b=some o:=PySem.W.of_hideAll (a20 h H) e
 refine⟨e',?_⟩
 cases q:H b with
 |none=>rfl
 | some x=>
  have hm:b∈a20 h H:=List.mem_filter.mpr ⟨List.mem_range.mpr (Heap.lt_size e'),by simp[q]⟩
  have z:(GY h H).get? b=none:=PySem.W.hideAll_none (a20 h H) hm
  rw[z] at e;cases e
def GX(a b:Array GenState):Prop:=∀(i:Nat) (x:GenState),a[i]? =some x->b[i]? =some x
structure Mod(K:PySem.W.Frag)(mg:Str->Option Value)(base:Heap):Prop where
 kin:K.In base
 glob:base.Ns mainGlobals mg
 blt:∃mb,base.Ns builtinsNs mb/\∀x:Str,x≠ "__name__"->mb x=bootBuiltins x
 nolimit:base.NoLimit
 mods:∃o,base.get? sysModules=some o
 bmod:∃bm ob,BMod base mainGlobals mg bm ob
structure Cx where
 prog:Program
 w:World
 K:Aa
 mg:Str->Option Value
 base:Heap
 A:Around
 N:List Str
 s₀:Ab
 H₀:Hp
 env:Env
 outer:List Env
 stack:List Env
 ex:List Ac
 fn:Str->Bool
 calm:Bool
 pn:List (Ac×Obj)
 xe:Value->Ab->Prop
def KJ(l:List Env):List Ac:=l.filterMap (·.frame)
abbrev Cx.fs(X:Cx):List Ac:=KJ X.outer
def a29(sc:Scope)(x:Str):Prop:=sc.names.lookup x=some .local\/sc.names.lookup x=some .cell\/sc.names.lookup x=some .free
def FV(sc:Scope)(x:Str):Prop:=sc.names.lookup x=some .local\/sc.names.lookup x=some .cell
def a25(env:Env)(h:Heap)(m:Str->Option Value)(x:Str)(u:Value):Prop:=
 (env.kindOf x=some .local/\m x=some u)\/((env.kindOf x=some .cell\/env.kindOf x=some .free)/\∃c,env.cells.lookup x=some c/\h.IsCell c (some u))
structure Cx.Ok(X:Cx):Prop where
 mod:Mod X.K X.mg X.base
 kind:X.env.scope.kind= .function
 glob:X.env.globals=mainGlobals
 blt:X.env.builtins=builtinsNs
 above:X.s₀.heap.objs.size<=X.env.locals
 inj:∀x y c,X.env.cells.lookup x=some c->X.env.cells.lookup y=some c->x=y
 has:∀x,(X.env.kindOf x=some .cell\/X.env.kindOf x=some .free)->∃c,X.env.cells.lookup x=some c
 cab:∀x c,X.fn x=true->X.env.cells.lookup x=some c->X.s₀.heap.objs.size<=c
 hd:X.calm=true->X.A.handled=none
 frames:X.A.frames=some X.stack
 stk:X.stack=X.outer\/(X.stack=X.env::X.outer/\X.env.frame=some X.env.locals)
 exf:∀b∈X.ex,b≠X.env.locals/\∀x c,X.env.cells.lookup x=some c->c≠b
 bs:∀b o,X.base.get? b=some o->X.s₀.heap.get? b=some o/\X.H₀ b=none
 bsz:X.base.objs.size<=X.s₀.heap.objs.size
 noex:∀b o,X.base.get? b=some o->b∉X.ex
 exfs:∀b∈X.ex,b∉X.fs
 funs:X.s₀.heap.FunFrames X.base X.outer
 frf:∀b∈X.fs,X.H₀ b=none
 tb:∀b∈X.base.life.registered,X.H₀ b=some .tbl
structure Inv(X:Cx)(pins:List (Addr×Obj))(σ:List (Option V))(H:Hp)(s:Shared):Prop where
 ok:X.Ok
 os:s.os=X.s₀.os
 bare:AllBare s.gens/\GX X.s₀.gens s.gens
 base:Un X.fs X.ex X.H₀ H X.s₀.heap s.heap
 loc:∃m,s.heap.Ns X.env.locals m/\∀(i:Nat) (x:Str) (v:V),X.N[i]? =some x->σ[i]? =some (some v)->a29 X.env.scope x->∃u,bA v u/\a25 X.env s.heap m x u
 cell:∀x c,X.env.cells.lookup x=some c->∃v,s.heap.IsCell c v
 free:H X.env.locals=none
 freeC:∀x c,X.env.cells.lookup x=some c->H c=none
 pin:∀p∈X.pn++pins,s.heap.get? p.1=some p.2/\H p.1=none/\p.1≠X.env.locals/\p.1∉X.fs/\∀v,p.2.data≠ .cell v
 hok:lL X.prog X.w H s.heap
 len:σ.length=X.N.length
section
variable{X:Cx}{pins:List (Ac×Obj)}{σ:List (Option V)}{H H':Hp}{s:Ab}{h':Heap}
theorem Cx.Ok.nofr(ok:X.Ok){b:Addr}{o:Obj}(e:X.base.get? b=some o):b∉X.fs:=λhb=>by
 have:=(ok.funs.mem hb).1
 rw[e] at this;cases this
theorem Inv.bs(I:Inv X pins σ H s):∀b o,X.base.get? b=some o->s.heap.get? b=some o/\H b=none:=λb o e=>
 ⟨I.base.keep b o (I.ok.bs b o e).1 (I.ok.bs b o e).2 (I.ok.nofr e) (I.ok.noex b o e),I.base.free b o (I.ok.bs b o e).1 (I.ok.bs b o e).2 (I.ok.noex b o e)⟩
theorem Inv.bk(I:Inv X pins σ H s):∀b o,X.base.get? b=some o->s.heap.get? b=some o:=λb o e=>(I.bs b o e).1
theorem Inv.mod(I:Inv X pins σ H s):Mod X.K X.mg X.base:=I.ok.mod
theorem Inv.kIn(I:Inv X pins σ H s):X.K.In s.heap:=I.ok.mod.kin.keeps I.bk
theorem Inv.lt(I:Inv X pins σ H s):X.env.locals<s.heap.objs.size:=let ⟨_,hn,_⟩:=I.loc;hn.lt
theorem Inv.sz(I:Inv X pins σ H s):X.s₀.heap.objs.size<=s.heap.objs.size:=Nat.le_trans I.ok.above (Nat.le_of_lt I.lt)
theorem Inv.nofs(I:Inv X pins σ H s){a:Addr}(h:s.heap.objs.size<=a):a∉X.fs:=λhb=>by
 obtain⟨_,o,ho,_⟩:=I.ok.funs.mem hb
 exact absurd (Nat.lt_of_lt_of_le (Heap.lt_size ho) (Nat.le_trans I.sz h)) (Nat.lt_irrefl _)
theorem Inv.cne(I:Inv X pins σ H s):∀x c,X.env.cells.lookup x=some c->c≠X.env.locals:=λx c e z=>by
 obtain⟨v,o,ho,hd⟩:=I.cell x c e
 obtain⟨m,⟨o',es,ep,ho',hd',_⟩,_⟩:=I.loc
 rw[z,ho'] at ho;cases ho;rw[hd'] at hd;cases hd
theorem Inv.funs (I:Inv X pins σ H s):s.heap.FunFrames X.base X.outer:=by
 have all:∀(l:List Env),(∀b∈KJ l,b∈X.fs)->X.s₀.heap.FunFrames X.base l->s.heap.FunFrames X.base l:=by
  intro l
  induction l with
  |nil=>intro _ _;trivial
  | cons env r ih=>
   intro hs hl
   obtain⟨hk,⟨L,o,hf,hn,ho,hd⟩,hr⟩:=hl
   have hL:L∈X.fs:=hs L (by unfold KJ;rw[List.filterMap_cons,hf];exact List.mem_cons_self)
   obtain⟨sl,e⟩:=I.base.slot L o ho (I.ok.frf L hL) hL λz=>I.ok.exfs L z hL
   exact⟨hk,⟨L,_,hf,hn,e,hd⟩,ih (λb hb=>hs b (by unfold KJ;rw[List.filterMap_cons,hf];exact List.mem_cons_of_mem _ hb)) hr⟩
 exact all X.outer (λ_ hb=>hb) I.ok.funs
theorem Inv.stack (I:Inv X pins σ H s):s.heap.FunFrames X.base X.stack:=by
 rcases I.ok.stk with e|⟨e,hf⟩
 ·rw[e];exact I.funs
 ·rw[e]
  obtain⟨m,hn,_⟩:=I.loc
  refine .cons (by rw[I.ok.kind];decide) hf hn ?_ I.funs
  exact Heap.get?_none_of_le (Nat.le_trans I.ok.bsz I.ok.above)
theorem Inv.stkSub (I:Inv X pins σ H s):∀b∈KJ X.stack,b∈X.env.locals::X.fs:=λb hb=>by
 rcases I.ok.stk with e|⟨e,hf⟩
 ·rw[e] at hb;exact List.mem_cons_of_mem _ hb
 ·rw[e] at hb
  unfold KJ at hb
  rw[List.filterMap_cons,hf] at hb
  exact hb
theorem Inv.stkFree (I:Inv X pins σ H s):∀b∈KJ X.stack,H b=none:=λb hb=>by
 rcases List.mem_cons.mp (I.stkSub b hb) with e|hb
 ·rw[e];exact I.free
 ·obtain⟨_,o,ho,_⟩:=I.ok.funs.mem hb
  exact I.base.free b o ho (I.ok.frf b hb) λz=>I.ok.exfs b z hb
theorem Inv.tb(I:Inv X pins σ H s):∀b∈X.base.life.registered,H b=some .tbl:=λb hb=>I.base.tbls b (I.ok.tb b hb)
theorem Inv.step {g':Array GenState} {t':Nat} {d':Drawn} {ch:List Addr} (I:Inv X pins σ H s)
  (hch:∀b∈ch,(b∈X.ex\/X.s₀.heap.objs.size<=b)/\b≠X.env.locals/\(∀x c,X.env.cells.lookup x=some c->c≠b)/\∀p∈X.pn++pins,p.1≠b)
  (keep:∀b o,b≠X.env.locals->b∉X.fs->b∉ch->s.heap.get? b=some o->H b=none->h'.get? b=some o)
  (slot:∀b o,b≠X.env.locals->b∈X.fs->b∉ch->s.heap.get? b=some o->H b=none->∃sl,h'.get? b=some {o with slots:=sl}) (free:∀b o,b∉ch->s.heap.get? b=some o->H b=none->H' b=none)
  (there:∀b o,b∉ch->s.heap.get? b=some o->∃o',h'.get? b=some o')
  (tups:∀b xs,H b=some (.tup xs)->H' b=some (.tup xs)) (frzs:∀b o u,H b=some (.frz o u)->H' b=some (.frz o u)) (tbls:∀b,H b=some .tbl->H' b=some .tbl)
  (ns:∀m,s.heap.Ns X.env.locals m->h'.Ns X.env.locals m) (hok:lL X.prog X.w H' h') (hg:AllBare g'/\GX X.s₀.gens g') :
  Inv X pins σ H' {s with heap:=h',gens:=g',drawn:=d',toks:=t'}:=by
 have neL:∀b o,X.s₀.heap.get? b=some o->b≠X.env.locals:=λb o e=>Nat.ne_of_lt (Nat.lt_of_lt_of_le (Heap.lt_size e) I.ok.above)
 have neC:∀b o,X.s₀.heap.get? b=some o->b∉X.ex->b∉ch:=λb o e hx hb=>by
  rcases (hch b hb).1 with z|z
  ·exact hx z
  ·exact absurd (Nat.lt_of_lt_of_le (Heap.lt_size e) z) (Nat.lt_irrefl _)
 have cellK:∀x c,X.env.cells.lookup x=some c->∀v,s.heap.IsCell c v->h'.IsCell c v:=λx c e v ⟨o,ho,hd⟩=>by
  have nch:c∉ch:=λz=>(hch c z).2.2.1 x c e rfl
  by_cases hc:c∈X.fs
  ·obtain⟨sl,q⟩:=slot c o (I.cne x c e) hc nch ho (I.freeC x c e)
   exact⟨_,q,hd⟩
  ·exact⟨o,keep c o (I.cne x c e) hc nch ho (I.freeC x c e),hd⟩
 refine⟨I.ok,I.os,hg,⟨λb o e n hb hx=>?_,λb o e n hb hx=>?_,λb o e n hx=>?_,λb o e hx=>?_,λb xs e=>tups b xs (I.base.tups b xs e),λb o xs e=>frzs b o xs (I.base.frzs b o xs e),λb e=>tbls b (I.base.tbls b e)⟩,?_,λx c e=>?_,?_,λx c e=>?_,λp hp=>?_,hok,I.len⟩
 ·exact keep b o (neL b o e) hb (neC b o e hx) (I.base.keep b o e n hb hx) (I.base.free b o e n hx)
 ·obtain⟨sl,e1⟩:=I.base.slot b o e n hb hx
  obtain⟨sl',e2⟩:=slot b _ (neL b o e) hb (neC b o e hx) e1 (I.base.free b o e n hx)
  exact⟨sl',e2⟩
 ·obtain⟨o',e1⟩:=I.base.there b o e hx
  exact free b o' (neC b o e hx) e1 (I.base.free b o e n hx)
 ·obtain⟨o',e1⟩:=I.base.there b o e hx
  exact there b o' (neC b o e hx) e1
 ·obtain⟨m,hn,hl⟩:=I.loc
  refine⟨m,ns m hn,λi x v e1 e2 e3=>?_⟩
  obtain⟨u,r,l⟩:=hl i x v e1 e2 e3
  refine⟨u,r,?_⟩
  rcases l with l|⟨k,c,e,z⟩
  ·exact .inl l
  ·exact .inr ⟨k,c,e,cellK x c e _ z⟩
 ·obtain⟨v,z⟩:=I.cell x c e
  exact⟨v,cellK x c e v z⟩
 ·obtain⟨m,⟨o,_,_,ho,_⟩,_⟩:=I.loc
  exact free _ o (λz=>(hch _ z).2.1 rfl) ho I.free
 ·obtain⟨v,o,ho,hd⟩:=I.cell x c e
  exact free c o (λz=>(hch c z).2.2.1 x c e rfl) ho (I.freeC x c e)
 ·obtain⟨e,n,ne,nf,d⟩:=I.pin p hp
  have nch:p.1∉ch:=λz=>(hch p.1 z).2.2.2 p hp rfl
  exact⟨keep p.1 p.2 ne nf nch e n,free p.1 p.2 nch e n,ne,nf,d⟩
theorem Inv.un {t':Nat} (I:Inv X pins σ H s) (u:Un X.fs [] H H' s.heap h') (hok:lL X.prog X.w H' h'):Inv X pins σ H' {s with heap:=h',toks:=t'}:=by
 obtain⟨m,⟨o,es,ep,ho,r⟩,_⟩:=id I.loc
 obtain⟨sl,hL⟩:=u.any ho I.free (by simp)
 exact I.step (g':=s.gens) (d':=s.drawn) (ch:=[]) (λ_ z=>nomatch z) (λb o _ hb _ e n=>u.keep b o e n hb (by simp)) (λb o _ hb _ e n=>u.slot b o e n hb (by simp)) (λb o _ e n=>u.free b o e n (by simp)) (λb o _ e=>u.there b o e (by simp)) u.tups u.frzs u.tbls (λm' hm=>by
  obtain⟨o',es',ep',ho',r'⟩:=hm
  rw[ho] at ho';cases ho'
  exact⟨_,es',ep',hL,r'⟩) hok I.bare
theorem Inv.call {g':Array GenState} {t':Nat} {d':Drawn} {ch:List Addr} (I:Inv X pins σ H s) (u:Un (KJ X.stack) ch H H' s.heap h') (hok:lL X.prog X.w H' h') (hg:AllBare g'/\GX s.gens g')
  (hch:∀b∈ch,(b∈X.ex\/X.s₀.heap.objs.size<=b)/\b≠X.env.locals/\(∀x c,X.env.cells.lookup x=some c->c≠b)/\∀p∈X.pn++pins,p.1≠b) :
  Inv X pins σ H' {s with heap:=h',gens:=g',drawn:=d',toks:=t'}:=by
 obtain⟨m,⟨o,es,ep,ho,r⟩,_⟩:=id I.loc
 obtain⟨sl,hL⟩:=u.any ho I.free λz=>(hch _ z).2.1 rfl
 exact I.step (ch:=ch) hch (λb o hL hb hc e n=>u.keep b o e n (λz=>(List.mem_cons.mp (I.stkSub b z)).elim hL hb) hc) (λb o _ _ hc e n=>u.any e n hc) (λb o hc e n=>u.free b o e n hc) (λb o hc e=>u.there b o e hc) u.tups u.frzs u.tbls (λm' hm=>by
  obtain⟨o',es',ep',ho',r'⟩:=hm
  rw[ho] at ho';cases ho'
  exact⟨_,es',ep',hL,r'⟩) hok ⟨hg.1,λi x e=>hg.2 i x (I.bare.2 i x e)⟩
theorem Inv.turned {t':Nat} {it:Addr} (I:Inv X pins σ H s) (k:∀b o,b≠it->s.heap.get? b=some o->h'.get? b=some o) (hn:H it=none) (hL:it≠X.env.locals)
  (h1:it∈X.ex\/X.s₀.heap.objs.size<=it) (h2:∀x c,X.env.cells.lookup x=some c->c≠it) (h3:∀p∈X.pn++pins,p.1≠it):Inv X pins σ H {s with heap:=h',toks:=t'}:=by
 have nit:∀b u,H b=some u->b≠it:=λb u e z=>by rw[z,hn] at e;cases e
 refine I.step (g':=s.gens) (d':=s.drawn) (ch:=[it]) (λb hb=>?_) (λb o _ _ hc e _=>k b o (λz=>hc (by simp[z])) e) (λb o _ _ hc e _=>⟨o.slots,k b o (λz=>hc (by simp[z])) e⟩) (λ_ _ _ _ n=>n)
  (λb o hc e=>⟨o,k b o (λz=>hc (by simp[z])) e⟩) (λ_ _ e=>e) (λ_ _ _ e=>e) (λb e=>e) (λm hm=>?_) (λb u e=>?_) I.bare
 ·have e:b=it:=by simpa using hb
  subst e
  exact⟨h1,hL,h2,h3⟩
 ·obtain⟨o,es,ep,ho,r⟩:=hm
  exact⟨o,es,ep,k _ o (Ne.symm hL) ho,r⟩
 ·refine (I.hok b u e).stay (λc v hc q=>k c v ?_ q) (λ_ q=>q) λ_ _ q=>q
  rcases hc with z|z
  ·rw[z];exact nit b u e
  ·exact nit c _ z
theorem Inv.tok(I:Inv X pins σ H s)(t:Nat):Inv X pins σ H {s with toks:=t}:=I.un (h':=s.heap) (t':=t) Un.refl I.hok
theorem Inv.kept{t':Nat}(I:Inv X pins σ H s)(k:∀b u,s.heap.get? b=some u->h'.get? b=some u):Inv X pins σ H {s with heap:=h',toks:=t'}:=I.un (Un.kept k) (I.hok.kept k)
theorem Inv.laid {a:Addr} {o:HO} {t':Nat} (I:Inv X pins σ H s) (k:∀b u,s.heap.get? b=some u->h'.get? b=some u) (hp:s.heap.objs.size<=a) (new:bT X.prog X.w (b7 H a o) h' a o) :
  Inv X pins σ (b7 H a o) {s with heap:=h',toks:=t'}:=I.un (Un.laid k hp (I.hok.fresh hp)) (I.hok.laid k hp new)
theorem Inv.write {x e:Addr} {o:HO} {t':Nat} (I:Inv X pins σ H s) (mu:ZA (H x)) (he:e=x\/H e=some (.own x)) (k:∀b u,b≠e->s.heap.get? b=some u->h'.get? b=some u) (heo:∃u,h'.get? e=some u)
  (new:bT X.prog X.w (b7 H x o) h' x o):Inv X pins σ (b7 H x o) {s with heap:=h',toks:=t'}:=I.un (Un.write mu he k heo) (I.hok.write mu he k heo new)
theorem Inv.pins_of{pins':List (Addr×Obj)}(I:Inv X pins σ H s)(h:∀p∈pins',s.heap.get? p.1=some p.2/\H p.1=none/\p.1≠X.env.locals/\p.1∉X.fs/\∀v,p.2.data≠ .cell v):Inv X pins' σ H s:=
 ⟨I.ok,I.os,I.bare,I.base,I.loc,I.cell,I.free,I.freeC,λp hp=>(List.mem_append.mp hp).elim (λz=>I.pin p (List.mem_append_left _ z)) (h p),I.hok,I.len⟩
theorem AG{N:List Str}(hN:N.Nodup){i j:Nat}{x:Str}(a:N[i]? =some x)(b:N[j]? =some x):i=j:=by
 obtain⟨h1,e1⟩:=List.getElem?_eq_some_iff.mp a
 obtain⟨h2,e2⟩:=List.getElem?_eq_some_iff.mp b
 exact (List.getElem_inj hN).mp (e1.trans e2.symm)
theorem IC {M:Model} {A:Around} {E:Value->Shared->Prop} {i:Nat} {x:Str} {v:V} {u:Value} {Q:Unit->Shared->Prop} (I:Inv X pins σ H s) (hN:X.N.Nodup) (hi:X.N[i]? =some x) (hx:FV X.env.scope x) (r:bA v u)
  (h:∀s',Inv X pins (σ.set i (some v)) H s'->(∃a,Heap.SameBut a s.heap s'.heap/\(a=X.env.locals\/X.env.cells.lookup x=some a))->Q () s') (hf:X.fn x=true\/X.env.scope.names.lookup x=some .local:=by first|exact .inl rfl|exact .inr rfl|assumption):wpAny M A (storeName X.env x u) Q E s:=by
 obtain⟨m,hn,hl⟩:=id I.loc
 have hcls:(X.env.scope.kind== .class||(X.env.scope.kind== .module&&X.env.locals !=X.env.globals))=false:=by rw[I.ok.kind];rfl
 have hiσ:i<σ.length:=by rw[I.len];exact (List.getElem?_eq_some_iff.mp hi).1
 have cne:=I.cne
 have tracked:∀ {a:Addr} {h':Heap},(∃o,s.heap.get? a=some o/\H a=none)->Heap.SameBut a s.heap h'->lL X.prog X.w H h':=fun {a h'} ha hs b ob e=>by
  obtain⟨_,_,hfree⟩:=ha
  refine (I.hok b ob e).stay (λc w' hc q=>(hs.2 c ?_).trans q) (λ_ q=>q) λ_ _ q=>q
  rintro rfl
  rcases hc with rfl|hc
  ·rw[hfree] at e;cases e
  ·rw[hfree] at hc;cases hc
 rcases hx with hk|hk
 ·refine wpAny_storeName_local hk hn (λh' hn' hs=>?_) hcls
  obtain⟨oL,_,_,hoL,_⟩:=id hn
  refine h _ ⟨I.ok,I.os,I.bare,⟨λb o e n hb hx=>?_,λb o e n hb hx=>?_,I.base.free,λb o e hx=>?_,I.base.tups,I.base.frzs,I.base.tbls⟩,⟨_,hn',λj y v' e1 e2 e3=>?_⟩,λy c e=>?_,I.free,I.freeC,λp hp=>?_,tracked ⟨oL,hoL,I.free⟩ hs,by simpa using I.len⟩ ⟨_,hs,.inl rfl⟩
  ·exact (hs.2 b (Nat.ne_of_lt (Nat.lt_of_lt_of_le (Heap.lt_size e) I.ok.above))).trans (I.base.keep b o e n hb hx)
  ·obtain⟨sl,e1⟩:=I.base.slot b o e n hb hx
   exact⟨sl,(hs.2 b (Nat.ne_of_lt (Nat.lt_of_lt_of_le (Heap.lt_size e) I.ok.above))).trans e1⟩
  ·obtain⟨o',e1⟩:=I.base.there b o e hx
   exact⟨o',(hs.2 b (Nat.ne_of_lt (Nat.lt_of_lt_of_le (Heap.lt_size e) I.ok.above))).trans e1⟩
  ·by_cases hj:j=i
   ·subst hj
    rw[hi] at e1;cases e1
    rw[List.getElem?_set_self hiσ] at e2
    cases e2
    exact⟨u,r,.inl ⟨hk,by simp⟩⟩
   ·rw [List.getElem?_set_ne (Ne.symm hj)] at e2
    obtain⟨u',r',q⟩:=hl j y v' e1 e2 e3
    refine⟨u',r',?_⟩
    rcases q with ⟨k,e⟩|⟨k,c,e,z⟩
    ·refine .inl ⟨k,?_⟩
     have:y≠x:=λe=>hj (AG hN e1 (e▸hi))
     simp[this,e]
    ·exact .inr ⟨k,c,e,z.sameBut hs (cne y c e)⟩
  ·obtain⟨w',z⟩:=I.cell y c e
   exact⟨w',z.sameBut hs (cne y c e)⟩
  ·obtain⟨e,n,ne,nf,d⟩:=I.pin p hp
   exact⟨(hs.2 p.1 ne).trans e,n,ne,nf,d⟩
 ·have hfn:X.fn x=true:=by
   rcases hf with z|z
   ·exact z
   ·rw[z] at hk;cases hk
  obtain⟨c,hc⟩:=I.ok.has x (.inl hk)
  obtain⟨w',z⟩:=I.cell x c hc
  refine wpAny_storeName_cell I.ok.kind hk hc z (λh' hc' hs=>?_)
  obtain⟨oc,hoc,hocd⟩:=id z
  refine h {s with heap:=h'} ⟨I.ok,I.os,I.bare,⟨λb o e n hb hx=>?_,λb o e n hb hx=>?_,I.base.free,λb o e hx=>?_,I.base.tups,I.base.frzs,I.base.tbls⟩,⟨m,hn.sameBut hs (Ne.symm (cne x c hc)),λj y v' e1 e2 e3=>?_⟩,λy c' e=>?_,I.free,I.freeC,λp hp=>?_,tracked ⟨oc,hoc,I.freeC x c hc⟩ hs,by simpa using I.len⟩ ⟨c,hs,.inr hc⟩
  ·exact (hs.2 b (Nat.ne_of_lt (Nat.lt_of_lt_of_le (Heap.lt_size e) (I.ok.cab x c hfn hc)))).trans (I.base.keep b o e n hb hx)
  ·obtain⟨sl,e1⟩:=I.base.slot b o e n hb hx
   exact⟨sl,(hs.2 b (Nat.ne_of_lt (Nat.lt_of_lt_of_le (Heap.lt_size e) (I.ok.cab x c hfn hc)))).trans e1⟩
  ·obtain⟨o',e1⟩:=I.base.there b o e hx
   exact⟨o',(hs.2 b (Nat.ne_of_lt (Nat.lt_of_lt_of_le (Heap.lt_size e) (I.ok.cab x c hfn hc)))).trans e1⟩
  ·by_cases hj:j=i
   ·subst hj
    rw[hi] at e1;cases e1
    rw[List.getElem?_set_self hiσ] at e2
    cases e2
    exact⟨u,r,.inr ⟨.inl hk,c,hc,hc'⟩⟩
   ·rw [List.getElem?_set_ne (Ne.symm hj)] at e2
    obtain⟨u',r',q⟩:=hl j y v' e1 e2 e3
    refine⟨u',r',?_⟩
    rcases q with q|⟨k,c',e,z'⟩
    ·exact .inl q
    ·refine .inr ⟨k,c',e,z'.sameBut hs ?_⟩
     rintro rfl
     exact hj (AG hN e1 (I.ok.inj _ _ _ e hc▸hi))
  ·by_cases hcc:c'=c
   ·subst hcc;exact⟨_,hc'⟩
   ·obtain⟨w2,z2⟩:=I.cell y c' e
    exact⟨w2,z2.sameBut hs hcc⟩
  ·obtain⟨e,n,ne,nf,d⟩:=I.pin p hp
   refine⟨(hs.2 p.1 ?_).trans e,n,ne,nf,d⟩
   intro q
   rw[q,hoc] at e
   have q':oc=p.2:=Option.some.inj e
   exact d w' (by rw[<- q'];exact hocd)
theorem oG {M:Model} {A:Around} {E:Value->Shared->Prop} {i:Nat} {x:Str} {v:V} {u:Value} {Q:Unit->Shared->Prop} (I:Inv X pins σ H s) (hN:X.N.Nodup) (hi:X.N[i]? =some x) (hx:FV X.env.scope x) (r:bA v u)
  (h:∀s',Inv X pins (σ.set i (some v)) H s'->Q () s') (hf:X.fn x=true\/X.env.scope.names.lookup x=some .local:=by first|exact .inl rfl|exact .inr rfl|assumption):wpAny M A (storeName X.env x u) Q E s:=
 IC I hN hi hx r (λs' I' _=>h s' I') hf
theorem Inv.call' {s':Shared} {ch:List Addr} (I:Inv X pins σ H s) (ho:s'.os=s.os) (u:Un (KJ X.stack) ch H H' s.heap s'.heap) (hok:lL X.prog X.w H' s'.heap) (hg:AllBare s'.gens/\GX s.gens s'.gens)
  (hch:∀b∈ch,(b∈X.ex\/X.s₀.heap.objs.size<=b)/\b≠X.env.locals/\(∀x c,X.env.cells.lookup x=some c->c≠b)/\∀p∈X.pn++pins,p.1≠b):Inv X pins σ H' s':=by
 obtain⟨h',g',d',t',o'⟩:=s'
 have e:o'=s.os:=ho
 subst e
 exact I.call (g':=g') (t':=t') (d':=d') u hok hg hch
end
abbrev XK:=Value->Option Ac->Hp->Prop
abbrev St:=List (Option V)
abbrev VK:=V->Hp->Prop
abbrev TE:=St->Hp->VK->Prop
abbrev TT:=St->Hp->(Bool->Hp->Prop)->Prop
abbrev TA:=St->Hp->(List V->Hp->Prop)->Prop
structure Ends where
 nx:St->Hp->Prop
 rt:VK
 bk:St->Hp->Prop:=λ_ _=>False
 ct:St->Hp->Prop:=λ_ _=>False
abbrev TS:=Ends->St->Hp->Prop
def EP(X:Cx)(pins:List (Ac×Obj))(σ:St)(Q:VK)(u:Value)(s':Ab):Prop:=∃v H',Inv X pins σ H' s'/\bA v u/\Q v H'
def TP(X:Cx)(pins:List (Ac×Obj))(σ:St)(Q:Bool->Hp->Prop)(b:Bool)(s':Ab):Prop:=∃H',Inv X pins σ H' s'/\Q b H'
def AP(X:Cx)(pins:List (Ac×Obj))(σ:St)(Q:List V->Hp->Prop)(us:List Value)(s':Ab):Prop:=∃vs H',Inv X pins σ H' s'/\aV vs us/\Q vs H'
def SP(X:Cx)(pins:List (Addr×Obj))(D:Ends)(f:Flow)(s':Shared):Prop:=
 match f with
 |.next=>∃σ' H',Inv X pins σ' H' s'/\D.nx σ' H'
 |.brk=>∃σ' H',Inv X pins σ' H' s'/\D.bk σ' H'
 |.cont=>∃σ' H',Inv X pins σ' H' s'/\D.ct σ' H'
 |.ret u=>∃v σ' H',Inv X pins σ' H' s'/\bA v u/\D.rt v H'
def PE(X:Cx)(e:Expr)(t:TE):Prop:=
 ∀(pins:List (Ac×Obj)) (s:Ab) (σ:St) (H:Hp) (Q:VK),Inv X pins σ H s->t σ H Q->wpAny (model X.prog X.w) X.A (eval e X.env) (EP X pins σ Q) X.xe s
def PT(X:Cx)(e:Expr)(t:TT):Prop:=
 ∀(pins:List (Ac×Obj)) (s:Ab) (σ:St) (H:Hp) (Q:Bool->Hp->Prop),Inv X pins σ H s->t σ H Q->wpAny (model X.prog X.w) X.A (isTrue e X.env (eval e X.env)) (TP X pins σ Q) X.xe s
def PW(X:Cx)(e:Expr)(t:TT):Prop:=
 ∀(whole:Sem Value) (pins:List (Ac×Obj)) (s:Ab) (σ:St) (H:Hp) (Q:Bool->Hp->Prop),Inv X pins σ H s->t σ H Q->wpAny (model X.prog X.w) X.A (isTrue e X.env whole) (TP X pins σ Q) X.xe s
theorem PW.pt{X:Cx}{e:Expr}{t:TT}(h:PW X e t):PT X e t:=h _
def PA(X:Cx)(es:List Expr)(t:TA):Prop:=
 ∀(pos:Pos) (pins:List (Ac×Obj)) (s:Ab) (σ:St) (H:Hp) (Q:List V->Hp->Prop),Inv X pins σ H s->t σ H Q->wpAny (model X.prog X.w) X.A (spliced (backTo pos (starEach es X.env))) (AP X pins σ Q) X.xe s
def PS(X:Cx)(st:Stmt)(t:TS):Prop:=
 ∀(pins:List (Ac×Obj)) (s:Ab) (σ:St) (H:Hp) (D:Ends),Inv X pins σ H s->t D σ H->wpAny (model X.prog X.w) X.A (exec st X.env) (SP X pins D) X.xe s
def uX(X:Cx)(st:List Stmt)(t:TS):Prop:=
 ∀(pins:List (Ac×Obj)) (s:Ab) (σ:St) (H:Hp) (D:Ends),Inv X pins σ H s->t D σ H->wpAny (model X.prog X.w) X.A (execs st X.env) (SP X pins D) X.xe s
theorem cH{α:Type}{t:Sem α}{Q Q':α->Ab->Prop}{M:Model}{A:Around}{E:Value->Ab->Prop}{s:Ab}(h:wpAny M A t Q E s)(hQ:∀a s,Q a s->Q' a s):wpAny M A t Q' E s:=wpAny_mono h hQ λ_ _ x=>x
section
variable{X:Cx}
def eH(i:Nat):TE:=λσ H Q=>∃v,σ[i]? =some (some v)/\Q v H
def tC(v:V):TE:=λ_ H Q=>Q v H
theorem X7 {i:Nat} {x:Str} {pos:Pos} (hN:X.N[i]? =some x) (hv:a29 X.env.scope x) (hd:(x==("__debug__" : Str))=false:=by decide) (hcd:(x==("__classdict__" : Str))=false:=by decide):PE X (.Name x pos) (eH i):=by
 intro pins s σ H Q I h
 obtain⟨v,e,h⟩:=h
 obtain⟨m,hn,hl⟩:=I.loc
 obtain⟨u,r,l⟩:=hl i x v hN e hv
 have fin:EP X pins σ Q u s:=⟨v,H,I,r,h⟩
 rcases l with ⟨hk,hm⟩|⟨hk,c,hc,hcell⟩
 ·exact wpAny_Name (wpAny_loadName_local I.ok.kind hk hn hm fin) hd
 ·rcases hk with hk|hk
  ·exact wpAny_Name (wpAny_loadName_cell I.ok.kind hk hc hcell fin) hd
  ·exact wpAny_Name (wpAny_loadName_free I.ok.kind hk hc hcell fin hcd) hd
theorem WZ{i j pos}:PE X (.Constant (.int i) j pos) (tC (.int i)):=λ_ _ _ H _ I h=>wpAny_Constant_int ⟨.int i,H,I.tok _,⟨_,rfl⟩,h⟩
theorem a0I{b j pos}:PE X (.Constant (.bool b) j pos) (tC (.bl b)):=λ_ _ _ H _ I h=>Constant_bool ⟨.bl b,H,I,rfl,h⟩
theorem X0{j pos}:PE X (.Constant .none j pos) (tC .non):=λ_ _ _ H _ I h=>Constant_none ⟨.non,H,I,rfl,h⟩
theorem X5{x j pos}:PE X (.Constant (.str x) j pos) (tC (.str x)):=λ_ _ _ H _ I h=>Calls.Constant_str ⟨.str x,H,I.tok _,⟨_,rfl⟩,h⟩
def Gl(X:Cx)(x:Str):Prop:=X.env.kindOf x=some .globalImplicit
theorem QB {E:Value->Shared->Prop} {pins:List (Addr×Obj)} {s:Shared} {σ:St} {H:Hp} {x:Str} {u:Value} {pos:Pos} {Q:Value->Shared->Prop} (I:Inv X pins σ H s) (hg:Gl X x) (hm:X.mg x=some u) (h:Q u s)
  (hd:(x==("__debug__" : Str))=false:=by decide):wpAny (model X.prog X.w) X.A (eval (.Name x pos) X.env) Q E s:=
 Calls.Name_function_global I.ok.kind hg (Calls.loadGlobal_global (by rw[I.ok.glob];exact I.mod.glob.keeps I.bk) hm h) hd
theorem mE {E:Value->Shared->Prop} {pins:List (Addr×Obj)} {s:Shared} {σ:St} {H:Hp} {x:Str} {u:Value} {pos:Pos} {Q:Value->Shared->Prop} (I:Inv X pins σ H s) (hg:Gl X x) (hm:X.mg x=none) (hv:bootBuiltins x=some u) (h:Q u s)
  (hn:x≠ "__name__":=by decide) (hd:(x==("__debug__" : Str))=false:=by decide):wpAny (model X.prog X.w) X.A (eval (.Name x pos) X.env) Q E s:=by
 obtain⟨mb,h1,h2⟩:=I.mod.blt
 exact Calls.Name_function_global I.ok.kind hg (Calls.loadGlobal_builtin (by rw[I.ok.glob];exact I.mod.glob.keeps I.bk) hm (by rw[I.ok.blt];exact h1.keeps I.bk) ((h2 x hn).trans hv) h) hd
theorem QZ{x:Str}{v:V}{u:Value}{pos:Pos}(hg:Gl X x)(hm:X.mg x=none)(hv:bootBuiltins x=some u)(r:bA v u)(hn:x≠ "__name__":=by decide)(hd:(x==("__debug__" : Str))=false:=by decide):PE X (.Name x pos) (tC v):=
 λ_ _ _ H _ I h=>mE I hg hm hv ⟨v,H,I,r,h⟩ hn hd
variable{a b:Expr}{ta tb:TE}{pos:Pos}
def tB(t:TE):TT:=λσ H Q=>t σ H λx H1=>∃c,x= .bl c/\Q c H1
theorem XF{e:Expr}{t:TE}(h:PE X e t)(he:∀whole,isTrue e X.env whole=(do let v <- whole;standAt e.pos;holding [v] (truthy v)):=by intro _;rfl):PT X e (tB t):=by
 intro pins s σ H Q I hw
 refine isTrue_plain (cH (h pins s σ H _ I hw) λv s1 ⟨x,H1,I1,r1,q1⟩=>?_) (he _)
 obtain⟨d,rfl,q⟩:=q1
 cases r1
 exact wpAny_truthy_bool ⟨H1,I1,q⟩
variable{tA tB':TT}{rest:List Expr}
def a36(t u:TT):TT:=λσ H Q=>t σ H λc H1=>if c=true then u σ H1 Q else Q false H1
def a43(t u:TT):TT:=λσ H Q=>t σ H λc H1=>if c=true then Q true H1 else u σ H1 Q
def a3A(t:TT):TT:=λσ H Q=>t σ H λc H1=>Q (!c) H1
theorem RG(ha:PT X a tA):PW X (.BoolOp .And [a] pos) tA:=by
 intro wh pins s σ H Q I h
 refine isTrue_and (cH (ha pins s σ H Q I h) λc s1 e=>?_)
 cases c with
 |true=>exact isTrue_and_nil e
 |false=>exact e
theorem XH(ha:PT X a tA):PW X (.BoolOp .Or [a] pos) tA:=by
 intro wh pins s σ H Q I h
 refine isTrue_or (cH (ha pins s σ H Q I h) λc s1 e=>?_)
 cases c with
 |false=>exact isTrue_or_nil e
 |true=>exact e
theorem XG(ha:PT X a tA)(hb:PW X (.BoolOp .And (b::rest) pos) tB'):PW X (.BoolOp .And (a::b::rest) pos) (a36 tA tB'):=by
 intro wh pins s σ H Q I h
 refine isTrue_and (cH (ha pins s σ H _ I h) λc s1 ⟨H1,I1,q1⟩=>?_)
 cases c with
 |true=>exact hb wh pins s1 σ H1 Q I1 q1
 |false=>exact⟨H1,I1,q1⟩
theorem a0Q(ha:PT X a tA)(hb:PW X (.BoolOp .Or (b::rest) pos) tB'):PW X (.BoolOp .Or (a::b::rest) pos) (a43 tA tB'):=by
 intro wh pins s σ H Q I h
 refine isTrue_or (cH (ha pins s σ H _ I h) λc s1 ⟨H1,I1,q1⟩=>?_)
 cases c with
 |true=>exact⟨H1,I1,q1⟩
 |false=>exact hb wh pins s1 σ H1 Q I1 q1
theorem XE(ha:PT X a tA):PT X (.UnaryOp .Not a pos) (a3A tA):=by
 intro pins s σ H Q I h
 exact isTrue_not (ha pins s σ H (λc H1=>Q (!c) H1) I h)
def a1A(ta tb:TE):TE:=λσ H Q=>ta σ H λx H1=>∃c,x= .bl c/\if c=true then tb σ H1 Q else Q (.bl false) H1
def a1E(ta:TE):TE:=λσ H Q=>ta σ H λx H1=>∃c,x= .bl c/\Q (.bl (!c)) H1
theorem X2{op}{t:TE}(h:PE X a t):PE X (.BoolOp op [a] pos) t:=λpins s σ H Q I hw=>BoolOp_one (h pins s σ H Q I hw)
theorem WX(ha:PE X a ta)(hb:PE X (.BoolOp .And (b::rest) pos) tb):PE X (.BoolOp .And (a::b::rest) pos) (a1A ta tb):=by
 intro pins s σ H Q I h
 refine BoolOp_and (cH (ha pins s σ H _ I h) λv s1 ⟨x,H1,I1,r1,q1⟩=>?_)
 obtain⟨c,rfl,q1⟩:=q1
 cases r1
 refine wpAny_truthy_bool ?_
 cases c with
 |true=>exact hb pins s1 σ H1 Q I1 q1
 |false=>exact⟨.bl false,H1,I1,rfl,q1⟩
theorem X1(ha:PE X a ta):PE X (.UnaryOp .Not a pos) (a1E ta):=by
 intro pins s σ H Q I h
 refine UnaryOp_ (cH (ha pins s σ H _ I h) λv s1 ⟨x,H1,I1,r1,q1⟩=>?_)
 obtain⟨c,rfl,q1⟩:=q1
 cases r1
 exact not_of (wpAny_truthy_bool ⟨.bl (!c),H1,I1,rfl,q1⟩)
end
def cS (K:PySem.W.Frag) (H:Hp) (a:Addr) (xs:List V):Prop:=
 Rd H a (.lst xs)\/
  ∃(o:Obj) (its:Array Value) (n:Nat),K.lookup a=some o/\o.cls= .type "list"/\o.dict=none/\o.data= .seq its n/\its.size<=sizeLine/\aV xs its.toList
def d7 (K:PySem.W.Frag) (H:Hp) (a:Addr) (xs:List V):Prop:=
 Rd H a (.tup xs)\/
  ∃(o:Obj) (its:Array Value) (n:Nat),K.lookup a=some o/\o.cls= .type "tuple"/\o.data= .seq its n/\its.size<=sizeLine/\aV xs its.toList
def a2A:Value->Option V
 |.none=>some .non
 |.bool b=>some (.bl b)
 |.int i _=>some (.int i)
 |.str x _=>some (.str x)
 |.bytes b _=>some (.byt b)
 |.float b _=>some (.flt b)
 |.ref a=>some (.ref a)
 |.type n=>some (.ty n)
 |_=>none
theorem bA.abs{x:V}{u:Value}(r:bA x u):a2A u=some x:=by
 cases x with
 |non=>cases r;rfl
 |bl _=>cases r;rfl
 |int _=>obtain⟨t,rfl⟩:=r;rfl
 |str _=>obtain⟨t,rfl⟩:=r;rfl
 |byt _=>obtain⟨t,rfl⟩:=r;rfl
 |flt _=>obtain⟨t,rfl⟩:=r;rfl
 |ref _=>cases r;rfl
 |ty _=>cases r;rfl
theorem bA.inj{x y:V}{u:Value}(r:bA x u)(q:bA y u):x=y:=Option.some.inj (r.abs.symm.trans q.abs)
theorem aV.inj:∀ {xs ys:List V} {us:List Value},aV xs us->aV ys us->xs=ys
 |_,_,_,.nil,.nil=>rfl
 |_,_,_,.cons r t,.cons r' t'=>by rw[r.inj r',aV.inj t t']
section
variable{X:Cx}{pins:List (Ac×Obj)}{σ:St}{H:Hp}{s:Ab}{a:Ac}{xs ys:List V}
theorem cS.of{K:Aa}(h:H a=some (.lst xs)):cS K H a xs:=.inl (.inl h)
theorem d7.of{K:Aa}(h:H a=some (.tup xs)):d7 K H a xs:=.inl (.inl h)
theorem Inv.list (I:Inv X pins σ H s) (h:cS X.K H a xs):∃its:List Value,aV xs its/\PlainL s.heap a its.toArray/\xs.length<=sizeLine:=by
 rcases h with h|⟨o,its,n,hk,hc,hd,hs,hz,r⟩
 ·obtain⟨z,its,n,r,e⟩:=h.ok I.hok
  exact⟨its,r,⟨_,n,e,rfl,rfl,rfl⟩,z⟩
 ·refine⟨its.toList,r,⟨o,n,I.kIn a o hk,hc,hd,by simpa using hs⟩,?_⟩
  have e:=r.length
  simp only[Array.length_toList] at e
  omega
theorem Inv.tuple (I:Inv X pins σ H s) (h:d7 X.K H a xs):∃its:List Value,aV xs its/\IsTup s.heap a its.toArray/\xs.length<=sizeLine:=by
 rcases h with h|⟨o,its,n,hk,hc,hs,hz,r⟩
 ·obtain⟨z,its,r,p⟩:=h.ok I.hok
  exact⟨its,r,p,z⟩
 ·refine⟨its.toList,r,⟨o,I.kIn a o hk,hc,n,by simpa using hs⟩,?_⟩
  have e:=r.length
  simp only[Array.length_toList] at e
  omega
theorem Inv.list_inj(I:Inv X pins σ H s)(h:cS X.K H a xs)(h':cS X.K H a ys):xs=ys:=by
 obtain⟨its,r,⟨o,n,e,_,_,d⟩,_⟩:=I.list h
 obtain⟨its',r',⟨o',n',e',_,_,d'⟩,_⟩:=I.list h'
 rw[e] at e';cases e'
 rw[d] at d'
 injection d' with d1 _
 have:its=its':=by simpa using congrArg Array.toList d1
 subst this
 exact r.inj r'
theorem Inv.tuple_inj(I:Inv X pins σ H s)(h:d7 X.K H a xs)(h':d7 X.K H a ys):xs=ys:=by
 obtain⟨its,r,⟨o,e,_,n,d⟩,_⟩:=I.tuple h
 obtain⟨its',r',⟨o',e',_,n',d'⟩,_⟩:=I.tuple h'
 rw[e] at e';cases e'
 rw[d] at d'
 injection d' with d1 _
 have:its=its':=by simpa using congrArg Array.toList d1
 subst this
 exact r.inj r'
end
abbrev Cx.wish(X:Cx)(E:Value->Ab->Prop):Cx:={X with xe:=E}
abbrev Cx.nox(X:Cx):Cx:=X.wish λ_ _=>False
theorem Cx.Ok.wish{X:Cx}(ok:X.Ok)(E:Value->Shared->Prop):(X.wish E).Ok:=
 ⟨ok.mod,ok.kind,ok.glob,ok.blt,ok.above,ok.inj,ok.has,ok.cab,ok.hd,ok.frames,ok.stk,ok.exf,ok.bs,ok.bsz,ok.noex,ok.exfs,ok.funs,ok.frf,ok.tb⟩
theorem Cx.Ok.unwish{X:Cx}{E:Value->Shared->Prop}(ok:(X.wish E).Ok):X.Ok:=
 ⟨ok.mod,ok.kind,ok.glob,ok.blt,ok.above,ok.inj,ok.has,ok.cab,ok.hd,ok.frames,ok.stk,ok.exf,ok.bs,ok.bsz,ok.noex,ok.exfs,ok.funs,ok.frf,ok.tb⟩
section
variable{X:Cx}{pins:List (Ac×Obj)}{σ:St}{H:Hp}{s:Ab}{E:Value->Ab->Prop}
theorem Inv.wish(I:Inv X pins σ H s)(E:Value->Ab->Prop):Inv (X.wish E) pins σ H s:=⟨I.ok.wish E,I.os,I.bare,I.base,I.loc,I.cell,I.free,I.freeC,I.pin,I.hok,I.len⟩
theorem Inv.unwish(I:Inv (X.wish E) pins σ H s):Inv X pins σ H s:=⟨I.ok.unwish,I.os,I.bare,I.base,I.loc,I.cell,I.free,I.freeC,I.pin,I.hok,I.len⟩
theorem SP.unwish{D:Ends}{f:Flow}{s':Shared}(h:SP (X.wish E) pins D f s'):SP X pins D f s':=by
 cases f with
 |next=>obtain⟨σ',H',I,q⟩:=h;exact⟨σ',H',I.unwish,q⟩
 |brk=>obtain⟨σ',H',I,q⟩:=h;exact⟨σ',H',I.unwish,q⟩
 |cont=>obtain⟨σ',H',I,q⟩:=h;exact⟨σ',H',I.unwish,q⟩
 |ret u=>obtain⟨v,σ',H',I,r,q⟩:=h;exact⟨v,σ',H',I.unwish,r,q⟩
theorem uX.nox{st:List Stmt}{t:TS}(h:uX X.nox st t):uX X st t:=λpins s σ H D I hw=>
 wpAny_mono (h pins s σ H D (I.wish _) hw) (λ_ _ q=>q.unwish) λ_ _ z=>False.elim z
end
section
variable{X:Cx}{st:Stmt}{rest:List Stmt}{t u:TS}{e:Expr}{te:TE}{pos:Pos}
def FL:TS:=λD σ H=>D.nx σ H
def SC(t u:TS):TS:=λD σ H=>t {D with nx:=u D} σ H
theorem F4:uX X [] FL:=λ_ _ σ H _ I h=>wpAny_execs_nil ⟨σ,H,I,h⟩
theorem B2 (h1:PS X st t) (h2:uX X rest u):uX X (st::rest) (SC t u):=by
 intro pins s σ H D I h
 refine wpAny_execs_cons (cH (h1 pins s σ H {D with nx:=u D} I h) λf s1 q=>?_)
 cases f with
 | next=>
  obtain⟨σ',H',I',q⟩:=q
  exact h2 pins s1 σ' H' D I' q
 |ret v=>exact q
 |brk=>exact q
 |cont=>exact q
theorem F5(h1:PS X st t):uX X [st] t:=by
 intro pins s σ H D I h
 refine wpAny_execs_cons (cH (h1 pins s σ H D I h) λf s1 q=>?_)
 cases f with
 |next=>exact wpAny_execs_nil q
 |ret v=>exact q
 |brk=>exact q
 |cont=>exact q
theorem Inv.quiet{pins:List (Ac×Obj)}{σ:St}{H:Hp}{s:Ab}(I:Inv X pins σ H s):interactive X.env=false:=by simp[interactive,I.ok.kind]
def a1D(te:TE):TS:=λD σ H=>te σ H λ_ H1=>D.nx σ H1
theorem F3(he:PE X e te)(hs:swapsWith e none pos.line X.env=pure false:=by rfl):PS X (.Expr e pos) (a1D te):=by
 intro pins s σ H D I h
 exact wpAny_Expr_any (cH (he pins s σ H _ I h) λv s1 ⟨x,H1,I1,r1,q1⟩=>⟨σ,H1,I1,q1⟩) I.quiet hs
def SA(te:TE):TS:=λD σ H=>te σ H D.rt
theorem DF(he:PE X e te):PS X (.Return (some e) pos) (SA te):=by
 intro pins s σ H D I h
 exact wpAny_Return_some (cH (he pins s σ H _ I h) λv s1 ⟨x,H1,I1,r1,q1⟩=>⟨x,σ,H1,I1,r1,q1⟩)
def S5(c:TT)(t u:TS):TS:=λD σ H=>c σ H λb H1=>if b=true then t D σ H1 else u D σ H1
theorem TC{c:Expr}{a b:List Stmt}{tc:TT}(hc:PT X c tc)(ha:uX X a t)(hb:uX X b u):PS X (.If c a b pos) (S5 tc t u):=by
 intro pins s σ H D I h
 refine wpAny_If (cH (hc pins s σ H _ I h) λd s1 ⟨H1,I1,q1⟩=>?_)
 cases d with
 |true=>exact ha pins s1 σ H1 D I1 q1
 |false=>exact hb pins s1 σ H1 D I1 q1
end
abbrev TG:=V->St->Hp->(St->Hp->Prop)->Prop
abbrev O6:=List V->St->Hp->(St->Hp->Prop)->Prop
def PG (X:Cx) (target:Expr) (t:TG):Prop:=
 ∀ (pins:List (Addr×Obj)) (s:Shared) (σ:St) (H:Hp) (v:V) (u:Value) (Q:St->Hp->Prop),Inv X pins σ H s->bA v u->t v σ H Q->
  wpAny (model X.prog X.w) X.A (assign target X.env u) (λ_ s'=>∃σ' H',Inv X pins σ' H' s'/\Q σ' H') X.xe s
def SR (X:Cx) (ts:List Expr) (t:O6):Prop:=
 ∀ (pins:List (Addr×Obj)) (s:Shared) (σ:St) (H:Hp) (vs:List V) (us:List Value) (Q:St->Hp->Prop),Inv X pins σ H s->aV vs us->t vs σ H Q->
  wpAny (model X.prog X.w) X.A (assignInOrder ((assignEach ts X.env).map (·.2)) us) (λ_ s'=>∃σ' H',Inv X pins σ' H' s'/\Q σ' H') X.xe s
abbrev C6:=V->V->V->Hp->(Hp->Prop)->Prop
def TY (X:Cx) (t:C6):Prop:=
 ∀ (pins:List (Addr×Obj)) (s:Shared) (σ:St) (H:Hp) (o i v:V) (ov iv u:Value) (Q:Hp->Prop),Inv X pins σ H s->bA o ov->bA i iv->bA v u->t o i v H Q->
  wpAny (model X.prog X.w) X.A (setItem ov iv u) (λ_ s'=>∃H',Inv X pins σ H' s'/\Q H') X.xe s
section
variable{X:Cx}{pos:Pos}
def jV(i:Nat):TG:=λv σ H Q=>Q (σ.set i (some v)) H
theorem qV{i:Nat}{x:Str}(hN:X.N.Nodup)(hi:X.N[i]? =some x)(hx:FV X.env.scope x)(hf:X.fn x=true\/X.env.scope.names.lookup x=some .local:=by first|exact .inl rfl|exact .inr rfl|assumption):PG X (.Name x pos) (jV i):=by
 intro pins s σ H v u Q I r h
 exact wpAny_assign_Name (oG I hN hi hx r (λs' I'=>⟨_,H,I',h⟩) hf)
def a2J:O6:=λvs σ H Q=>vs=[]/\Q σ H
def ZZ(t:TG)(u:O6):O6:=λvs σ H Q=>∃v r,vs=v::r/\t v σ H λσ' H'=>u r σ' H' Q
theorem F0:SR X [] a2J:=by
 intro pins s σ H vs us Q I r h
 obtain⟨e,h⟩:=h
 subst e
 cases r
 exact assignInOrder_nil ⟨σ,H,I,h⟩
theorem sX {e:Expr} {es:List Expr} {t:TG} {u:O6} (h1:PG X e t) (h2:SR X es u)
  (hs:(assignEach (e::es) X.env).map (·.2)=assign e X.env::(assignEach es X.env).map (·.2):=by rfl):SR X (e::es) (ZZ t u):=by
 intro pins s σ H vs us Q I r h
 obtain⟨v,vr,e1,h⟩:=h
 subst e1
 cases r with
 | cons r rr=>
  rw[hs]
  refine assignInOrder_cons (cH (h1 pins s σ H _ _ _ I r h) λ_ s1 ⟨σ1,H1,I1,q1⟩=>?_)
  exact h2 pins s1 σ1 H1 _ _ Q I1 rr q1
def a2K(K:Aa)(n:Nat)(t:O6):TG:=λv σ H Q=>∃a xs,v= .ref a/\d7 K H a xs/\xs.length=n/\t xs σ H Q
theorem M5 {es:List Expr} {k:Nat} {t:O6} {n:Nat} (hc:X.calm=true) (h:SR X es t)
  (hn:(assignEach es X.env).length=n:=by rfl) (hst:(assignEach es X.env).findIdx? (·.1)=none:=by rfl):PG X (.Tuple es k pos) (a2K X.K n t):=by
 intro pins s σ H v u Q I r hw
 obtain⟨a,xs,e1,hq,hl,hw⟩:=hw
 subst e1
 cases r
 obtain⟨its,rv,ht,hz⟩:=I.tuple hq
 refine assign_Tuple_tuple (I.ok.hd hc) ht (by simp[hn,<- hl,rv.length]) hst λh' hx=>?_
 have I1:Inv X pins σ H {s with heap:=h'}:=I.kept (t':=s.toks) λb o e=>hx b o (Nat.ne_of_lt (Heap.lt_size e)) e
 exact h pins _ σ H xs _ Q I1 (by simpa using rv) hw
def KM(to ti:TE)(t:C6):TG:=λv σ H Q=>to σ H λo H1=>ti σ H1 λi H2=>t o i v H2 λH3=>Q σ H3
theorem yD {o i:Expr} {to ti:TE} {t:C6} (ho:PE X o to) (hi:PE X i ti) (hs:TY X t)
  (ha:∀v,assign (.Subscript o i pos) X.env v=(do
   let ov <- holding [v] (eval o X.env)
   let iv <- holding [v,ov] (eval i X.env)
   standAt pos
   holding [v,ov,iv] (setItem ov iv v)
   release [v,ov,iv] []):=by intro _;rfl):PG X (.Subscript o i pos) (KM to ti t):=by
 intro pins s σ H v u Q I r h
 rw[ha]
 refine a0b (wpAny_holding (cH (ho pins s σ H _ I h) λov s1 ⟨x,H1,I1,r1,q1⟩=>?_))
 refine a0b (wpAny_holding (cH (hi pins s1 σ H1 _ I1 q1) λiv s2 ⟨y,H2,I2,r2,q2⟩=>?_))
 refine a0b (wpAny_standAt (a0b (wpAny_holding (cH (hs pins s2 σ H2 x y v ov iv u _ I2 r1 r2 r q2) λ_ s3 ⟨H3,I3,q3⟩=>?_))))
 exact wpAny_release ⟨σ,H3,I3,q3⟩
def BJ(te:TE)(g:TG):TS:=λD σ H=>te σ H λx H1=>g x σ H1 D.nx
theorem yF {tg e:Expr} {te:TE} {g:TG} (he:PE X e te) (hg:PG X tg g) (hs:swapsWithSole [tg] e pos.line X.env=pure false:=by rfl) (hw:swappedStores [tg] e X.env=pure none:=by rfl)
  (h1:(assignEach [tg] X.env).map (·.2)=[assign tg X.env]:=by rfl):PS X (.Assign [tg] e pos) (BJ te g):=by
 intro pins s σ H D I h
 refine wpAny_Assign_stores (cH (he pins s σ H _ I h) λv s1 ⟨x,H1,I1,r1,q1⟩=>?_) hs hw
 rw[h1]
 exact cH (hg pins s1 σ H1 x v _ I1 r1 q1) λ_ s2 q=>q
theorem MB {i:Nat} {x:Str} {e:Expr} {te:TE} {pos':Pos} (hN:X.N.Nodup) (hi:X.N[i]? =some x) (hx:FV X.env.scope x) (he:PE X e te) (hs:swapsWith e (some (.Name x pos')) pos.line X.env=pure false:=by rfl) (hf:X.fn x=true\/X.env.scope.names.lookup x=some .local:=by first|exact .inl rfl|exact .inr rfl|assumption) :
  PS X (.Assign [.Name x pos'] e pos) (BJ te (jV i)):=by
 intro pins s σ H D I h
 refine wpAny_Assign_Name (cH (he pins s σ H _ I h) λv s1 ⟨y,H1,I1,r1,q1⟩=>?_) hs
 exact oG I1 hN hi hx r1 (λs2 I2=>⟨_,H1,I2,q1⟩) hf
def a3C(i j:Nat)(ta:TA):TS:=λD σ H=>ta σ H λvs H1=>∃v w,vs=[v,w]/\D.nx ((σ.set i (some v)).set j (some w)) H1
theorem XD {i j:Nat} {x y:Str} {a b:Expr} {ta:TA} {px py pt:Pos} {kt k2 pt2} (hc:X.calm=true) (hN:X.N.Nodup) (hi:X.N[i]? =some x) (hj:X.N[j]? =some y) (hij:i≠j)
  (hx:X.env.scope.names.lookup x=some .local) (hy:X.env.scope.names.lookup y=some .local) (ha:PA X [a,b] ta)
  (hw:swappedStores [.Tuple [.Name x px,.Name y py] kt pt] (.Tuple [a,b] k2 pt2) X.env=pure (some [x,y]))
  (hs:swapsWithSole [.Tuple [.Name x px,.Name y py] kt pt] (.Tuple [a,b] k2 pt2) pos.line X.env=pure false:=by rfl) :
  PS X (.Assign [.Tuple [.Name x px,.Name y py] kt pt] (.Tuple [a,b] k2 pt2) pos) (a3C i j ta):=by
 intro pins s σ H D I h
 rw[exec_Assign_arm]
 refine a0b (wpAny_standAt ?_)
 rw[hs]
 refine a0b (a0d ?_)
 rw[if_neg (by decide)]
 refine a0b (Tuple_ (cH (ha _ pins s σ H _ I h) λus s1 ⟨vs,H1,I1,r1,q1⟩=>?_))
 obtain⟨v,w,e1,q1⟩:=q1
 subst e1
 obtain ⟨u1,u2,rfl,rv,rw'⟩ : ∃u1 u2,us=[u1,u2]/\bA v u1/\bA w u2:=by
  cases r1 with
  | cons p q=>
   cases q with
   | cons p' q'=>
    cases q'
    exact⟨_,_,rfl,p,p'⟩
 refine wpAny_newObj_type ?_ (by show 2<=sizeLine;decide)
 have I2:Inv X pins σ H1 {s1 with heap:=s1.heap.push {cls:=.type "tuple",data:=.seq [u1,u2].toArray} }:=I1.kept (t':=s1.toks) λb o e=>a0e _ e
 rw[hw]
 refine a0b (a0d ?_)
 show wpAny (model X.prog X.w) X.A (do rule "assign.swapped-stores";let items <- unpackItems (.ref s1.heap.objs.size) 2 none;assignInOrder [λv=>bindName X.env y v,λv=>bindName X.env x v] items.reverse;pure Flow.next) _ _ _
 refine a0b (wpAny_rule (a0b (unpackItems_tuple (items:=#[u1,u2]) (I.ok.hd hc) (IsTup.new s1.heap _) λh' hx'=>?_)))
 have I3:=I2.kept (h':=h') (t':=s1.toks) λb o e=>hx' b o (Nat.ne_of_lt (Heap.lt_size e)) e
 show wpAny _ _ (assignInOrder [λv=>bindName X.env y v,λv=>bindName X.env x v] [u2,u1] >>=λ_=>pure Flow.next) _ _ _
 refine a0b (assignInOrder_cons (wpAny_bindName (oG I3 hN hj (.inl hy) rw' (λs2 I4=>?_) (.inr hy))))
 refine assignInOrder_cons (wpAny_bindName (oG I4 hN hi (.inl hx) rv (λs3 I5=>assignInOrder_nil (a0d ?_)) (.inr hx)))
 rw[List.set_comm _ _ (Ne.symm hij)] at I5
 exact⟨_,H1,I5,q1⟩
end
section
variable{X:Cx}{pos:Pos}
def YH(c:TT)(tb:TS):TS:=λD σ H=>∃W:Nat->St->Hp->Prop,(∃m,W m σ H)/\∀m σ H,W m σ H->
 c σ H λb H1=>if b=true then ∃N:St->Hp->Prop,(∀σ' H',N σ' H'->∃m',m'<m/\W m' σ' H')/\tb {D with nx:=N,ct:=N,bk:=D.nx} σ H1 else D.nx σ H1
theorem MC {c:Expr} {body:List Stmt} {tc:TT} {tb:TS} (hp:PassesOwn (model X.prog X.w) X.A X.env X.xe) (hc:PT X c tc) (hb:uX X body tb):PS X (.While c body [] pos) (YH tc tb):=by
 intro pins s σ H D I h
 obtain⟨W,⟨m0,w0⟩,turn⟩:=h
 refine wpAny_While (codeAny_whileLoop (λn s'=>∃σ' H',Inv X pins σ' H' s'/\W n σ' H') ?_ m0 ⟨σ,H,I,w0⟩)
 rintro n s1 ⟨σ1,H1,I1,w1⟩
 refine wpAny_passesOwn hp (cH (hc pins s1 σ1 H1 _ I1 (turn n σ1 H1 w1)) λb s2 ⟨H2,I2,q2⟩=>?_)
 cases b with
 | true=>
  obtain⟨N,hN,q2⟩:=q2
  rw[if_pos rfl]
  refine wpAny_passesOwn hp (cH (hb pins s2 σ1 H2 _ I2 q2) λf s3 q3=>?_)
  cases f with
  | next=>
   obtain⟨σ3,H3,I3,n3⟩:=q3
   obtain⟨m',hm,w3⟩:=hN σ3 H3 n3
   exact⟨m',hm,σ3,H3,I3,w3⟩
  | cont=>
   obtain⟨σ3,H3,I3,n3⟩:=q3
   obtain⟨m',hm,w3⟩:=hN σ3 H3 n3
   exact⟨m',hm,σ3,H3,I3,w3⟩
  |brk=>exact q3
  |ret v=>exact q3
 | false=>
  rw[if_neg Bool.false_ne_true]
  exact wpAny_execs_nil ⟨σ1,H2,I2,q2⟩
end
structure It where
 go:Nat->Hp->Prop
 yld:Nat->Hp->V->Hp->Prop
 stop:Nat->Hp->Prop
def iH(X:Cx)(pins:List (Addr×Obj))(H:Hp)(b:Addr):Prop:=
 H b=none/\b≠X.env.locals/\b∉X.fs/\(b∈X.ex\/X.s₀.heap.objs.size<=b)/\(∀x c,X.env.cells.lookup x=some c->c≠b)/\∀p∈X.pn++pins,p.1≠b
theorem Inv.fpOk {X:Cx} {pins:List (Addr×Obj)} {σ:St} {H H':Hp} {s:Shared} {b:Addr} (I:Inv X pins σ H s) (hb:s.heap.objs.size<=b) (hn:H' b=none):iH X pins H' b:=by
 refine⟨hn,Nat.ne_of_gt (Nat.lt_of_lt_of_le I.lt hb),I.nofs hb,.inr (Nat.le_trans I.sz hb),λx c e z=>?_,λp hp z=>?_⟩
 ·obtain⟨v,q⟩:=I.cell x c e
  exact absurd (Nat.lt_of_lt_of_le q.lt (by rw[z];exact hb)) (Nat.lt_irrefl _)
 ·exact absurd (Nat.lt_of_lt_of_le (Heap.lt_size (I.pin p hp).1) (by rw[z];exact hb)) (Nat.lt_irrefl _)
structure Turn (P:Program) (w:World) (K:PySem.W.Frag) (tg:Expr) (J:It) (fp:List Addr) (it:Addr) (tn:Nat->Heap->Prop):Prop where
 mem:it∈fp
 obj:∀i h,tn i h->∀b∈fp,∃o,h.get? b=some o/\∀v,o.data≠ .cell v
 keep:∀i h h',tn i h->(∀b∈fp,∀o,h.get? b=some o->h'.get? b=some o)->tn i h'
 item:∀(X:Cx),X.prog=P->X.w=w->X.K=K->X.calm=true->∀(i:Nat) (pins:List (Addr×Obj)) (s:Shared) (σ:St) (H:Hp) (E:Value->Shared->Prop),Inv X pins σ H s->(∀b∈fp,iH X pins H b)->tn i s.heap->J.go i H->
  wpAny (model P w) X.A (pyNext (.ref it)) (λr s1=>∃u,r=some u/\
   wpAny (model P w) X.A (letOwnedTupleGo tg (.ref it) u) (λ_ s2=>∃x H',Inv X pins σ H' s2/\bA x u/\J.yld i H x H'/\tn (i+1) s2.heap/\∀b∈fp,H' b=none) E s1) E s
 done:∀(X:Cx),X.prog=P->X.w=w->X.K=K->X.calm=true->∀(i:Nat) (pins:List (Addr×Obj)) (s:Shared) (σ:St) (H:Hp) (E:Value->Shared->Prop),Inv X pins σ H s->(∀b∈fp,iH X pins H b)->tn i s.heap->J.stop i H->
  wpAny (model P w) X.A (pyNext (.ref it)) (λr s1=>r=none/\Inv X pins σ H s1) E s
 self:∀(A:Around) (i:Nat) (s:Ab) (Q:Value->Ab->Prop) (E:Value->Ab->Prop),tn i s.heap->Q (.ref it) s->wpAny (model P w) A (pyIter (.ref it)) Q E s
abbrev TI:=St->Hp->(It->Hp->Prop)->Prop
def a3J(X:Cx)(pins:List (Addr×Obj))(σ:St)(tg:Expr)(R:It->Hp->Prop)(itv:Value)(s2:Shared):Prop:=
 ∃(it:Ac) (fp:List Ac) (tn:Nat->Heap->Prop) (J:It) (H':Hp),itv= .ref it/\Inv X pins σ H' s2/\Turn X.prog X.w X.K tg J fp it tn/\tn 0 s2.heap/\(∀b∈fp,iH X pins H' b)/\R J H'
def PI (X:Cx) (tg iter:Expr) (wi:TI):Prop:=
 ∀ (pins:List (Addr×Obj)) (s:Shared) (σ:St) (H:Hp) (R:It->Hp->Prop),Inv X pins σ H s->wi σ H R->
  wpAny (model X.prog X.w) X.A (eval iter X.env) (λv s1=>wpAny (model X.prog X.w) X.A (pyIter v) (a3J X pins σ tg R) X.xe s1) X.xe s
theorem KO {M:Model} {A:Around} {E:Value->Shared->Prop} {s:Shared} {tg:Expr} {it:Addr} {u:Value} {o:Obj} {n:String} {vs:Array Value} {Q:Unit->Shared->Prop} (ho:s.heap.get? it=some o) (hc:o.cls= .type n) (hd:o.data= .fields vs)
    (hn:["enumerate", "zip", "dict_itemiterator", "dict_reverseitemiterator", "odict_iterator", "itertools.zip_longest", "itertools.pairwise"].contains n=false) (hQ:Q () s):wpAny M A (letOwnedTupleGo tg (.ref it) u) Q E s:=by
  unfold letOwnedTupleGo
  cases tg <;>first
    |exact a0d hQ
    | (cases u<;>first
        |exact a0d hQ
        | (refine a0b (wpAny_load ho ?_)
           rw[hc,hd]
           show wpAny M A (if (["enumerate", "zip", "dict_itemiterator", "dict_reverseitemiterator", "odict_iterator", "itertools.zip_longest", "itertools.pairwise"].contains n&&vs[0]? ==some (rawInt _))=true then _ else _) Q E s
           rw[if_neg (by intro h;rw[hn,Bool.false_and] at h;cases h)]
           exact a0d hQ))
def a22(K:PySem.W.Frag)(a:Addr):It:=
 ⟨λi H=>∃xs x,cS K H a xs/\xs[i]? =some x,λi H x H'=>H'=H/\∀xs,cS K H a xs->xs[i]? =some x,λi H=>∃xs,cS K H a xs/\xs.length<=i⟩
def a23(K:PySem.W.Frag)(a:Addr):It:=
 ⟨λi H=>∃xs x,d7 K H a xs/\xs[i]? =some x,λi H x H'=>H'=H/\∀xs,d7 K H a xs->xs[i]? =some x,λi H=>∃xs,d7 K H a xs/\xs.length<=i⟩
def O2(lo:Int)(n:Nat):It:=⟨λi _=>i<n,λi H x H'=>H'=H/\x= .int (lo+i),λi _=>n<=i⟩
theorem IF {P:Program} {w:World} {K:PySem.W.Frag} {tg:Expr} (a it:Addr):Turn P w K tg (a22 K a) [it] it (λi h=>h.IsListIter it a i) where
 mem:=by simp
 obj:=λi h st b hb=>by
  have e:b=it:=by simpa using hb
  subst e
  obtain⟨o,e,c,d⟩:=st
  exact⟨o,e,λv z=>by rw[d] at z;cases z⟩
 keep:=λi h h' st k=>st.at λo e=>k it (by simp) o e
 item:=by
  intro X hP hw hK hc i pins s σ H E I hf st hg
  subst hP hw hK
  obtain⟨xs,x,hq,hx⟩:=hg
  obtain⟨its,rv,p,hz⟩:=I.list hq
  obtain⟨u,hu,ru⟩:=rv.get hx
  obtain⟨f0,f1,f2,f3,f4,f5⟩:=hf it (by simp)
  refine wpAny_pyNext_list_item st p.isList (x:=u) (by simpa using hu) λh' st' sb=>?_
  have I1:Inv X pins σ H {s with heap:=h'}:=I.turned (t':=s.toks) (λb o hb e=>(sb.2 b hb).trans e) f0 f1 f3 f4 f5
  obtain⟨o,e,c,d⟩:=id st'
  exact⟨u,rfl,KO (s:={s with heap:=h'}) e c d (by decide) ⟨x,H,I1,ru,⟨rfl,λys hy=>by rw[I.list_inj hy hq];exact hx⟩,st',λb hb=>(hf b hb).1⟩⟩
 done:=by
  intro X hP hw hK hc i pins s σ H E I hf st hg
  subst hP hw hK
  obtain⟨xs,hq,hx⟩:=hg
  obtain⟨its,rv,p,hz⟩:=I.list hq
  obtain⟨f0,f1,f2,f3,f4,f5⟩:=hf it (by simp)
  have hl:=rv.length
  exact wpAny_pyNext_list_end (I.ok.hd hc) st p.isList (by simp;omega) λh' eb=>⟨rfl,I.turned (t':=s.toks) (λb o hb e=>eb b o hb e) f0 f1 f3 f4 f5⟩
 self:=λ_ _ _ _ _ st h=>wpAny_pyIter_listiter st h
theorem DT {P:Program} {w:World} {K:PySem.W.Frag} {tg:Expr} (a it:Addr):Turn P w K tg (a23 K a) [it] it (λi h=>h.IsTupleIter it a i) where
 mem:=by simp
 obj:=λi h st b hb=>by
  have e:b=it:=by simpa using hb
  subst e
  obtain⟨o,e,c,d⟩:=st
  exact⟨o,e,λv z=>by rw[d] at z;cases z⟩
 keep:=λi h h' st k=>st.at λo e=>k it (by simp) o e
 item:=by
  intro X hP hw hK hc i pins s σ H E I hf st hg
  subst hP hw hK
  obtain⟨xs,x,hq,hx⟩:=hg
  obtain⟨its,rv,p,hz⟩:=I.tuple hq
  obtain⟨u,hu,ru⟩:=rv.get hx
  obtain⟨f0,f1,f2,f3,f4,f5⟩:=hf it (by simp)
  refine wpAny_pyNext_tuple_item st (show s.heap.IsTuple a its.toArray from p) (x:=u) (by simpa using hu) λh' st' sb=>?_
  have I1:Inv X pins σ H {s with heap:=h'}:=I.turned (t':=s.toks) (λb o hb e=>(sb.2 b hb).trans e) f0 f1 f3 f4 f5
  obtain⟨o,e,c,d⟩:=id st'
  exact⟨u,rfl,KO (s:={s with heap:=h'}) e c d (by decide) ⟨x,H,I1,ru,⟨rfl,λys hy=>by rw[I.tuple_inj hy hq];exact hx⟩,st',λb hb=>(hf b hb).1⟩⟩
 done:=by
  intro X hP hw hK hc i pins s σ H E I hf st hg
  subst hP hw hK
  obtain⟨xs,hq,hx⟩:=hg
  obtain⟨its,rv,p,hz⟩:=I.tuple hq
  obtain⟨f0,f1,f2,f3,f4,f5⟩:=hf it (by simp)
  have hl:=rv.length
  exact wpAny_pyNext_tuple_end (I.ok.hd hc) st (show s.heap.IsTuple a its.toArray from p) (by simp;omega) λh' eb=>⟨rfl,I.turned (t':=s.toks) (λb o hb e=>eb b o hb e) f0 f1 f3 f4 f5⟩
 self:=λ_ _ _ _ _ st h=>wpAny_pyIter_tupleiter st h
theorem DS {P:Program} {w:World} {K:PySem.W.Frag} {tg:Expr} (it:Addr) (lo:Int) (n:Nat):Turn P w K tg (O2 lo n) [it] it (λi h=>IsRangeIter h it (lo+(i:Nat)*1) ((n:Int)-(i:Nat)) 1) where
 mem:=by simp
 obj:=λi h st b hb=>by
  have e:b=it:=by simpa using hb
  subst e
  exact ⟨_,st,λv z=>by
   have z':Data.fields _=Data.cell v:=z
   cases z'⟩
 keep:=λi h h' st k=>k it (by simp) _ st
 item:=by
  intro X hP hw hK hc i pins s σ H E I hf st hg
  subst hP hw hK
  obtain⟨f0,f1,f2,f3,f4,f5⟩:=hf it (by simp)
  have W:=Walks.range (prog:=X.prog) (w:=X.w) (I.ok.hd hc) it lo 1 n
  refine W.item i s _ _ hg st λv h' tk hv st' kk=>?_
  obtain⟨t,rfl⟩:=hv
  have I1:Inv X pins σ H {s with heap:=h',toks:=tk}:=I.turned (λb o hb e=>kk b o (by simpa using hb) e) f0 f1 f3 f4 f5
  refine⟨_,rfl,KO (s:={s with heap:=h',toks:=tk}) (n:="range_iterator") st' rfl rfl (by decide) ⟨.int (lo+i),H,I1,⟨t,?_⟩,⟨rfl,rfl⟩,st',λb hb=>(hf b hb).1⟩⟩
  rw[Int.mul_one]
 done:=by
  intro X hP hw hK hc i pins s σ H E I hf st hg
  subst hP hw hK
  obtain⟨f0,f1,f2,f3,f4,f5⟩:=hf it (by simp)
  exact wpAny_pyNext_range_end (I.ok.hd hc) st (by have:n<=i:=hg;omega) λh' eb=>⟨rfl,I.turned (t':=s.toks) (λb o hb e=>eb b o hb e) f0 f1 f3 f4 f5⟩
 self:=λ_ _ _ _ _ st h=>wpAny_pyIter_rangeiter st h
section
variable{X:Cx}{tg:Expr}
def a01(K:Aa)(tl:TE):TI:=λσ H R=>tl σ H λx H1=>∃a,x= .ref a/\(∃xs,cS K H1 a xs)/\R (a22 K a) H1
def a2L(K:Aa)(tl:TE):TI:=λσ H R=>tl σ H λx H1=>∃a,x= .ref a/\(∃xs,d7 K H1 a xs)/\R (a23 K a) H1
theorem F1{l:Expr}{tl:TE}(hl:PE X l tl):PI X tg l (a01 X.K tl):=by
 intro pins s σ H R I h
 refine cH (hl pins s σ H _ I h) λv s1 ⟨x,H1,I1,r1,q1⟩=>?_
 obtain⟨a,e,⟨xs,hq⟩,q⟩:=q1
 subst e
 cases r1
 obtain⟨its,rv,p,hz⟩:=I1.list hq
 refine wpAny_pyIter_list p.isList ?_
 refine⟨s1.heap.objs.size,[s1.heap.objs.size],_,_,H1,rfl,I1.kept (t':=s1.toks) λb o e=>a0e _ e,IF a _,⟨_,Heap.get?_push_size _ rfl,rfl,rfl⟩,λb hb=>?_,q⟩
 have e:b=s1.heap.objs.size:=by simpa using hb
 subst e
 exact I1.fpOk (Nat.le_refl _) (I1.hok.fresh (Nat.le_refl _))
theorem X9{l:Expr}{tl:TE}(hl:PE X l tl):PI X tg l (a2L X.K tl):=by
 intro pins s σ H R I h
 refine cH (hl pins s σ H _ I h) λv s1 ⟨x,H1,I1,r1,q1⟩=>?_
 obtain⟨a,e,⟨xs,hq⟩,q⟩:=q1
 subst e
 cases r1
 obtain⟨its,rv,p,hz⟩:=I1.tuple hq
 refine wpAny_pyIter_tuple (show s1.heap.IsTuple a its.toArray from p) ?_
 refine⟨s1.heap.objs.size,[s1.heap.objs.size],_,_,H1,rfl,I1.kept (t':=s1.toks) λb o e=>a0e _ e,DT a _,⟨_,Heap.get?_push_size _ rfl,rfl,rfl⟩,λb hb=>?_,q⟩
 have e:b=s1.heap.objs.size:=by simpa using hb
 subst e
 exact I1.fpOk (Nat.le_refl _) (I1.hok.fresh (Nat.le_refl _))
theorem MT {pins:List (Addr×Obj)} {σ:St} {H:Hp} {s:Shared} {R:It->Hp->Prop} {E:Value->Shared->Prop} {lo hi:Int} {t u v:Tok} {tk:Nat} (I:Inv X pins σ H s) (h1:-(2^62)<=lo) (h2:lo<2^62) (h3:-(2^62)<=hi) (h4:hi<2^62)
  (q:R (O2 lo (hi-lo).toNat) H):wpAny (model X.prog X.w) X.A (pyIter (.ref s.heap.objs.size)) (a3J X pins σ tg R) E {s with heap:=s.heap.push {cls:=.type "range",data:=.fields #[.int lo t,.int hi u,.int 1 v]},toks:=tk}:=by
 refine wpAny_pyIter_range (IsRange.new ..) (small_one h1 h2 h3 h4) ?_
 have I1:Inv X pins σ H {s with heap:=s.heap.push {cls:=.type "range",data:=.fields #[.int lo t,.int hi u,.int 1 v]},toks:=tk}:=I.kept λb o e=>a0e _ e
 refine ⟨(s.heap.push {cls:=.type "range",data:=.fields #[.int lo t,.int hi u,.int 1 v]}).objs.size,[(s.heap.push {cls:=.type "range",data:=.fields #[.int lo t,.int hi u,.int 1 v]}).objs.size],_,_,H,rfl,
  I1.kept (t':=tk) λb o e=>a0e _ e,DS _ lo (hi-lo).toNat,?_,λb hb=>?_,q⟩
 ·have e1:lo+((0:Nat):Int)*1=lo:=by simp
  have e2:(((hi-lo).toNat:Nat):Int)-((0:Nat):Int)=Builtin.Range.rangeSize lo hi 1:=by rw[rangeSize_one];split<;>omega
  show IsRangeIter _ _ (lo+((0:Nat):Int)*1) ((((hi-lo).toNat:Nat):Int)-((0:Nat):Int)) 1
  rw[e1,e2]
  exact Heap.get?_push_size _ rfl
 ·have e:b=(s.heap.push {cls:=.type "range",data:=.fields #[.int lo t,.int hi u,.int 1 v]}).objs.size:=by simpa using hb
  subst e
  exact I1.fpOk (Nat.le_refl _) (I1.hok.fresh (Nat.le_refl _))
def EJ(ta:TA):TI:=λσ H R=>ta σ H λvs H1=>∃j:Int,vs=[.int j]/\-(2^62)<=j/\j<2^62/\R (O2 0 j.toNat) H1
theorem w4 {a:Expr} {ta:TA} {p pos:Pos} (hg:Gl X "range") (hm:X.mg "range"=none) (ha:PA X [a] ta) (hs:starEach [a] X.env=[(false,eval a X.env)]:=by rfl):PI X tg (.Call (.Name "range" p) [a] [] pos) (EJ ta):=by
 intro pins s σ H R I h
 refine Call_ (mE I hg hm boot_range (PyProof.Rows.callWith_type1 (cH (ha pos pins s σ H _ I h) λus s1 ⟨vs,H1,I1,r1,q1⟩=>?_) hs rfl))
 obtain⟨j,e,q1,q2,q⟩:=q1
 subst e
 cases r1 with
 | cons r rr=>
  cases rr
  obtain⟨t,rfl⟩:=r
  exact call_range_1 (MT I1 (by omega) (by omega) q1 q2 (by simpa using q))
def NA(wi:TI)(g:TG)(tb:TS):TS:=λD σ H=>wi σ H λJ H1=>∃W:Nat->Nat->St->Hp->Prop,(∃m,W 0 m σ H1)/\∀i m σ H,W i m σ H->
 (J.stop i H/\D.nx σ H)\/(J.go i H/\∃N:St->Hp->Prop,(∀σ' H',N σ' H'->∃m',m'<m/\W (i+1) m' σ' H')/\∀x H',J.yld i H x H'->g x σ H' λσ2 H2=>tb {D with nx:=N,ct:=N,bk:=D.nx} σ2 H2)
def mM(fp:List Ac)(h:Heap):List (Ac×Obj):=fp.filterMap λb=>(h.get? b).map λo=>(b,o)
theorem dX{fp:List Ac}{h:Heap}{b:Ac}{o:Obj}(hb:b∈fp)(e:h.get? b=some o):(b,o)∈mM fp h:=List.mem_filterMap.mpr ⟨b,hb,by rw[e];rfl⟩
theorem HP {fp:List Addr} {h:Heap} {p:Addr×Obj} (hp:p∈mM fp h):p.1∈fp/\h.get? p.1=some p.2:=by
 obtain⟨b,hb,e⟩:=List.mem_filterMap.mp hp
 cases q:h.get? b with
 |none=>rw[q] at e;cases e
 | some o=>
  rw[q] at e
  have e':(b,o)=p:=Option.some.inj e
  subst e'
  exact⟨hb,q⟩
theorem Inv.pinned {pins:List (Addr×Obj)} {σ:St} {H:Hp} {s:Shared} {fp:List Addr} (I:Inv X pins σ H s) (hf:∀b∈fp,iH X pins H b) (ho:∀b∈fp,∃o,s.heap.get? b=some o/\∀v,o.data≠ .cell v):Inv X (pins++mM fp s.heap) σ H s:=
 I.pins_of λp hp=>(List.mem_append.mp hp).elim (λz=>I.pin p (List.mem_append_right _ z)) λz=>by
  obtain⟨hb,e⟩:=HP z
  obtain⟨f0,f1,f2,_⟩:=hf p.1 hb
  obtain⟨o,e',d⟩:=ho p.1 hb
  rw[e] at e';cases e'
  exact⟨e,f0,f1,f2,d⟩
theorem Inv.unpinned{pins pl:List (Ac×Obj)}{σ:St}{H:Hp}{s:Ab}(I:Inv X (pins++pl) σ H s):Inv X pins σ H s:=I.pins_of λp hp=>I.pin p (List.mem_append_right _ (List.mem_append_left _ hp))
theorem MA {iter:Expr} {body:List Stmt} {wi:TI} {g:TG} {tb:TS} {pos:Pos} (hp:PassesOwn (model X.prog X.w) X.A X.env X.xe) (hc:X.calm=true) (hi:PI X tg iter wi) (hg:PG X tg g) (hb:uX X body tb)
  (hs:∀x,foldedSetIterable iter X.env x=pure x:=by intro _;rfl):PS X (.For tg iter body [] pos) (NA wi g tb):=by
 intro pins s σ H D I h
 refine wpAny_For (cH (hi pins s σ H _ I h) λv s1 h1=>cH h1 λitv s2 h2=>?_) hs
 obtain⟨it,fp,tn,J,H2,e,I2,T,st2,f2,W,⟨m0,w0⟩,turn⟩:=h2
 subst e
 have stat:∀ {H':Hp},(∀b∈fp,H' b=none)->∀b∈fp,iH X pins H' b:=λhn b hb=>⟨hn b hb,(f2 b hb).2⟩
 refine codeAny_forLoop_any (λn s'=>∃i σ' H',Inv X pins σ' H' s'/\tn i s'.heap/\(∀b∈fp,H' b=none)/\W i n σ' H') ?_ m0 ⟨0,σ,H2,I2,st2,λb hb=>(f2 b hb).1,w0⟩
 rintro n s3 ⟨i,σ3,H3,I3,O0,fr3,w3⟩
 rcases turn i n σ3 H3 w3 with ⟨stop,qn⟩|⟨go,N,hN,step⟩
 ·refine wpAny_passesOwn hp (cH (T.done X rfl rfl rfl hc i pins s3 σ3 H3 X.xe I3 (stat fr3) O0 stop) λr s4 ⟨hr,I4⟩=>?_)
  subst hr
  exact wpAny_execs_nil ⟨σ3,H3,I4,qn⟩
 ·refine wpAny_passesOwn hp (cH (T.item X rfl rfl rfl hc i pins s3 σ3 H3 X.xe I3 (stat fr3) O0 go) λr s4 ⟨u,hr,h4⟩=>?_)
  subst hr
  refine wpAny_passesOwn hp (cH h4 λ_ s5 ⟨x,H5,I5,r5,y5,st5,fr5⟩=>?_)
  have I5':=I5.pinned (stat fr5) (T.obj _ _ st5)
  refine wpAny_passesOwn hp (cH (hg _ s5 σ3 H5 x u _ I5' r5 (step x H5 y5)) λ_ s6 ⟨σ6,H6,I6,q6⟩=>?_)
  refine wpAny_passesOwn hp (cH (hb _ s6 σ6 H6 _ I6 q6) λf s7 q7=>?_)
  have again:∀ {σ7:St} {H7:Hp},Inv X (pins++mM fp s5.heap) σ7 H7 s7->N σ7 H7->∃m,m<n/\∃i σ' H',Inv X pins σ' H' s7/\tn i s7.heap/\(∀b∈fp,H' b=none)/\W i m σ' H':=fun {σ7 H7} I7 n7=>by
   obtain⟨m',hm,w7⟩:=hN σ7 H7 n7
   refine⟨m',hm,i+1,σ7,H7,I7.unpinned,T.keep _ _ _ st5 λb hb o e=>(I7.pin (b,o) (List.mem_append_right _ (List.mem_append_right _ (dX hb e)))).1,λb hb=>?_,w7⟩
   obtain⟨o,e,d⟩:=T.obj _ _ st5 b hb
   exact (I7.pin (b,o) (List.mem_append_right _ (List.mem_append_right _ (dX hb e)))).2.1
  cases f with
  |next=>obtain⟨σ7,H7,I7,n7⟩:=q7;exact again I7 n7
  |cont=>obtain⟨σ7,H7,I7,n7⟩:=q7;exact again I7 n7
  |brk=>obtain⟨σ7,H7,I7,q7⟩:=q7;exact⟨σ7,H7,I7.unpinned,q7⟩
  |ret v=>obtain⟨x7,σ7,H7,I7,r7,q7⟩:=q7;exact⟨x7,σ7,H7,I7.unpinned,r7,q7⟩
end
theorem GW {lo:Int} {n:Nat} {g:TG} {tb:TS} {D:Ends} {σ:St} {H:Hp} (Pv:Nat->St->Hp->Prop) (h0:Pv 0 σ H)
  (hs:∀i σ H,i<n->Pv i σ H->g (.int (lo+i)) σ H λσ2 H2=>tb {D with nx:=Pv (i+1),ct:=Pv (i+1),bk:=D.nx} σ2 H2) (hd:∀σ H,Pv n σ H->D.nx σ H) :
  ∃ W:Nat->Nat->St->Hp->Prop,(∃m,W 0 m σ H)/\∀i m σ H,W i m σ H->
   ((O2 lo n).stop i H/\D.nx σ H)\/((O2 lo n).go i H/\∃N:St->Hp->Prop,(∀σ' H',N σ' H'->∃m',m'<m/\W (i+1) m' σ' H')/\∀x H',(O2 lo n).yld i H x H'->g x σ H' λσ2 H2=>tb {D with nx:=N,ct:=N,bk:=D.nx} σ2 H2):=by
 refine⟨λi m σ H=>m=n-i/\i<=n/\Pv i σ H,⟨n,by simp,Nat.zero_le _,h0⟩,?_⟩
 rintro i m σ H ⟨rfl,hi,p⟩
 by_cases hlt:i<n
 ·refine .inr ⟨hlt,Pv (i+1),λσ' H' p'=>⟨n-(i+1),by omega,rfl,hlt,p'⟩,λx H' y=>?_⟩
  obtain⟨e,y⟩:=y
  subst e y
  exact hs i σ _ hlt p
 ·have e:i=n:=by omega
  subst e
  exact .inl ⟨Nat.le_refl _,hd σ H p⟩
abbrev R2:=V->V->Hp->VK->Prop
def m8 (X:Cx) (f:Value->Value->Sem Value) (r:R2):Prop:=
 ∀ (pins:List (Addr×Obj)) (s:Shared) (σ:St) (H:Hp) (x y:V) (v u:Value) (Q:VK),Inv X pins σ H s->bA x v->bA y u->r x y H Q->
  wpAny (model X.prog X.w) X.A (f v u) (EP X pins σ Q) X.xe s
def a1U (X:Cx) (f:Value->Sem Value) (r:V->Hp->VK->Prop):Prop:=
 ∀ (pins:List (Addr×Obj)) (s:Shared) (σ:St) (H:Hp) (x:V) (v:Value) (Q:VK),Inv X pins σ H s->bA x v->r x H Q->
  wpAny (model X.prog X.w) X.A (f v) (EP X pins σ Q) X.xe s
def dI (X:Cx) (f:Value) (r:List V->Hp->VK->Prop):Prop:=
 ∀ (pins:List (Addr×Obj)) (s:Shared) (σ:St) (H:Hp) (xs:List V) (us:List Value) (Q:VK),Inv X pins σ H s->aV xs us->r xs H Q->
  wpAny (model X.prog X.w) X.A (call f us) (EP X pins σ Q) X.xe s
def a27 (X:Cx) (r:V->Hp->(Bool->Hp->Prop)->Prop):Prop:=
 ∀ (pins:List (Addr×Obj)) (s:Shared) (σ:St) (H:Hp) (x:V) (v:Value) (Q:Bool->Hp->Prop),Inv X pins σ H s->bA x v->r x H Q->
  wpAny (model X.prog X.w) X.A (truthy v) (TP X pins σ Q) X.xe s
def NC(r:R2)(ta tb:TE):TE:=λσ H Q=>ta σ H λx H1=>tb σ H1 λy H2=>r x y H2 Q
def a1Z(r:V->Hp->VK->Prop)(ta:TE):TE:=λσ H Q=>ta σ H λx H1=>r x H1 Q
def rI(C:Int->Int->Prop)(g:Int->Int->V):R2:=λx y H Q=>∃i j,x= .int i/\y= .int j/\C i j/\Q (g i j) H
def uP(g:Int->Int->V):R2:=λx y H Q=>∃i j,x= .int i/\y= .int j/\Q (g i j) H
def rU(g:Int->V):V->Hp->VK->Prop:=λx H Q=>∃i,x= .int i/\Q (g i) H
section
variable{X:Cx}{a b c:Expr}{ta tb tc:TE}{pos:Pos}
theorem U1 (ha:PE X a ta) (hb:PE X b tb) {pins:List (Addr×Obj)} {s:Shared} {σ:St} {H:Hp} {R:V->V->Hp->Prop} (I:Inv X pins σ H s)
  (h:ta σ H λx H1=>tb σ H1 λy H2=>R x y H2) {Q:Value->Ab->Prop} {f:Value->Value->Sem Value}
  (hf:∀v u s2 x y H2,Inv X pins σ H2 s2->bA x v->bA y u->R x y H2->wpAny (model X.prog X.w) X.A (f v u) Q X.xe s2) :
  wpAny (model X.prog X.w) X.A (eval a X.env) (λv s₁=>wpAny (model X.prog X.w) X.A (eval b X.env) (λu s₂=>wpAny (model X.prog X.w) X.A (f v u) Q X.xe s₂) X.xe s₁) X.xe s:=by
 refine cH (ha pins s σ H _ I h) λv s1 ⟨x,H1,I1,r1,q1⟩=>?_
 refine cH (hb pins s1 σ H1 _ I1 q1) λu s2 ⟨y,H2,I2,r2,q2⟩=>?_
 exact hf v u s2 x y H2 I2 r1 r2 q2
theorem AZ{op:Operator}{r:R2}(ho:m8 X (binaryOp op) r)(ha:PE X a ta)(hb:PE X b tb):PE X (.BinOp a op b pos) (NC r ta tb):=by
 intro pins s σ H Q I h
 exact wpAny_BinOp (U1 ha hb I h λv u s2 x y H2 I2 rx ry q=>ho pins s2 σ H2 x y v u Q I2 rx ry q)
theorem TB{op:UnaryOp}{r:V->Hp->VK->Prop}(ho:a1U X (unaryOp op) r)(ha:PE X a ta):PE X (.UnaryOp op a pos) (a1Z r ta):=by
 intro pins s σ H Q I h
 exact UnaryOp_ (cH (ha pins s σ H _ I h) λv s1 ⟨x,H1,I1,r1,q1⟩=>ho pins s1 σ H1 x v Q I1 r1 q1)
theorem a1W {f:Value->Value->Sem Value} {C:Int->Int->Prop} {g:Int->Int->Int}
  (rule:∀(i j:Int) (t u:Tok) (s:Ab) (Q:Value->Ab->Prop) (E:Value->Ab->Prop),C i j->Q (.int (g i j) s.toks) {s with toks:=s.toks+1}->wpAny (model X.prog X.w) X.A (f (.int i t) (.int j u)) Q E s) :
  m8 X f (rI C λi j=>.int (g i j)):=by
 intro pins s σ H x y v u Q I rx ry h
 obtain⟨i,j,rfl,rfl,hc,q⟩:=h
 obtain⟨t,rfl⟩:=rx
 obtain⟨t',rfl⟩:=ry
 exact rule i j t t' s _ _ hc ⟨.int (g i j),H,I.tok _,⟨_,rfl⟩,q⟩
theorem a0B {f:Value->Value->Sem Value} {g:Int->Int->Int}
  (rule:∀(i j:Int) (t u:Tok) (s:Ab) (Q:Value->Ab->Prop) (E:Value->Ab->Prop),Q (.int (g i j) s.toks) {s with toks:=s.toks+1}->wpAny (model X.prog X.w) X.A (f (.int i t) (.int j u)) Q E s) :
  m8 X f (uP λi j=>.int (g i j)):=by
 intro pins s σ H x y v u Q I rx ry h
 obtain⟨i,j,rfl,rfl,q⟩:=h
 obtain⟨t,rfl⟩:=rx
 obtain⟨t',rfl⟩:=ry
 exact rule i j t t' s _ _ ⟨.int (g i j),H,I.tok _,⟨_,rfl⟩,q⟩
theorem WK {f:Value->Value->Sem Value} {g:Int->Int->Bool}
  (rule:∀(i j:Int) (t u:Tok) (s:Ab) (Q:Value->Ab->Prop) (E:Value->Ab->Prop),Q (.bool (g i j)) s->wpAny (model X.prog X.w) X.A (f (.int i t) (.int j u)) Q E s) :
  m8 X f (uP λi j=>.bl (g i j)):=by
 intro pins s σ H x y v u Q I rx ry h
 obtain⟨i,j,rfl,rfl,q⟩:=h
 obtain⟨t,rfl⟩:=rx
 obtain⟨t',rfl⟩:=ry
 exact rule i j t t' s _ _ ⟨.bl (g i j),H,I,rfl,q⟩
def uA(i j:Int):Prop:=0<=j/\j<=1000000/\i.natAbs<2^64
def wN(i j:Int):Prop:=(-(2^64)<i/\i<2^64)\/(-(2^64)<j/\j<2^64)
theorem wN.ok{i j:Int}(h:wN i j):IntMulOk i j:=by
 rcases h with ⟨h1,h2⟩|⟨h1,h2⟩
 ·exact .of_left (intBits_le_64 h1 h2)
 ·exact .of_right (intBits_le_64 h1 h2)
theorem WL:m8 X (binaryOp .Add) (uP λi j=>.int (i+j)):=a0B λ_ _ _ _ _ _ _ q=>add_int q
theorem WV:m8 X (binaryOp .Sub) (uP λi j=>.int (i-j)):=a0B λ_ _ _ _ _ _ _ q=>sub_int q
theorem WR:m8 X (binaryOp .Mult) (rI wN λi j=>.int (i*j)):=a1W λ_ _ _ _ _ _ _ hc q=>mul_int q hc.ok
theorem WQ:m8 X (binaryOp .Mod) (rI (λ_ j=>0<j) λi j=>.int (i % j)):=a1W λi j _ _ _ _ _ hc q=>by
 have h1:(0:Int)<j:=hc
 exact mod_int' (by omega) (by rw[Int.fmod_eq_emod_of_nonneg i (by omega)];exact q)
theorem WT:m8 X (binaryOp .Pow) (rI uA λi j=>.int (i^j.toNat)):=a1W λ_ _ _ _ _ _ _ hc q=>pow_int_small hc.1 hc.2.1 hc.2.2 q
theorem a45 {f:Value->Sem Value} {g:Int->Int}
  (rule:∀(i:Int) (t:Tok) (s:Ab) (Q:Value->Ab->Prop) (E:Value->Ab->Prop),Q (.int (g i) s.toks) {s with toks:=s.toks+1}->wpAny (model X.prog X.w) X.A (f (.int i t)) Q E s) :
  a1U X f (rU λi=>.int (g i)):=by
 intro pins s σ H x v Q I rx h
 obtain⟨i,rfl,q⟩:=h
 obtain⟨t,rfl⟩:=rx
 exact rule i t s _ _ ⟨.int (g i),H,I.tok _,⟨_,rfl⟩,q⟩
theorem YM:a1U X (unaryOp .USub) (rU λi=>.int (-i)):=a45 λ_ _ _ _ _ q=>neg_int q
end
def a35:V->V->Bool
 |.non,.non=>true|.non,.int _=>true|.int _,.non=>true|.non,.bl _=>true|.bl _,.non=>true|.non,.str _=>true|.str _,.non=>true
 |.int _,.int _=>true|.bl _,.bl _=>true|.str _,.str _=>true|.byt _,.byt _=>true
 |.int _,.str _=>true|.str _,.int _=>true|.bl _,.str _=>true|.str _,.bl _=>true
 |_,_=>false
def a30:R2:=λx y H Q=>a35 x y=true/\Q (.bl (!decide (x=y))) H
theorem OQ{i j:Int}:decide (V.int i=V.int j)=(i==j):=by
 rw[Bool.eq_iff_iff]
 simp
theorem U9{i j:Bool}:decide (V.bl i=V.bl j)=(i==j):=by
 rw[Bool.eq_iff_iff]
 simp
theorem OS{i j:Str}:decide (V.str i=V.str j)=(i==j):=by
 rw[Bool.eq_iff_iff]
 simp
theorem OP{i j:Array UInt8}:decide (V.byt i=V.byt j)=(i.toList==j.toList):=by
 rw[Bool.eq_iff_iff]
 cases i
 cases j
 simp
section
variable{X:Cx}{a b c:Expr}{ta tb tc:TE}{pos:Pos}
theorem cX{pins:List (Addr×Obj)}{σ:St}{H:Hp}{s:Shared}{Q:VK}{k k':Bool}(I:Inv X pins σ H s)(q:Q (.bl k) H)(e:k=k'):EP X pins σ Q (.bool k') s:=by
 subst e
 exact⟨.bl k,H,I,rfl,q⟩
theorem a0F:m8 X (compareOp .NotEq) a30:=by
 intro pins s σ H x y v u Q I rx ry h
 obtain⟨hs,q⟩:=h
 cases x with
 | non=>
  cases rx
  cases y with
  |non=>cases ry;exact PySem.EqNone.ne_none_none (cX I q (by simp))
  |bl j=>cases ry;exact PySem.EqNone.ne_none_bool (cX I q (by simp))
  |int j=>obtain⟨t',rfl⟩:=ry;exact PySem.EqNone.ne_none_int (cX I q (by simp))
  |str j=>obtain⟨t',rfl⟩:=ry;exact PySem.EqNone.ne_none_str (cX I q (by simp))
  |_=>exact absurd (show false=true from hs) Bool.false_ne_true
 | bl i=>
  cases rx
  cases y with
  |non=>cases ry;exact PySem.EqNone.ne_bool_none (cX I q (by simp))
  |bl j=>cases ry;exact ne_bool (cX I q (congrArg not U9))
  |str j=>obtain⟨t',rfl⟩:=ry;exact PySem.EqMixed.ne_bool_str (cX I q (by simp))
  |_=>exact absurd (show false=true from hs) Bool.false_ne_true
 | int i=>
  obtain⟨t,rfl⟩:=rx
  cases y with
  |non=>cases ry;exact PySem.EqNone.ne_int_none (cX I q (by simp))
  |int j=>obtain⟨t',rfl⟩:=ry;exact ne_int (cX I q (congrArg not OQ))
  |str j=>obtain⟨t',rfl⟩:=ry;exact PySem.EqMixed.ne_int_str (cX I q (by simp))
  |_=>exact absurd (show false=true from hs) Bool.false_ne_true
 | str i=>
  obtain⟨t,rfl⟩:=rx
  cases y with
  |non=>cases ry;exact PySem.EqNone.ne_str_none (cX I q (by simp))
  |bl j=>cases ry;exact PySem.EqMixed.ne_str_bool (cX I q (by simp))
  |int j=>obtain⟨t',rfl⟩:=ry;exact PySem.EqMixed.ne_str_int (cX I q (by simp))
  |str j=>obtain⟨t',rfl⟩:=ry;exact ne_str (cX I q (congrArg not OS))
  |_=>exact absurd (show false=true from hs) Bool.false_ne_true
 | byt i=>
  obtain⟨t,rfl⟩:=rx
  cases y with
  |byt j=>obtain⟨t',rfl⟩:=ry;exact PySem.W.ne_bytes (cX I q (congrArg not OP))
  |_=>exact absurd (show false=true from hs) Bool.false_ne_true
 |_=>cases y<;>exact absurd (show false=true from hs) Bool.false_ne_true
theorem a0E:m8 X (compareOp .Lt) (uP λi j=>.bl (decide (i<j))):=WK λ_ _ _ _ _ _ _ q=>lt_int q
theorem a0D:m8 X (compareOp .LtE) (uP λi j=>.bl (decide (i<=j))):=WK λ_ _ _ _ _ _ _ q=>le_int q
theorem a0C:m8 X (compareOp .Gt) (uP λi j=>.bl (decide (j<i))):=WK λ_ _ _ _ _ _ _ q=>gt_int q
theorem WP:m8 X (compareOp .Is) (λx y H Q=>y= .non/\Q (.bl (decide (x= .non))) H):=by
 intro pins s σ H x y v u Q I rx ry h
 obtain⟨rfl,q⟩:=h
 cases ry
 refine is_none_gen (cX I q ?_)
 cases x<;>first
  |(cases rx;rfl)
  |(obtain⟨t,rfl⟩:=rx;rfl)
theorem QW:m8 X (compareOp .IsNot) (λx y H Q=>y= .non/\Q (.bl (!decide (x= .non))) H):=by
 intro pins s σ H x y v u Q I rx ry h
 obtain⟨rfl,q⟩:=h
 cases ry
 refine isnot_none_gen (cX I q ?_)
 cases x<;>first
  |(cases rx;rfl)
  |(obtain⟨t,rfl⟩:=rx;rfl)
theorem cC(b:Expr){op:CmpOp}(h:op≠ .In:=by decide)(h2:op≠ .NotIn:=by decide):behindInMarks op b=false:=by
 have e1:(op==CmpOp.In)=false:=by cases op<;>first|rfl|exact absurd rfl h
 have e2:(op==CmpOp.NotIn)=false:=by cases op<;>first|rfl|exact absurd rfl h2
 cases b<;>simp[behindInMarks,e1,e2]
theorem EY{op:CmpOp}{r:R2}(ho:m8 X (compareOp op) r)(ha:PE X a ta)(hb:PE X b tb)(hm:behindInMarks op b=false):PE X (.Compare a [op] [b] pos) (NC r ta tb):=by
 intro pins s σ H Q I h
 exact wpAny_Compare1 (U1 ha hb I h λv u s2 x y H2 I2 rx ry q=>ho pins s2 σ H2 x y v u Q I2 rx ry q) hm
def FM(t:TE):TT:=λσ H Q=>t σ H λx H'=>∃k,x= .bl k/\Q k H'
theorem F6 {op:CmpOp} {r:R2} (ho:m8 X (compareOp op) r) (ha:PE X a ta) (hb:PE X b tb) (hm:behindInMarks op b=false):PT X (.Compare a [op] [b] pos) (FM (NC r ta tb)):=by
 intro pins s σ H Q I h
 refine wpAny_isTrue_Compare1 (cH (ha pins s σ H _ I h) λv s1 ⟨x,H1,I1,r1,q1⟩=>cH (hb pins s1 σ H1 _ I1 q1) λu s2 ⟨y,H2,I2,r2,q2⟩=>
  cH (ho pins s2 σ H2 x y v u _ I2 r1 r2 q2) λc s3 ⟨z,H3,I3,r3,k,e,q3⟩=>?_) hm
 subst e
 cases r3
 exact wpAny_truthy_bool ⟨H3,I3,q3⟩
def N8(r r':R2)(ta tb tc:TE):TE:=λσ H Q=>ta σ H λx H1=>tb σ H1 λy H2=>r x y H2 λz H3=>∃k,z= .bl k/\
 (if k=true then tc σ H3 λw' H4=>r' y w' H4 Q else Q (.bl false) H3)
theorem M3 {op op':CmpOp} {r r':R2} (ho:m8 X (compareOp op) r) (ho':m8 X (compareOp op') r') (ha:PE X a ta) (hb:PE X b tb) (hc:PE X c tc)
  (hm:lastMarks [op,op'] [b,c]=false:=by with_unfolding_all rfl):PE X (.Compare a [op,op'] [b,c] pos) (N8 r r' ta tb tc):=by
 intro pins s σ H Q I h
 refine Compare_chain (cH (ha pins s σ H _ I h) λv s1 ⟨x,H1,I1,r1,q1⟩=>chain_link (cH (hb pins s1 σ H1 _ I1 q1) λu s2 ⟨y,H2,I2,r2,q2⟩=>
  cH (ho pins s2 σ H2 x y v u _ I2 r1 r2 q2) λd s3 ⟨z,H3,I3,r3,k,e,q3⟩=>?_)) hm
 subst e
 cases r3
 refine wpAny_truthy_bool ?_
 cases k with
 |false=>exact ite_ff ⟨.bl false,H3,I3,rfl,q3⟩
 |true=>exact ite_tt (chain_last (cH (hc pins s3 σ H3 _ I3 q3) λw' s4 ⟨z',H4,I4,r4,q4⟩=>ho' pins s4 σ H4 y z' u w' Q I4 r2 r4 q4))
def ZE(K:PySem.W.Frag)(x:V)(H:Hp)(k:Bool):Prop:=
 match x with
 |.non=>k=false
 |.bl b=>k=b
 |.int i=>k=(i !=0)
 |.str y=>y.length<=sizeLine/\k=((y.length:Int) !=0)
 |.byt y=>y.size<=sizeLine/\k=((y.size:Int) !=0)
 |.ref p=>(∃xs,cS K H p xs/\k= !xs.isEmpty)\/(∃xs,d7 K H p xs/\k= !xs.isEmpty)\/∃kvs,H p=some (.dK kvs)/\k= !kvs.isEmpty
 |_=>False
theorem CM{κ:Type}{kvs:List (κ×V)}{vs:List (κ×Value)}(r:KV kvs vs):(!vs.isEmpty)= !kvs.isEmpty:=by
 cases r<;>rfl
theorem rY{xs:List V}{its:List Value}(r:aV xs its):(!its.toArray.isEmpty)= !xs.isEmpty:=by
 cases r<;>simp
theorem mF:(sizeLine:Nat)<2^63:=by rw[sizeLine_eq];decide
theorem YI:a27 X (λx H Q=>∃k,ZE X.K x H k/\Q k H):=by
 intro pins s σ H x v Q I rx h
 obtain⟨k,e,q⟩:=h
 have hl:=mF
 have hs:sizeLine=16777216:=sizeLine_eq
 cases x with
 | non=>
  cases rx
  have e':k=false:=e
  subst e'
  exact truthy_none ⟨H,I,q⟩
 | bl b=>
  cases rx
  have e':k=b:=e
  subst e'
  exact wpAny_truthy_bool ⟨H,I,q⟩
 | int i=>
  obtain⟨t,rfl⟩:=rx
  have e':k=(i !=0):=e
  subst e'
  exact PySem.P.truthy_int ⟨H,I,q⟩
 | str y=>
  obtain⟨t,rfl⟩:=rx
  obtain⟨hy,e'⟩ : y.length<=sizeLine/\k=((y.length:Int) !=0):=e
  subst e'
  exact PySem.P.truthy_str (by omega) ⟨H,I.tok _,q⟩
 | byt y=>
  obtain⟨t,rfl⟩:=rx
  obtain⟨hy,e'⟩ : y.size<=sizeLine/\k=((y.size:Int) !=0):=e
  subst e'
  exact PySem.W.truthy_bytes (by omega) ⟨H,I.tok _,q⟩
 | ref p=>
  cases rx
  have e':(∃xs,cS X.K H p xs/\k= !xs.isEmpty)\/(∃xs,d7 X.K H p xs/\k= !xs.isEmpty)\/∃kvs,H p=some (.dK kvs)/\k= !kvs.isEmpty:=e
  rcases e' with ⟨xs,hx,e'⟩|⟨xs,hx,e'⟩|⟨kvs,hx,e'⟩
  ·subst e'
   obtain⟨its,r,pl,hz⟩:=I.list hx
   have hlen:=r.length
   exact wpAny_truthy_list pl.isList (by simp only[List.size_toArray];omega) ⟨H,I.tok _,by rw[rY r];exact q⟩
  ·subst e'
   obtain⟨its,r,pl,hz⟩:=I.tuple hx
   have hlen:=r.length
   exact truthy_tuple pl (by simp only[List.size_toArray];omega) ⟨H,I.tok _,by rw[rY r];exact q⟩
  ·subst e'
   obtain⟨hz,hS,vs,r,m⟩ : kvs.length<=sizeLine/\(p==sysModules)=false/\∃vs,KV kvs vs/\s.heap.DictOf (dB X.prog X.w) p vs:=I.hok p _ hx
   have hlen:kvs.length=vs.length:=Paired.length r
   exact wpAny_truthy_dict hS m (by omega) ⟨H,I.tok _,by rw[CM r];exact q⟩
 |_=>exact (show False from e).elim
theorem D8:m8 X (binaryOp .Add) (λx y H Q=>∃i j,x= .str i/\y= .str j/\i.length+j.length<=sizeLine/\Q (.str (i++j)) H):=by
 intro pins s σ H x y v u Q I rx ry h
 obtain⟨i,j,rfl,rfl,hz,q⟩:=h
 obtain⟨t,rfl⟩:=rx
 obtain⟨t',rfl⟩:=ry
 exact add_str (λt' tk=>⟨.str (i++j),H,I.tok _,⟨_,rfl⟩,q⟩) hz
theorem kZ{x:V}{us:List Value}(r:aV [x] us):∃u,us=[u]/\bA x u:=by
 cases r with
 |cons r1 r2=>cases r2;exact⟨_,rfl,r1⟩
theorem NI {x y:V} {us:List Value} (r:aV [x,y] us):∃u w',us=[u,w']/\bA x u/\bA y w':=by
 cases r with
 | cons r1 r2=>
  cases r2 with
  |cons r3 r4=>cases r4;exact⟨_,_,rfl,r1,r3⟩
theorem GB(hc:X.calm=true):dI X (.builtin "max") (λxs H Q=>∃i j,xs=[.int i,.int j]/\Q (.int (if j>i then j else i)) H):=by
 intro pins s σ H xs us Q I r h
 obtain⟨i,j,rfl,q⟩:=h
 obtain⟨u,w',rfl,⟨t,rfl⟩,⟨t',rfl⟩⟩:=NI r
 refine max_two_ints (I.ok.hd hc) λh' tk k=>⟨_,H,I.kept k,?_,q⟩
 by_cases hj:j>i
 ·rw[if_pos hj,if_pos hj];exact⟨_,rfl⟩
 ·rw[if_neg hj,if_neg hj];exact⟨_,rfl⟩
theorem GC(hc:X.calm=true):dI X (.builtin "min") (λxs H Q=>∃i j,xs=[.int i,.int j]/\Q (.int (if j<i then j else i)) H):=by
 intro pins s σ H xs us Q I r h
 obtain⟨i,j,rfl,q⟩:=h
 obtain⟨u,w',rfl,⟨t,rfl⟩,⟨t',rfl⟩⟩:=NI r
 refine min_two_ints (I.ok.hd hc) λh' tk k=>⟨_,H,I.kept k,?_,q⟩
 by_cases hj:j<i
 ·rw[if_pos hj,if_pos hj];exact⟨_,rfl⟩
 ·rw[if_neg hj,if_neg hj];exact⟨_,rfl⟩
theorem GA:dI X (.type "int") (λxs H Q=>(∃i,xs=[.int i]/\Q (.int i) H)\/∃k,xs=[.bl k]/\Q (.int (if k then 1 else 0)) H):=by
 intro pins s σ H xs us Q I r h
 rcases h with ⟨i,rfl,q⟩|⟨k,rfl,q⟩
 ·obtain⟨u,rfl,t,rfl⟩:=kZ r
  exact call_int_int ⟨.int i,H,I,⟨_,rfl⟩,q⟩
 ·obtain⟨u,rfl,r1⟩:=kZ r
  cases r1
  exact call_int_bool ⟨.int (if k then 1 else 0),H,I.tok _,⟨_,rfl⟩,q⟩
def Z9(K:PySem.W.Frag)(x:V)(H:Hp)(n:Nat):Prop:=
 match x with
 |.str y=>y.length<=sizeLine/\n=y.length
 |.byt y=>y.size<=sizeLine/\n=y.size
 |.ref p=>(∃xs,cS K H p xs/\n=xs.length)\/∃xs,d7 K H p xs/\n=xs.length
 |_=>False
theorem JR:dI X (.builtin "len") (λxs H Q=>∃x n,xs=[x]/\Z9 X.K x H n/\Q (.int n) H):=by
 intro pins s σ H xs us Q I r h
 obtain⟨x,n,rfl,e,q⟩:=h
 obtain⟨u,rfl,rx⟩:=kZ r
 have hl:=mF
 have hs:sizeLine=16777216:=sizeLine_eq
 cases x with
 | str y=>
  obtain⟨t,rfl⟩:=rx
  obtain⟨hy,e'⟩ : y.length<=sizeLine/\n=y.length:=e
  subst e'
  exact len_str (by omega) ⟨.int _,H,I.tok _,⟨_,rfl⟩,q⟩
 | byt y=>
  obtain⟨t,rfl⟩:=rx
  obtain⟨hy,e'⟩ : y.size<=sizeLine/\n=y.size:=e
  subst e'
  exact PySem.W.len_bytes (by omega) ⟨.int _,H,I.tok _,⟨_,rfl⟩,q⟩
 | ref p=>
  cases rx
  have e':(∃xs,cS X.K H p xs/\n=xs.length)\/∃xs,d7 X.K H p xs/\n=xs.length:=e
  rcases e' with ⟨xs,hx,e'⟩|⟨xs,hx,e'⟩
  ·subst e'
   obtain⟨its,r',pl,hz⟩:=I.list hx
   have hlen:=r'.length
   exact Calls.call_len_list pl.isList (by simp only[List.size_toArray];omega) ⟨.int xs.length,H,I.tok _,⟨_,by simp only[List.size_toArray];rw[hlen]⟩,q⟩
  ·subst e'
   obtain⟨its,r',pl,hz⟩:=I.tuple hx
   have hlen:=r'.length
   exact len_tuple pl (by simp only[List.size_toArray];omega) ⟨.int xs.length,H,I.tok _,⟨_,by simp only[List.size_toArray];rw[hlen]⟩,q⟩
 |_=>exact (show False from e).elim
end
structure ObjM(h:Heap)(x dx C:Addr)(mA:Str->Option Value):Prop where
 obj:h.get? x=some (PySem.W.instObj C dx)
 ns:h.Ns1 dx mA
 ne:dx≠x
theorem HK {h:Heap} {dx:Addr} {mA:Str->Option Value} (n:h.Ns1 dx mA):∃od,h.get? dx=some od/\∀name,PySem.W.lookIn name od=some (mA name):=by
 obtain⟨o,es,ep,ho,hd,hk,_,hm⟩:=n
 refine⟨o,ho,λname=>?_⟩
 have e:=hm name
 unfold nsFind findBy at e
 rw[<- Array.find?_toList] at e
 unfold PySem.W.lookIn
 rw[hd]
 dsimp only
 split
 ·rename_i y q
  rw[q] at e
  exact congrArg some e
 ·rename_i q
  rw[q] at e
  have a:es.toList.any (·.refKey)=false:=by
   rw[List.any_eq_false]
   intro y hy
   obtain⟨z,t,hkey⟩:=hk y (Array.mem_toList_iff.mp hy)
   simp[DictEntry.refKey,hkey]
  have a':¬es.toList.any (·.refKey)=true:=by rw[a];exact Bool.false_ne_true
  rw[if_neg a']
  exact congrArg some e
theorem ObjM.look{h:Heap}{x dx C:Addr}{mA:Str->Option Value}(I:ObjM h x dx C mA):∃od,PySem.W.InstAt h x (PySem.W.instObj C dx) C (some od)/\∀name,PySem.W.lookIn name od=some (mA name):=
 let ⟨od,ho,hl⟩:=HK I.ns
 ⟨od,⟨I.obj,rfl,rfl,ho⟩,hl⟩
theorem wV.some_of{v:V}{o:Option Value}(r:wV (some v) o):∃u,o=some u/\bA v u:=by
 cases o with
 |none=>exact (show False from r).elim
 |some u=>exact⟨u,rfl,r⟩
section
variable{P:Program}{w:World}{H H':Hp}{h h':Heap}{a C dx:Ac}{fs fs':List (Str×V)}
theorem Q1(hok:lL P w H h)(e:H a=some (.ins C dx fs)):∃mA,ObjM h a dx C mA/\(∀f,wV (fs.lookup f) (mA f))/\PySem.Within mA (fs.map (·.1))/\fs.length<=1000/\H dx=some (.own a):=by
 obtain⟨d,z,ne,ob,mA,n,r,q⟩:=(show bT P w H h a (.ins C dx fs) from hok a _ e)
 exact⟨mA,⟨ob,n,ne⟩,r,q,z,d⟩
end
structure Cls(K:PySem.W.Frag)(C:Addr):Prop where
 pg:PySem.W.plainGet K C Str.empty=true
 hd:PySem.W.hasDictIn K C=true
 po:PySem.W.plainOver K C=true
 sa:PySem.W.findIn K (.ref C) "__setattr__"=some (some (.builtin "object.__setattr__"))
theorem Cls.get{K:Aa}{C:Ac}(c:Cls K C)(f:Str):PySem.W.plainGet K C f=true:=c.pg
section
variable{X:Cx}{pins:List (Ac×Obj)}{σ:St}{H:Hp}{s:Ab}{A:Around}{E:Value->Ab->Prop}{Q:Value->Ab->Prop}{c:Value}{b:Bool}
inductive TyOf (K:PySem.W.Frag) (H:Hp):V->Value->Prop where
 |non:TyOf K H .non (.type "NoneType")
 |bl (x:Bool):TyOf K H (.bl x) (.type "bool")
 |int (i:Int):TyOf K H (.int i) (.type "int")
 |str (x:Str):TyOf K H (.str x) (.type "str")
 |flt (x:UInt64):TyOf K H (.flt x) (.type "float")
 |lst {a:Ac} {xs:List V} (e:H a=some (.lst xs)):TyOf K H (.ref a) (.type "list")
 |frz {a:Ac} {o:Obj} {xs:List V} (e:H a=some (.frz o (.lst xs))):TyOf K H (.ref a) (.type "list")
 |tup {a:Ac} {xs:List V} (e:H a=some (.tup xs)):TyOf K H (.ref a) (.type "tuple")
 |dK {a:Ac} {kvs:List (cI×V)} (e:H a=some (.dK kvs)):TyOf K H (.ref a) (.type "dict")
 |dT {a:Ac} {kvs:List (List cI×V)} (e:H a=some (.dT kvs)):TyOf K H (.ref a) (.type "dict")
 | ins {a C dx:Addr} {fs:List (Str×V)} (e:H a=some (.ins C dx fs)) (cl:Cls K C) (ha:PySem.W.findIn K (.ref C) "__class__"=some (some (.builtin "object.__class__")))
   (hn:PySem.W.specialIn K (.builtin "object.__class__") "__get__"=some (some (.builtin "getset_descriptor.__get__"))) (htk:PySem.W.takesIn K (.builtin "object.__class__")=some true)
   (hm:PySem.W.mroIn K C (.type "object")=some true):TyOf K H (.ref a) (.ref C)
theorem HC {x:V} {u t:Value} (I:Inv X pins σ H s) (rx:bA x u) (ty:TyOf X.K H x t) (e:PySem.W.kitOne X.K t c=some b) (h:∀tk,Q (.bool b) {s with toks:=tk}) :
  wpAny (model X.prog X.w) A (call (.builtin "isinstance") [u,c]) Q E s:=by
 cases ty with
 |non=>cases (show u=Value.none from rx);exact PySem.W.kia_one PySem.W.kitx_none I.kIn True.intro e (λz=>nomatch z) h
 |bl y=>cases (show u=Value.bool y from rx);exact PySem.W.kia_one PySem.W.kitx_bool I.kIn True.intro e (λz=>nomatch z) h
 |int i=>obtain⟨t,q⟩:=(show ∃t,u=Value.int i t from rx);cases q;exact PySem.W.kia_one PySem.W.kitx_int I.kIn True.intro e (λz=>nomatch z) h
 |str y=>obtain⟨t,q⟩:=(show ∃t,u=Value.str y t from rx);cases q;exact PySem.W.kia_one PySem.W.kitx_str I.kIn True.intro e (λz=>nomatch z) h
 |flt y=>obtain⟨t,q⟩:=(show ∃t,u=Value.float y t from rx);cases q;exact PySem.W.kia_one PySem.W.kitx_float I.kIn True.intro e (λz=>nomatch z) h
 | @lst a xs ea=>
  cases (show u=Value.ref a from rx)
  obtain⟨_,_,n,_,h1⟩:=(show bT X.prog X.w H s.heap a (.lst xs) from I.hok a _ ea)
  exact PySem.W.kia_one PySem.W.kitx_list I.kIn ⟨_,h1,rfl⟩ e (λz=>nomatch z) h
 | @frz a ob xs ea=>
  cases (show u=Value.ref a from rx)
  obtain⟨_,_,_,n,_,h1⟩:=(show bT X.prog X.w H s.heap a (.frz ob (.lst xs)) from I.hok a _ ea)
  exact PySem.W.kia_one PySem.W.kitx_list I.kIn ⟨_,h1,rfl⟩ e (λz=>nomatch z) h
 | @tup a xs ea=>
  cases (show u=Value.ref a from rx)
  obtain⟨_,_,_,p⟩:=(show bT X.prog X.w H s.heap a (.tup xs) from I.hok a _ ea)
  obtain⟨o,h1,h2,_⟩:=p
  exact PySem.W.kia_one PySem.W.kitx_tuple I.kIn ⟨o,h1,h2⟩ e (λz=>nomatch z) h
 | @dK a kvs ea=>
  cases (show u=Value.ref a from rx)
  obtain⟨_,_,vs,_,p⟩:=(show bT X.prog X.w H s.heap a (.dK kvs) from I.hok a _ ea)
  obtain⟨o,es,ep,h1,h2,_⟩:=p
  exact PySem.W.kia_one PySem.W.kitx_dict I.kIn ⟨o,h1,h2.1⟩ e (λz=>nomatch z) h
 | @dT a kvs ea=>
  cases (show u=Value.ref a from rx)
  obtain⟨_,_,xs,_,o,es,ep,h1,h2,_⟩:=(show bT X.prog X.w H s.heap a (.dT kvs) from I.hok a _ ea)
  exact PySem.W.kia_one PySem.W.kitx_dict I.kIn ⟨o,h1,h2.1⟩ e (λz=>nomatch z) h
 | @ins a C dx fs ea cl ha hn htk hm=>
  cases (show u=Value.ref a from rx)
  obtain⟨mA,O,_⟩:=Q1 I.hok ea
  obtain⟨od,J,_⟩:=O.look
  exact PySem.W.kia_one (PySem.W.kitx_own (cl.get _) cl.hd ha hn htk hm) I.kIn J e (λz=>nomatch z) h
end
structure Room(k:Nat)(A:Around):Prop where
 hd:A.handled=none
 dp:A.depth+3*k+5<recursionLimit
 un:A.units+16*k+200<cLine
 gd:A.guards=some []:=by rfl
theorem Room.mono{j k:Nat}{A:Around}(r:Room k A)(h:j<=k):Room j A:=⟨r.hd,by have:=r.dp;omega,by have:=r.un;omega,r.gd⟩
theorem Room.deeper{k:Nat}{A:Around}(r:Room (k+1) A)(env:Env):Room k (A.deeper env):=
 ⟨r.hd,by have:=r.dp;show A.depth+1+3*k+5<_;omega,by have:=r.un;show A.units+3+16*k+200<_;omega,r.gd⟩
theorem Room.depth{k:Nat}{A:Around}(r:Room k A):A.depth<recursionLimit:=by have:=r.dp;omega
theorem Room.units{k:Nat}{A:Around}(r:Room k A):A.units+64<cLine:=by have:=r.un;omega
def NB:TA:=λ_ H Q=>Q [] H
def BK(ta:TE)(tr:TA):TA:=λσ H Q=>ta σ H λx H1=>tr σ H1 λxs H2=>Q (x::xs) H2
section
variable{X:Cx}{e:Expr}{es:List Expr}{te:TE}{t:TA}{pos:Pos}
theorem gR:PA X [] NB:=λ_ _ _ _ H Q I h=>Calls.spliced_nil ⟨[],H,I,.nil,h⟩
theorem dP(ha:PE X e te)(hr:PA X es t)(hs:starEach (e::es) X.env=(false,eval e X.env)::starEach es X.env:=by rfl):PA X (e::es) (BK te t):=by
 intro pos pins s σ H Q I h
 rw[hs]
 show wpAny _ _ (spliced ((false,eval e X.env)::backTo pos (starEach es X.env))) _ _ s
 refine Calls.spliced_cons (cH (ha pins s σ H _ I h) λu s1 ⟨x,H1,I1,r1,q1⟩=>?_)
 exact cH (hr pos pins s1 σ H1 _ I1 q1) λus s2 ⟨xs,H2,I2,r2,q2⟩=>⟨x::xs,H2,I2,.cons r1 r2,q2⟩
def a3E(t:TA):TE:=λσ H Q=>t σ H λxs H1=>xs.length<=sizeLine/\∀p,H1 p=none->Q (.ref p) (b7 H1 p (.tup xs))
def S6(t:TA):TE:=λσ H Q=>t σ H λxs H1=>xs.length<=sizeLine/\∀p,H1 p=none->Q (.ref p) (b7 H1 p (.lst xs))
theorem X6{x1}(h:PA X es t):PE X (.Tuple es x1 pos) (a3E t):=by
 intro pins s σ H Q I hq
 refine wpAny_Tuple_spliced (cH (h pos pins s σ H _ I hq) λus s1 ⟨xs,H1,I1,r,z,q⟩=>⟨by rw[<- r.length];exact z,?_⟩)
 have hf:H1 s1.heap.objs.size=none:=I1.hok.fresh (Nat.le_refl _)
 refine⟨.ref s1.heap.objs.size,b7 H1 s1.heap.objs.size (.tup xs),I1.laid (t':=s1.toks) (λb u e=>a0e _ e) (Nat.le_refl _) ?_,rfl,q _ hf⟩
 exact⟨z,us,r,⟨_,Heap.get?_push_size _ rfl,rfl,_,rfl⟩⟩
theorem DC(h:PA X es t):PE X (.List es pos) (S6 t):=by
 intro pins s σ H Q I hq
 refine wpAny_List_spliced (cH (h pos pins s σ H _ I hq) λus s1 ⟨xs,H1,I1,r,z,q⟩=>⟨by rw[<- r.length];exact z,?_⟩)
 have hf:H1 s1.heap.objs.size=none:=I1.hok.fresh (Nat.le_refl _)
 refine⟨.ref s1.heap.objs.size,b7 H1 s1.heap.objs.size (.lst xs),I1.laid (t':=s1.toks) (λb u e=>a0e _ e) (Nat.le_refl _) ?_,rfl,q _ hf⟩
 exact⟨z,us,0,r,Heap.get?_push_size _ rfl⟩
end
abbrev Sp:=List V->Hp->VK->XK->Prop
abbrev J2:=List Env->Hp->Ab->XK->Value->Ab->Prop
structure Env0(P:Program)(w:World)(K:PySem.W.Frag)(mg:Str->Option Value)(base:Heap)(A:Around)(outer:List Env)(s:Shared)(H:Hp):Prop where
 frames:A.frames=some outer
 mod:Mod K mg base
 bs:∀b o,base.get? b=some o->s.heap.get? b=some o/\H b=none
 bsz:base.objs.size<=s.heap.objs.size
 funs:s.heap.FunFrames base outer
 frf:∀b∈KJ outer,H b=none
 hok:lL P w H s.heap
 bare:AllBare s.gens
 tb:∀b∈base.life.registered,H b=some .tbl
def CE(outer:List Env)(P:Program)(w:World)(H:Hp)(s:Shared)(Q:VK)(u:Value)(s':Shared):Prop:=
 ∃v H',s'.os=s.os/\(AllBare s'.gens/\GX s.gens s'.gens)/\Un (KJ outer) [] H H' s.heap s'.heap/\lL P w H' s'.heap/\bA v u/\Q v H'
def CR(CX:J2)(outer:List Env)(P:Program)(w:World)(H:Hp)(s:Shared)(Q:VK)(E:XK)(r:Result)(s':Shared):Prop:=
 match r with
 |.ok (.ret u)=>CE outer P w H s Q u s'
 |.ok _=>False
 |.error e=>CX outer H s E e s'
structure FnOk (P:Program) (w:World) (K:PySem.W.Frag) (mg:Str->Option Value) (base:Heap) (CX:J2) (k:Nat) (f:Addr) (fd:FuncData) (ps:List Str) (sp:Sp):Prop where
 len:∀vs H Q E,sp vs H Q E->vs.length=ps.length
 run:∀(A:Around) (outer:List Env) (s:Shared) (H:Hp) (args:Args) (us:List Value) (vs:List V) (Q:VK) (E:XK),Room k A->Env0 P w K mg base A outer s H->BindsTo s fd args (ps.zip us)->aV vs us->sp vs H Q E->
  codeAny (model P w) A (.call (.ref f) args) (CR CX outer P w H s Q E) s
theorem FnOk.imp {P:Program} {w:World} {K:PySem.W.Frag} {mg:Str->Option Value} {base:Heap} {CX:J2} {k:Nat} {f:Addr} {fd:FuncData} {ps:List Str} {sp sp':Sp} (F:FnOk P w K mg base CX k f fd ps sp)
  (h:∀vs H Q E,sp' vs H Q E->sp vs H Q E):FnOk P w K mg base CX k f fd ps sp':=
 ⟨λvs H Q E q=>F.len vs H Q E (h _ _ _ _ q),λA outer s H args us vs Q E hr he hb hv hs=>F.run A outer s H args us vs Q E hr he hb hv (h _ _ _ _ hs)⟩
section
variable{X:Cx}{pins:List (Ac×Obj)}{σ:St}{H:Hp}{s s':Ab}
theorem Inv.env0(I:Inv X pins σ H s):Env0 X.prog X.w X.K X.mg X.base X.A X.stack s H:=
 ⟨I.ok.frames,I.ok.mod,I.bs,Nat.le_trans I.ok.bsz I.sz,I.stack,I.stkFree,I.hok,I.bare.1,I.tb⟩
theorem Inv.after{Q:VK}{u:Value}(I:Inv X pins σ H s)(h:CE X.stack X.prog X.w H s Q u s'):EP X pins σ Q u s':=by
 obtain⟨v,H',os,bare,un,hok,r,q⟩:=h
 obtain⟨hh,g,d,t,os'⟩:=s'
 obtain rfl:os'=s.os:=os
 exact⟨v,H',I.call (h':=hh) (g':=g) (d':=d) (t':=t) (ch:=[]) un hok bare (λb z=>absurd z (by simp)),r,q⟩
end
def TQ(sp:Sp)(dvs:List V)(E:XK)(t:TA):TE:=λσ H Q=>t σ H λvs H1=>sp (vs++dvs) H1 Q E
def uW(K:PySem.W.Frag)(fd:FuncData)(ps:List Str)(ds:List Value):Prop:=
 ∀(s:Ab) (us:List Value),K.In s.heap->(us++ds).length=ps.length->BindsTo s fd ⟨us,[]⟩ (ps.zip (us++ds))
theorem uW.all{K:PySem.W.Frag}{fd:FuncData}{ps:List Str}(h:∀us:List Value,us.length=ps.length->bindArgs fd ⟨us,[]⟩=pure (ps.zip us)):uW K fd ps []:=λs us _ hl=>by
 rw[List.append_nil] at hl ⊢
 exact .of_eq (h us hl)
def C5(CX:J2)(X:Cx)(E:XK):Prop:=∀(pins:List (Ac×Obj)) (σ:St) (H:Hp) (s:Ab) (e:Value) (s':Ab),Inv X pins σ H s->CX X.stack H s E e s'->X.xe e s'
section
variable{X:Cx}{CX:J2}{k:Nat}{f C:Ac}{fd:FuncData}{ps:List Str}{sp:Sp}{dvs:List V}{ds:List Value}{E:XK}{x m:Str}{p pos apos:Pos}{e o:Expr}{es:List Expr}{ta:TE}{t:TA}
theorem Y2 {pins:List (Addr×Obj)} {σ:St} {H:Hp} {s:Shared} {Q:VK} {us:List Value} {vs:List V} (F:FnOk X.prog X.w X.K X.mg X.base CX k f fd ps sp) (hr:Room k X.A) (hb:uW X.K fd ps ds) (hd:aV dvs ds) (hx:C5 CX X E)
  (I:Inv X pins σ H s) (r:aV vs us) (h:sp (vs++dvs) H Q E):wpAny (model X.prog X.w) X.A (call (.ref f) us) (EP X pins σ Q) X.xe s:=by
 have r2:aV (vs++dvs) (us++ds):=r.append hd
 have hl:(us++ds).length=ps.length:=by rw[<- r2.length];exact F.len _ _ _ _ h
 refine wpAny_call (codeAny_mono (F.run X.A X.stack s H ⟨us,[]⟩ (us++ds) (vs++dvs) Q E hr I.env0 (hb s us I.kIn hl) r2 h) λr s' hq=>?_)
 cases r with
 |error e=>exact hx pins σ H s e s' I hq
 | ok fl=>
  cases fl with
  |ret u=>exact I.after hq
  |next=>exact False.elim hq
  |brk=>exact False.elim hq
  |cont=>exact False.elim hq
theorem R0 (F:FnOk X.prog X.w X.K X.mg X.base CX k f fd ps sp) (hr:Room k X.A) (hg:Gl X x) (hm:X.mg x=some (.ref f)) (hk:PySem.W.keepIn X.K (.ref f)=true) (hb:uW X.K fd ps ds) (hd:aV dvs ds) (hx:C5 CX X E)
  (ha:PA X (e::es) t) (hdb:(x==("__debug__" : Str))=false:=by decide) (he:starEach (e::es) X.env=(false,eval e X.env)::starEach es X.env:=by rfl) (hpl:(backTo pos (starEach es X.env)).any (·.1)=false:=by rfl) :
  PE X (.Call (.Name x p) (e::es) [] pos) (TQ sp dvs E t):=by
 intro pins s σ H Q I h
 refine wpAny_Call_Name_kw (QB I hg hm ?_ hdb)
 refine PySem.W.callWith_K (h₀:=X.base) I.ok.mod.kin hk (cH (ha pos pins s σ H _ I h) λus s1 ⟨vs,H1,I1,r,q⟩=>⟨I1.kIn,?_⟩) he hpl
 exact Y2 F hr hb hd hx I1 r q
end
structure FnScope(N P:List Str)(sc:Scope):Prop where
 kind:sc.kind= .function
 co:sc.isCoroutine=false
 gen:sc.isGenerator=false
 nd:N.Nodup
 pre:N.take P.length=P
 par:∀x∈P,sc.names.lookup x=some .local\/sc.names.lookup x=some .cell
 nofree:∀y∈sc.names,y.2≠ .free
theorem v7 {kindOf:Str->Option NameKind} {x:Str}:∀ {binds:List (Str×Value)} {m:Str->Option Value},(∀v,(x,v)∉binds)->bindL kindOf binds m x=m x
 |[],_,_=>rfl
 | (n,v)::r,m,h=>by
  unfold bindL
  rw[v7 λw hw=>h w (List.mem_cons_of_mem _ hw)]
  split
  ·have:x≠n:=by rintro rfl;exact h v List.mem_cons_self
   simp[this]
  ·rfl
theorem v5 {kindOf:Str->Option NameKind} {x:Str}:∀ {binds:List (Str×Value)} {m:Str->Option Value},(∀v,(x,v)∉binds)->bindC kindOf binds m x=m x
 |[],_,_=>rfl
 | (n,v)::r,m,h=>by
  unfold bindC
  rw[v5 λw hw=>h w (List.mem_cons_of_mem _ hw)]
  split
  ·rfl
  ·have:x≠n:=by rintro rfl;exact h v List.mem_cons_self
   simp[this]
theorem v6 {kindOf:Str->Option NameKind} {x:Str} {v:Value}:∀ {P:List Str} {vs:List Value} {i:Nat} {m:Str->Option Value},P.Nodup->P[i]? =some x->vs[i]? =some v->kindOf x=some .local->
  bindL kindOf (P.zip vs) m x=some v
 |[],_,_,_,_,h,_,_=>by simp at h
 |_::_,[],_,_,_,_,h,_=>by simp at h
 | p::P,w::vs,0,m,nd,h1,h2,hk=>by
  simp at h1 h2;subst h1;subst h2
  show bindL kindOf ((p,w)::P.zip vs) m p=_
  unfold bindL
  rw[v7 λv hv=>(List.nodup_cons.mp nd).1 (List.of_mem_zip hv).1,if_pos hk]
  simp
 | p::P,w::vs,i+1,m,nd,h1,h2,hk=>by
  show bindL kindOf ((p,w)::P.zip vs) m x=_
  unfold bindL
  exact v6 (i:=i) (List.nodup_cons.mp nd).2 (by simpa using h1) (by simpa using h2) hk
theorem uZ {kindOf:Str->Option NameKind} {x:Str} {v:Value}:∀ {P:List Str} {vs:List Value} {i:Nat} {m:Str->Option Value},P.Nodup->P[i]? =some x->vs[i]? =some v->kindOf x≠some .local->
  bindC kindOf (P.zip vs) m x=some v
 |[],_,_,_,_,h,_,_=>by simp at h
 |_::_,[],_,_,_,_,h,_=>by simp at h
 | p::P,w::vs,0,m,nd,h1,h2,hk=>by
  simp at h1 h2;subst h1;subst h2
  show bindC kindOf ((p,w)::P.zip vs) m p=_
  unfold bindC
  rw[v5 λv hv=>(List.nodup_cons.mp nd).1 (List.of_mem_zip hv).1,if_neg hk]
  simp
 | p::P,w::vs,i+1,m,nd,h1,h2,hk=>by
  show bindC kindOf ((p,w)::P.zip vs) m x=_
  unfold bindC
  exact uZ (i:=i) (List.nodup_cons.mp nd).2 (by simpa using h1) (by simpa using h2) hk
def start(N:List Str)(vs:List V):St:=vs.map some++List.replicate (N.length-vs.length) none
def cT(CX:J2)(P:Program)(w:World)(K:PySem.W.Frag)(mg:Str->Option Value)(base:Heap)(N:List Str)(qual:Str)(scope:Scope)(f:Addr)(cd:Value)(A:Around)(outer:List Env)(s:Shared)(H:Hp)(E:XK):Cx where
 prog:=P
 w:=w
 K:=K
 mg:=mg
 base:=base
 A:=A.deeper (envOfC qual scope s.heap.objs.size f cd)
 N:=N
 s₀:=s
 H₀:=H
 env:=envOfC qual scope s.heap.objs.size f cd
 outer:=outer
 stack:=envOfC qual scope s.heap.objs.size f cd::outer
 ex:=[]
 calm:=true
 fn:=λ_=>true
 pn:=[]
 xe:=λe s'=>wpAny (model P w) (A.deeper (envOfC qual scope s.heap.objs.size f cd)) (leaving (envOfC qual scope s.heap.objs.size f cd) e) (λ_ s''=>CX outer H s E e s'') (λe' s''=>CX outer H s E e' s'') s'
theorem zV{sc:Scope}{n:Nat}{x:Str}(h:sc.names.lookup x=some .cell):∃c,(cellsFrom n sc.names []).lookup x=some c:=by
 have q:=PySem.W.cellsFrom_some sc.names n [] (.inl h)
 exact Option.isSome_iff_exists.mp q
theorem HB {CX:J2} {P:Program} {w:World} {K:PySem.W.Frag} {mg:Str->Option Value} {base:Heap} {N ps:List Str} {qual:Str} {scope:Scope} {f:Addr} {cd:Value} {A:Around} {outer:List Env} {s s1:Shared} {H:Hp} {E:XK} {us:List Value} {vs:List V}
  (S:FnScope N ps scope) (hd:A.handled=none) (e0:Env0 P w K mg base A outer s H) (hl:vs.length=ps.length) (r:aV vs us)
  (x:InCallC s s.heap.objs.size (bindL (envOfC qual scope s.heap.objs.size f cd).kindOf (ps.zip us) λ_=>none) (cellsFrom (s.heap.objs.size+1) scope.names []) (bindC (envOfC qual scope s.heap.objs.size f cd).kindOf (ps.zip us) λ_=>none) s1) :
  Inv (cT CX P w K mg base N qual scope f cd A outer s H E) [] (start N vs) H s1:=by
 have hpl:ps.length<=N.length:=by have:=congrArg List.length S.pre;rw[List.length_take] at this;omega
 obtain⟨h1,tk,rfl,hk⟩:=x.done
 have noA:∀b:Ac,b∉(cT CX P w K mg base N qual scope f cd A outer s H E).ex:=λb z=>absurd (show b∈([]:List Ac) from z) (by simp)
 refine ⟨⟨e0.mod,S.kind,rfl,rfl,Nat.le_refl _,λy z c h1 h2=>?_,λy hy=>?_,λy c _ h=>?_,λ_=>hd,Around.frames_deeper e0.frames,.inr ⟨rfl,rfl⟩,λb z=>absurd z (noA b),e0.bs,e0.bsz,λb _ _=>noA b,λb z=>absurd z (noA b),e0.funs,e0.frf,e0.tb⟩,
  rfl,⟨e0.bare,λ_ _ e=>e⟩,Un.kept hk,⟨_,x.toInCall.ns,λi y v h1 h2 h3=>?_⟩,λy c h=>⟨_,x.cell y c h⟩,e0.hok.fresh (Nat.le_refl _),λy c h=>?_,λp hp=>absurd (show p∈([]:List (Ac×Obj)) from hp) (by simp),e0.hok.kept hk,?_⟩
 ·exact name_of_addr x.apart (PySem.mem_of_lookup h1) (PySem.mem_of_lookup h2)
 ·have hy:scope.names.lookup y=some .cell\/scope.names.lookup y=some .free:=hy
  rcases hy with hy|hy
  ·exact zV hy
  ·exact absurd rfl (S.nofree _ (PySem.mem_of_lookup hy))
 ·exact Nat.le_of_lt (x.above y c (PySem.mem_of_lookup h))
 ·have hi:i<vs.length:=by
   unfold start at h2
   by_cases hi:i<vs.length
   ·exact hi
   ·rw[List.getElem?_append_right (by simpa using hi)] at h2
    rw[List.getElem?_replicate] at h2
    split at h2<;>cases h2
  have ha:vs[i]? =some v:=by
   unfold start at h2
   rw[List.getElem?_append_left (by simpa using hi),List.getElem?_map] at h2
   cases e:vs[i]? with
   |none=>rw[e] at h2;cases h2
   |some a=>rw[e] at h2;cases h2;rfl
  obtain⟨u,hu,rv⟩:=r.get ha
  have hp:ps[i]? =some y:=by
   rw[<- S.pre,List.getElem?_take_of_lt (by omega)];exact h1
  have ndP:ps.Nodup:=by rw[<- S.pre];exact S.nd.sublist (List.take_sublist _ _)
  refine⟨u,rv,?_⟩
  rcases S.par y (List.mem_of_getElem? hp) with k|k
  ·exact .inl ⟨k,v6 ndP hp hu k⟩
  ·obtain⟨c,e⟩:=zV (n:=s.heap.objs.size+1) k
   refine .inr ⟨.inl k,c,e,?_⟩
   have q:=x.cell y c e
   rw[uZ ndP hp hu (by show scope.names.lookup y≠_;rw[k];decide)] at q
   exact q
 ·exact e0.hok.fresh (Nat.le_of_lt (x.above y c (PySem.mem_of_lookup h)))
 ·unfold start
  show _=N.length
  rw[List.length_append,a0f,List.length_replicate]
  omega
theorem ZX {CX:J2} {P:Program} {w:World} {K:PySem.W.Frag} {mg:Str->Option Value} {base:Heap} {k:Nat} {f:Addr} {name qual:Str} {params:Arguments} {body:List Stmt} {scope:Scope} {dV kV doc pm cdv ct oc:Value} {an od:Option Addr}
  {osl:Array (Option Value)} {N ps:List Str} {sp:Sp} (lk:K.lookup f=some ⟨oc,od,.func (PySem.W.fnOf name qual params body scope dV kV doc pm an cdv ct),osl⟩) (hcd:PySem.W.codeIn K cdv qual=true) (S:FnScope N ps scope)
  (len:∀vs H Q E,sp vs H Q E->vs.length=ps.length)
  (hbody:∀(A:Around) (outer:List Env) (s:Shared) (H:Hp) (vs:List V) (Q:VK) (E:XK),Room k (A.deeper (envOfC qual scope s.heap.objs.size f cdv))->sp vs H Q E->
   ∃t,uX (cT CX P w K mg base N qual scope f cdv A outer s H E) body t/\t {nx:=λ_ H'=>Q .non H',rt:=Q} (start N vs) H) :
  FnOk P w K mg base CX (k+1) f (PySem.W.fnOf name qual params body scope dV kV doc pm an cdv ct) ps sp:=by
 refine⟨len,λA outer s H args us vs Q E hr e0 hb r hsp=>?_⟩
 have hl:=len _ _ _ _ hsp
 have KX:K.In s.heap:=e0.mod.kin.keeps λb o e=>(e0.bs b o e).1
 have lim:s.heap.NoLimit:=e0.mod.nolimit.keeps λb o e=>(e0.bs b o e).1
 have hkind:∀y∈ps.zip us,scope.names.lookup y.1=some .local\/(scope.names.lookup y.1=some .cell/\((cellsFrom (s.heap.objs.size+1) scope.names []).lookup y.1).isSome=true):=λ⟨n,v⟩ hy=>by
  rcases S.par n (List.of_mem_zip hy).1 with q|q
  ·exact .inl q
  ·exact .inr ⟨q,PySem.W.cellsFrom_some _ _ _ (.inl q)⟩
 refine codeAny_call_function hr.depth (KX _ _ lk) rfl S.co S.gen rfl (PySem.W.codeRec_of KX hcd) (hb _ _ _ _ ?_)
 refine wpAny_newFunctionEnv_cells S.kind hkind λenv he s1 x=>?_
 subst he
 refine⟨lim.keeps x.toInCall.keep,codeAny_func ?_⟩
 obtain⟨t,ht,hq⟩:=hbody A outer s H vs Q E (hr.deeper _) hsp
 have I:Inv (cT CX P w K mg base N qual scope f cdv A outer s H E) [] (start N vs) H s1:=HB S hr.hd e0 hl r x
 refine wpAny_mono (ht [] s1 (start N vs) H _ I hq) (λfl s' hs=>?_) λe s' hs=>hs
 have fin:∀ {σ':St} {H':Hp} {v:V} {u:Value},Inv (cT CX P w K mg base N qual scope f cdv A outer s H E) [] σ' H' s'->bA v u->Q v H'->CE outer P w H s Q u s':=
  fun {σ' H' v u} J rv q=>⟨v,H',J.os,J.bare,J.base,J.hok,rv,q⟩
 cases fl with
 | ret u=>
  obtain⟨v,σ',H',J,rv,q⟩:=hs
  exact fin J rv q
 | next=>
  obtain⟨σ',H',J,q⟩:=hs
  exact fin (v:=V.non) (u:=Value.none) J rfl q
 | brk=>
  obtain⟨_,_,_,q⟩:=hs
  exact False.elim q
 | cont=>
  obtain⟨_,_,_,q⟩:=hs
  exact False.elim q
section
variable{X:Cx}{x:Str}{p pos:Pos}{e:Expr}{es:List Expr}{t:TA}{id T:String}{r:List V->Hp->VK->Prop}
def TN(r:List V->Hp->VK->Prop)(t:TA):TE:=λσ H Q=>t σ H λvs H1=>r vs H1 Q
theorem kN (hc:dI X (.builtin id) r) (hg:Gl X x) (hm:X.mg x=none) (hv:bootBuiltins x=some (.builtin id)) (ha:PA X (e::es) t) (hn:x≠ "__name__":=by decide) (hdb:(x==("__debug__" : Str))=false:=by decide)
  (he:starEach (e::es) X.env=(false,eval e X.env)::starEach es X.env:=by rfl) (hpl:(backTo pos (starEach es X.env)).any (·.1)=false:=by rfl):PE X (.Call (.Name x p) (e::es) [] pos) (TN r t):=by
 intro pins s σ H Q I h
 refine wpAny_Call_Name_kw (mE I hg hm hv ?_ hn hdb)
 exact PyProof.Rows.callWith_builtin1 (cH (ha pos pins s σ H _ I h) λus s1 ⟨vs,H1,I1,r1,q1⟩=>hc pins s1 σ H1 vs us Q I1 r1 q1) he hpl
theorem gF (hc:dI X (.type T) r) (hg:Gl X x) (hm:X.mg x=none) (hv:bootBuiltins x=some (.type T)) (ha:PA X (e::es) t) (hn:x≠ "__name__":=by decide) (hdb:(x==("__debug__" : Str))=false:=by decide)
  (he:starEach (e::es) X.env=(false,eval e X.env)::starEach es X.env:=by rfl) (hpl:(backTo pos (starEach es X.env)).any (·.1)=false:=by rfl):PE X (.Call (.Name x p) (e::es) [] pos) (TN r t):=by
 intro pins s σ H Q I h
 refine wpAny_Call_Name_kw (mE I hg hm hv ?_ hn hdb)
 exact PyProof.Rows.callWith_type1 (cH (ha pos pins s σ H _ I h) λus s1 ⟨vs,H1,I1,r1,q1⟩=>hc pins s1 σ H1 vs us Q I1 r1 q1) he hpl
end
end L2
namespace HT
open PySem PyProof.Rows
section
open PySem.SeqAt
open PySem.AutoSeq1 (wpAny_loadPart')
open PySem.MeetsSeq PySem.MeetsSeq2 PySem.MeetsSeq3
end
section
variable{prog:Program}{w:World}{A:Around}{E:Value->Ab->Prop}{s:Ab}
def sIx(n d:Nat):Option Int->Nat
 |none=>d
 |some v=>if v<0 then (v+(n:Int)).toNat else min v.toNat n
theorem sIx_none(n d:Nat):sIx n d none=d:=rfl
theorem sIx_le (n d:Nat) (hd:d<=n) (o:Option Int):sIx n d o<=n:=by
 cases o with
 |none=>exact hd
 | some v=>
  show (if v<0 then (v+(n:Int)).toNat else min v.toNat n)<=n
  by_cases hv:v<0
  ·rw[if_pos hv];omega
  ·rw[if_neg hv];exact Nat.min_le_right _ _
theorem clip_eq(v:Int)(n d:Nat):(if v<0 then max (v+(n:Int)) 0 else min v (n:Int))=((sIx n d (some v):Nat):Int):=by
 show (if v<0 then max (v+(n:Int)) 0 else min v (n:Int))=(((if v<0 then (v+(n:Int)).toNat else min v.toNat n):Nat):Int)
 by_cases hv:v<0
 ·simp only[if_pos hv];omega
 ·simp only[if_neg hv];omega
theorem adjust_gen (lo hi:Option Int) (n:Nat):Builtin.Slice.sliceAdjust lo hi 1 (n:Int)=(((sIx n 0 lo:Nat):Int),((sIx n n hi:Nat):Int)):=by
 have h1:¬((1:Int)<0):=by omega
 unfold Builtin.Slice.sliceAdjust
 simp only[h1,if_false]
 refine Prod.ext ?_ ?_
 ·cases lo with
  |none=>rfl
  |some v=>exact clip_eq v n 0
 ·cases hi with
  |none=>rfl
  |some v=>exact clip_eq v n n
theorem places_gen(i j:Nat):Builtin.Slice.slicePlaces (i:Int) (j:Int) 1=j-i:=by
 unfold Builtin.Slice.slicePlaces
 have h1:(1:Int)>0:=by omega
 simp only[h1,if_true,Int.ediv_one]
 split<;>omega
theorem slicePart_{v:Value}{o:Option Int}{Q:Option Int->Shared->Prop}(p:IsPart v o)(h:Q o s):wpAny (model prog w) A (Builtin.Slice.slicePartIndex v) Q E s:=by
 cases p with
 |none=>exact slicePart_none h
 |int i t=>exact slicePart_int h
theorem sliceApplied_gen {sl:Addr} {vl vu:Value} {lo hi:Option Int} {n:Nat} {Q:Int×Int×Nat->Shared->Prop} (hs:s.heap.IsSliceOf sl vl vu .none) (pl:IsPart vl lo) (pu:IsPart vu hi)
  (h:Q (((sIx n 0 lo:Nat):Int),1,sIx n n hi-sIx n 0 lo) s):wpAny (model prog w) A (Builtin.Slice.sliceApplied (.ref sl) (pure (n:Int))) Q E s:=by
 obtain⟨os,hos,hcs,hds⟩:=id hs
 unfold Builtin.Slice.sliceApplied Builtin.Slice.sliceFields
 refine a0b (a0b (wpAny_field hos hds (x:=vl) rfl (a0b (wpAny_field hos hds (x:=vu) rfl (a0b (wpAny_field hos hds (x:=.none) rfl (a0d ?_)))))))
 refine a0b (slicePart_none ?_)
 show wpAny _ _ (if ((1:Int)==0)=true then _ else _) _ _ s
 rw[if_neg (by decide)]
 refine a0b (slicePart_ pl (a0b (slicePart_ pu (a0b (a0d ?_)))))
 show wpAny _ _ (match Builtin.Slice.sliceAdjust lo hi 1 (n:Int) with|(lo,hi)=>pure (lo,(1:Int),Builtin.Slice.slicePlaces lo hi 1)) _ _ s
 rw[adjust_gen lo hi n]
 show wpAny _ _ (pure (((sIx n 0 lo:Nat):Int),(1:Int),Builtin.Slice.slicePlaces ((sIx n 0 lo:Nat):Int) ((sIx n n hi:Nat):Int) 1)) _ _ s
 rw[places_gen]
 exact a0d h
theorem pick_gen (xs:Array Value) (i k:Nat):((List.range k).filterMap λ(m:Nat)=>xs[((i:Int)+(m:Int)*1).toNat]?).toArray=((xs.toList.drop i).take k).toArray:=by
 have e:(λ(m:Nat)=>xs[((i:Int)+(m:Int)*1).toNat]?)=λm=>xs[i+m]?:=by
  funext m
  have:((i:Int)+(m:Int)*1).toNat=i+m:=by omega
  rw[this]
 rw[e]
 have:=pick_run xs i k
 rw[List.filterMap_map] at this
 have e2:((λx=>xs[x]?)∘λx=>i+x)=λm=>xs[i+m]?:=rfl
 rw[e2] at this
 rw[this]
theorem getItem_tuple_cut {t sl:Addr} {items:Array Value} {vl vu:Value} {lo hi:Option Int} {Q:Value->Shared->Prop} (ht:IsTup s.heap t items) (hs:s.heap.IsSliceOf sl vl vu .none) (pl:IsPart vl lo) (pu:IsPart vu hi)
  (hw:¬(sIx items.size 0 lo=0/\sIx items.size items.size hi=items.size))
  (h:Q (.ref s.heap.objs.size) {s with heap:=s.heap.push {cls:=.type "tuple",data:=.seq ((items.toList.drop (sIx items.size 0 lo)).take (sIx items.size items.size hi-sIx items.size 0 lo)).toArray} })
  (hsz:items.size<=sizeLine):wpAny (model prog w) A (getItem (.ref t) (.ref sl)) Q E s:=by
 have htake:sizeOk (.seq ((items.toList.drop (sIx items.size 0 lo)).take (sIx items.size items.size hi-sIx items.size 0 lo)).toArray):=by
  show ((items.toList.drop (sIx items.size 0 lo)).take (sIx items.size items.size hi-sIx items.size 0 lo)).toArray.size<=sizeLine
  rw[List.size_toArray,List.length_take,List.length_drop,Array.length_toList]
  omega
 have hj:sIx items.size items.size hi<=items.size:=sIx_le _ _ (Nat.le_refl _) hi
 obtain⟨os,hos,hcs,hds⟩:=id hs
 have hTs:s.TypeIs (.ref sl) "slice":=⟨os,hos,hcs⟩
 unfold getItem
 try with_reducible refine wpAny_holding ?_
 first|refine a0b (a0d ?_)|skip
 refine a0b (wpAny_sequenceKey ht.typeIs (by decide) ?_)
 refine a0b (wpAny_callSpecial?_slot (name:=Str.ofString "__getitem__") ht.typeIs PyProof.Rows.slot_tuple_getitem
  (wpAny_call_entry PyProof.Rows.slot_tuple_getitem ht.typeIs entry_tuple_getitem ?_ (args_tuple_getitem _ _)))
 show wpAny _ _ (Builtin.Tuple.tupleItemsOf (.ref t) >>=_) _ _ s
 refine a0b (tupleItemsOf_ ht ?_)
 refine a0b (wpAny_typeOf hTs ?_)
 rw[if_pos (by decide)]
 refine a0b (sliceApplied_gen hs pl pu ?_)
 have hno:¬((((sIx items.size 0 lo:Nat):Int)==0&&(1:Int)==1&&(sIx items.size items.size hi-sIx items.size 0 lo)==items.size)=true):=by
  intro q
  rw[Bool.and_eq_true,Bool.and_eq_true] at q
  have q1:((sIx items.size 0 lo:Nat):Int)=0:=eq_of_beq q.1.1
  have q2:sIx items.size items.size hi-sIx items.size 0 lo=items.size:=eq_of_beq q.2
  exact hw ⟨by omega,by omega⟩
 show wpAny _ _ (if (((sIx items.size 0 lo:Nat):Int)==0&&(1:Int)==1&&(sIx items.size items.size hi-sIx items.size 0 lo)==items.size)=true then _ else _) _ _ s
 rw[if_neg hno,pick_gen]
 first
  |exact a0b (m:=Builtin.Tuple.tupleExact _) (wpAny_newObj_type (a0d ⟨_,rfl,a0d h⟩) htake)
  |exact a0b (m:=Builtin.Tuple.tupleExact _) (wpAny_newObj_type (a0b (a0d (a0d ⟨_,rfl,a0d h⟩))) htake)
  |exact a0b (a0b (m:=Builtin.Tuple.tupleExact _) (wpAny_newObj_type (a0d (a0d ⟨_,rfl,a0d h⟩)) htake))
  |exact a0b (a0b (m:=Builtin.Tuple.tupleExact _) (wpAny_newObj_type (a0d ⟨_,rfl,a0d h⟩) htake))
end
end HT
namespace L2
open PySem PySem.Spec PyProof.Rows
abbrev TO:=St->Hp->(Option Int->Hp->Prop)->Prop
def PO (X:Cx) (e:Option Expr) (t:TO):Prop:=
 ∀ (pins:List (Addr×Obj)) (s:Shared) (σ:St) (H:Hp) (Q:Option Int->Hp->Prop),Inv X pins σ H s->t σ H Q->
  wpAny (model X.prog X.w) X.A (evalPart e X.env) (λu s'=>∃o H',Inv X pins σ H' s'/\IsPart u o/\Q o H') X.xe s
def S9:TO:=λ_ H Q=>Q none H
def a1G(t:TE):TO:=λσ H Q=>t σ H λx H1=>∃i,x= .int i/\Q (some i) H1
theorem mB {ns:List Int}:∀ {us:List Value},aV (ns.map V.int) us->IntsAre us ns:=by
 induction ns with
 |nil=>intro us r;rw[List.map_nil] at r;cases r;exact .nil
 | cons n ns ih=>
  intro us r
  rw[List.map_cons] at r
  cases r with
  | cons r1 r2=>
   obtain⟨t,e⟩:=r1
   subst e
   exact .cons n t (ih r2)
section
variable{X:Cx}{e:Expr}{te:TE}{lo hi:Option Expr}{tl th:TO}{pos p2:Pos}
theorem R9:PO X none S9:=by
 intro pins s σ H Q I h
 rw[evalPart_none]
 exact a0d ⟨none,H,I,.none,h⟩
theorem RA(h:PE X e te):PO X (some e) (a1G te):=by
 intro pins s σ H Q I hw
 rw[evalPart_some]
 refine cH (h pins s σ H _ I hw) λu s1 ⟨x,H1,I1,r1,q1⟩=>?_
 obtain⟨i,rfl,q⟩:=q1
 obtain⟨t,rfl⟩:=r1
 exact⟨some i,H1,I1,.int i t,q⟩
def ZD (X:Cx) (r:V->Option Int->Option Int->Hp->VK->Prop):Prop:=
 ∀ (pins:List (Addr×Obj)) (s:Shared) (σ:St) (H:Hp) (x:V) (v vl vu:Value) (lo hi:Option Int) (sl:Addr) (Q:VK),Inv X pins σ H s->bA x v->s.heap.IsSliceOf sl vl vu .none->IsPart vl lo->IsPart vu hi->r x lo hi H Q->
  ∃T id,typeLookup (.type T) "__getitem__"=pure (some (.builtin id))/\s.TypeIs v T/\wpAny (model X.prog X.w) X.A (getItem v (.ref sl)) (EP X pins σ Q) X.xe s
def a44(r:V->Option Int->Option Int->Hp->VK->Prop)(te:TE)(tl th:TO):TE:=λσ H Q=>te σ H λx H1=>tl σ H1 λl H2=>th σ H2 λu H3=>r x l u H3 Q
theorem M4{r:V->Option Int->Option Int->Hp->VK->Prop}(hr:ZD X r)(he:PE X e te)(hl:PO X lo tl)(hu:PO X hi th):PE X (.Subscript e (.Slice lo hi none p2) pos) (a44 r te tl th):=by
 intro pins s σ H Q I h
 refine Subscript_ (cH (he pins s σ H _ I h) λv s1 ⟨x,H1,I1,r1,q1⟩=>?_)
 refine wpAny_Slice (cH (hl pins s1 σ H1 _ I1 q1) λvl s2 ⟨l,H2,I2,pl,q2⟩=>cH (hu pins s2 σ H2 _ I2 q2) λvu s3 ⟨u,H3,I3,pu,q3⟩=>?_)
 rw[evalPart_none]
 refine a0d ?_
 have I4:Inv X pins σ H3 {s3 with heap:=s3.heap.push {cls:=.type "slice",data:=.fields #[vl,vu,.none]} }:=I3.kept (t':=s3.toks) λb ob q=>a0e _ q
 obtain⟨T,id,hT,ht,hg⟩:=hr pins {s3 with heap:=s3.heap.push {cls:=.type "slice",data:=.fields #[vl,vu,.none]} } σ H3 x v vl vu l u s3.heap.objs.size Q I4 r1 (Heap.IsSliceOf.new ..) pl pu q3
 show wpAny (model X.prog X.w) X.A (subscriptTail e (.Slice lo hi none p2) v (.ref s3.heap.objs.size)) (EP X pins σ Q) X.xe {s3 with heap:=s3.heap.push {cls:=.type "slice",data:=.fields #[vl,vu,.none]} }
 exact tail_any (ops:=[.ref s3.heap.objs.size,v]) ht hT hg (by with_unfolding_all rfl)
def A0(xs:List V)(lo hi:Option Int):List V:=(xs.drop (HT.sIx xs.length 0 lo)).take (HT.sIx xs.length xs.length hi-HT.sIx xs.length 0 lo)
theorem pJ(xs:List V)(lo hi:Option Int):(A0 xs lo hi).length<=xs.length:=by
 unfold A0
 rw[List.length_take,List.length_drop]
 omega
def a11(K:PySem.W.Frag):V->Option Int->Option Int->Hp->VK->Prop:=λx lo hi H Q=>∃a xs,x= .ref a/\d7 K H a xs/\
 ¬(HT.sIx xs.length 0 lo=0/\HT.sIx xs.length xs.length hi=xs.length)/\∀p,H p=none->Q (.ref p) (b7 H p (.tup (A0 xs lo hi)))
theorem YA:ZD X (a11 X.K):=by
 intro pins s σ H x v vl vu lo hi sl Q I rx hs pl pu h
 obtain⟨a,xs,rfl,hx,hw,q⟩:=h
 cases rx
 obtain⟨its,r,ht,hz⟩:=I.tuple hx
 have hlen:its.toArray.size=xs.length:=by rw[List.size_toArray];exact r.length.symm
 refine⟨"tuple",_,PyProof.Rows.slot_tuple_getitem.lookup,ht.typeIs,?_⟩
 refine HT.getItem_tuple_cut ht hs pl pu (by rw[hlen];exact hw) ?_ (by rw[hlen];exact hz)
 rw[hlen]
 refine⟨.ref s.heap.objs.size,_,I.laid (t':=s.toks) (o:=.tup (A0 xs lo hi)) (λb ob q=>a0e _ q) (Nat.le_refl _) ?_,rfl,q _ (I.hok.fresh (Nat.le_refl _))⟩
 exact⟨Nat.le_trans (pJ xs lo hi) hz,_,(r.drop (HT.sIx xs.length 0 lo)).take (HT.sIx xs.length xs.length hi-HT.sIx xs.length 0 lo),IsTup.new _ _⟩
end
def rZ(n:Nat)(i:Int):Option Nat:=if 0<=i then (if i<n then some i.toNat else none) else if -(n:Int)<=i then some (i+n).toNat else none
def iU{α:Type}(xs:List α)(i:Int):Option α:=(rZ xs.length i).bind λj=>xs[j]?
theorem EM {n:Nat} {i:Int} {j:Nat} (h:rZ n i=some j):seqIndex? i n=some j/\j<n/\-(n:Int)<=i/\i<n:=by
 unfold rZ at h
 by_cases h0:0<=i
 ·rw [if_pos h0] at h
  by_cases h1:i<n
  ·rw[if_pos h1] at h
   have e:i.toNat=j:=Option.some.inj h
   exact⟨by rw[seqIndex_of h0 h1,e],by omega,by omega,h1⟩
  ·rw[if_neg h1] at h;cases h
 ·rw [if_neg h0] at h
  by_cases h1:-(n:Int)<=i
  ·rw[if_pos h1] at h
   have e:(i+n).toNat=j:=Option.some.inj h
   exact⟨by rw[seqIndex_neg (by omega) h1,e],by omega,h1,by omega⟩
  ·rw[if_neg h1] at h;cases h
theorem wX {α:Type} {xs:List α} {i:Int} {v:α} (h:iU xs i=some v):∃j,seqIndex? i xs.length=some j/\xs[j]? =some v/\j<xs.length/\-(xs.length:Int)<=i/\i<xs.length:=by
 unfold iU at h
 cases e:rZ xs.length i with
 |none=>rw[e] at h;cases h
 | some j=>
  rw[e] at h
  obtain⟨h1,h2,h3,h4⟩:=EM e
  exact⟨j,h1,h,h2,h3,h4⟩
theorem OA {α:Type} {xs:List α} {j:Nat} {v:α} (h:xs[j]? =some v):iU xs (j:Int)=some v:=by
 have hj:j<xs.length:=(List.getElem?_eq_some_iff.mp h).1
 have e:rZ xs.length (j:Int)=some j:=by
  unfold rZ
  rw[if_pos (by omega),if_pos (by omega)];simp
 unfold iU;rw[e];exact h
theorem J6 {α:Type} (xs:List α) (v:α):iU (xs++[v]) (-1)=some v:=by
 have hl:(xs++[v]).length=xs.length+1:=by simp
 have e:rZ (xs++[v]).length (-1)=some xs.length:=by
  unfold rZ
  rw[hl,if_neg (by decide),if_pos (by omega)]
  congr 1
  omega
 unfold iU
 rw[e]
 show (xs++[v])[xs.length]? =some v
 simp
def O5(b:Expr):Prop:=∀o i,subscripted b false o i=operate [o,i] (getItem o i)
def J3 (X:Cx) (r:R2):Prop:=
 ∀ (value slice:Expr) (pins:List (Addr×Obj)) (s:Shared) (σ:St) (H:Hp) (x y:V) (v u:Value) (Q:VK),Inv X pins σ H s->bA x v->bA y u->r x y H Q->
  subscripted slice false v u=operate [v,u] (getItem v u)->wpAny (model X.prog X.w) X.A (subscriptTail value slice v u) (EP X pins σ Q) X.xe s
def a3I (X:Cx) (id:String) (r:V->List V->Hp->VK->Prop):Prop:=
 ∀ (pins:List (Addr×Obj)) (s:Shared) (σ:St) (H:Hp) (x:V) (xs:List V) (v:Value) (us:List Value) (Q:VK),Inv X pins σ H s->bA x v->aV xs us->r x xs H Q->
  wpAny (model X.prog X.w) X.A (call (.builtin id) (v::us)) (EP X pins σ Q) X.xe s
section
variable{X:Cx}{a b:Expr}{ta tb:TE}{pos:Pos}
theorem J3.or{r r':R2}(h:J3 X r)(h':J3 X r'):J3 X (λx y H Q=>r x y H Q\/r' x y H Q):=by
 intro value slice pins s σ H x y v u Q I rx ry q hs
 rcases q with q|q
 ·exact h value slice pins s σ H x y v u Q I rx ry q hs
 ·exact h' value slice pins s σ H x y v u Q I rx ry q hs
theorem EZ{r:R2}(hr:J3 X r)(ha:PE X a ta)(hb:PE X b tb)(hs:O5 b):PE X (.Subscript a b pos) (NC r ta tb):=by
 intro pins s σ H Q I h
 exact Subscript_ (U1 ha hb I h λv u s2 x y H2 I2 rx ry q=>hr a b pins s2 σ H2 x y v u Q I2 rx ry q (hs _ _))
def RP(K:Aa):R2:=λx y H Q=>∃p xs i v,x= .ref p/\y= .int i/\cS K H p xs/\iU xs i=some v/\Q v H
def a0X(K:Aa):R2:=λx y H Q=>∃p xs i v,x= .ref p/\y= .int i/\d7 K H p xs/\iU xs i=some v/\Q v H
def a0W:R2:=λx y H Q=>∃z i c,x= .str z/\y= .int i/\z.length<=sizeLine/\iU z.cps.toList i=some c/\Q (.str ⟨#[c]⟩) H
theorem xS:J3 X (RP X.K):=by
 intro value slice pins s σ H x y v u Q I rx ry h hs
 obtain⟨p,xs,i,z,rfl,rfl,hq,he,q⟩:=h
 cases rx
 obtain⟨t,rfl⟩:=ry
 obtain⟨its,r,pl,hz⟩:=I.list hq
 obtain⟨j,h1,h2,h3,h4,h5⟩:=wX he
 obtain⟨w,ew,rw'⟩:=r.get h2
 have hl:=r.length
 have hn:=mF
 have fin:EP X pins σ Q w s:=⟨z,H,I,rw',q⟩
 by_cases h0:0<=i
 ·have hj:i.toNat=j:=by
   rw[seqIndex_of h0 h5] at h1
   exact Option.some.inj h1
  exact item_listR pl.isList h0 (by omega) (by rw[hj];simpa using ew) fin hs
 ·have hj:(i+(its.toArray.size:Int)).toNat=j:=by
   rw[seqIndex_neg (by omega) h4] at h1
   rw[List.size_toArray,<- hl]
   exact Option.some.inj h1
  exact subscriptTail_builtinR (x:=w) pl.isList.typeIs slot_list_getitem.lookup
   (wpAny_getItem_list_neg (Q:=λr s'=>r=w/\EP X pins σ Q r s') pl.isList (by omega) (by rw[List.size_toArray]<;>omega) (by omega) (by rw[hj];simpa using ew) ⟨rfl,fin⟩) hs
theorem VR:J3 X (a0X X.K):=by
 intro value slice pins s σ H x y v u Q I rx ry h hs
 obtain⟨p,xs,i,z,rfl,rfl,hq,he,q⟩:=h
 cases rx
 obtain⟨t,rfl⟩:=ry
 obtain⟨its,r,pl,hz⟩:=I.tuple hq
 obtain⟨j,h1,h2,h3,h4,h5⟩:=wX he
 obtain⟨w,ew,rw'⟩:=r.get h2
 have hl:=r.length
 have hn:=mF
 have fin:EP X pins σ Q w s:=⟨z,H,I,rw',q⟩
 exact subscriptTail_builtinR (x:=w) pl.typeIs slot_tuple_getitem.lookup
  (getItem_tuple (j:=j) (Q:=λr s'=>r=w/\EP X pins σ Q r s') pl (by omega) (by omega) (by rw[List.size_toArray,<- hl];exact h1) (by simpa using ew) ⟨rfl,fin⟩) hs
theorem VQ:J3 X a0W:=by
 intro value slice pins s σ H x y v u Q I rx ry h hs
 obtain⟨z,i,c,rfl,rfl,hz,he,q⟩:=h
 obtain⟨t,rfl⟩:=rx
 obtain⟨t',rfl⟩:=ry
 obtain⟨j,h1,h2,h3,h4,h5⟩:=wX he
 have hl:z.cps.toList.length=z.length:=by simp[Str.length]
 rw[hl] at h1 h4 h5
 have hn:=mF
 exact tail_any (typeIs_str s z t) slot_str_getitem.lookup (getItem_str (c:=c) (by
  have e1:decide (i < -(2^63:Int))=false:=decide_eq_false (by omega)
  have e2:decide (i≥2^63)=false:=decide_eq_false (by omega)
  rw[e1,e2,Bool.or_false]) (by rw[h1];simpa using h2) ⟨.str ⟨#[c]⟩,H,I.tok _,⟨_,rfl⟩,q⟩) hs
def a3Q(K:Aa):R2:=λx y H Q=>RP K x y H Q\/a0X K x y H Q\/a0W x y H Q
theorem CQ:J3 X (a3Q X.K):=xS.or (VR.or VQ)
theorem CV(its:List Value)(n j:Nat)(u:Value):Obj.mapSeq (·.setIfInBounds j u) {cls:=.type "list",data:=.seq its.toArray n}={cls:=.type "list",data:=.seq (its.set j u).toArray n}:=by
 simp[Obj.mapSeq]
theorem Inv.lst {pins:List (Addr×Obj)} {σ:St} {H:Hp} {s:Shared} {p:Addr} {xs:List V} (I:Inv X pins σ H s) (h:H p=some (.lst xs)) :
  ∃(its:List Value) (n:Nat),aV xs its/\s.heap.get? p=some {cls:=.type "list",data:=.seq its.toArray n}/\xs.length<=sizeLine:=by
 obtain⟨z,its,n,r,e⟩:=I.hok p _ h
 exact⟨its,n,r,e,z⟩
theorem Inv.lstUpd {pins:List (Addr×Obj)} {σ:St} {H:Hp} {s:Shared} {p:Addr} {xs ys:List V} {its its':List Value} {n n':Nat} {f:Obj->Obj} (I:Inv X pins σ H s) (h:H p=some (.lst xs))
  (ho:s.heap.get? p=some {cls:=.type "list",data:=.seq its.toArray n}) (hf:f {cls:=.type "list",data:=.seq its.toArray n}={cls:=.type "list",data:=.seq its'.toArray n'}) (r:aV ys its') (hz:ys.length<=sizeLine) (t:Nat) :
  Inv X pins σ (b7 H p (.lst ys)) {s with heap:=s.heap.update p f,toks:=t}:=by
 have e:(s.heap.update p f).get? p=some {cls:=.type "list",data:=.seq its'.toArray n'}:=by
  rw[Heap.get?_update_self f ho (by rw[hf]<;>rfl),hf]
 refine I.write (x:=p) (e:=p) (by rw[h];trivial) (.inl rfl) (λb u hb q=>(Heap.get?_update_other _ _ (Ne.symm hb)).trans q) ⟨_,e⟩ ?_
 exact⟨hz,its',n',r,e⟩
def wH:V->V->V->Hp->(Hp->Prop)->Prop:=λo i v H Q=>∃p xs k j,o= .ref p/\i= .int k/\H p=some (.lst xs)/\rZ xs.length k=some j/\Q (b7 H p (.lst (xs.set j v)))
theorem oE:TY X wH:=by
 intro pins s σ H o i v ov iv u Q I ro ri rv h
 obtain⟨p,xs,k,j,rfl,rfl,hp,hj,q⟩:=h
 cases ro
 obtain⟨t,rfl⟩:=ri
 obtain⟨its,n,r,ho,hz⟩:=I.lst hp
 obtain⟨h1,h2,h3,h4⟩:=EM hj
 have hl:=r.length
 have hn:=mF
 have I':Inv X pins σ (b7 H p (.lst (xs.set j v))) {s with heap:=s.heap.update p (Obj.mapSeq (·.setIfInBounds j u))}:=
  I.lstUpd hp ho (CV its n j u) (r.set rv j) (by rw[List.length_set];exact hz) s.toks
 by_cases h0:0<=k
 ·have hk:k.toNat=j:=by
   rw[seqIndex_of h0 h4] at h1
   exact Option.some.inj h1
  exact PySem.W.ki_setAt ho h0 (by omega) (by rw[List.size_toArray,<- hl];exact h4) (by rw[hk];exact⟨_,I',q⟩)
 ·have hk:(k+(its.toArray.size:Int)).toNat=j:=by
   rw[seqIndex_neg (by omega) h3] at h1
   rw[List.size_toArray,<- hl]
   exact Option.some.inj h1
  exact PySem.W.ki_setBack ho (by omega) (by rw[List.size_toArray,<- hl];exact h3) (by omega) (by rw[hk];exact⟨_,I',q⟩)
theorem yS (lo hi:Option Int) (n:Nat):(sliceBounds lo hi none n).1=((HT.sIx n 0 lo:Nat):Int)/\(sliceBounds lo hi none n).2.1=((HT.sIx n n hi:Nat):Int)/\(sliceBounds lo hi none n).2.2=1:=by
 refine⟨?_,?_,rfl⟩
 ·cases lo with
  |none=>simp[sliceBounds,HT.sIx]
  | some i=>
   simp only[sliceBounds,HT.sIx,Option.getD_none,show (1:Int)>0 by decide,if_true]
   by_cases h:i<0
   ·simp only[h,if_true]<;>omega
   ·simp only[h,if_false]<;>omega
 ·cases hi with
  |none=>simp[sliceBounds,HT.sIx]
  | some i=>
   simp only[sliceBounds,HT.sIx,Option.getD_none,show (1:Int)>0 by decide,if_true]
   by_cases h:i<0
   ·simp only[h,if_true]<;>omega
   ·simp only[h,if_false]<;>omega
theorem uS(its:List Value)(lo hi:Option Int):slicePick its.toArray lo hi none=((its.drop (HT.sIx its.length 0 lo)).take (HT.sIx its.length its.length hi-HT.sIx its.length 0 lo)).toArray:=by
 obtain⟨h1,h2,h3⟩:=yS lo hi its.toArray.size
 unfold slicePick
 rw[h1,h2,h3]
 simp only[sliceRange_one,pick_run,List.size_toArray]<;>rfl
def a0Z(K:Aa):V->Option Int->Option Int->Hp->VK->Prop:=λx lo hi H Q=>∃a xs,x= .ref a/\cS K H a xs/\∀p,H p=none->Q (.ref p) (b7 H p (.lst (A0 xs lo hi)))
theorem RU:ZD X (a0Z X.K):=by
 intro pins s σ H x v vl vu lo hi sl Q I rx hs pl pu h
 obtain⟨a,xs,rfl,hx,q⟩:=h
 cases rx
 obtain⟨its,r,ht,hz⟩:=I.list hx
 have hlen:=r.length
 refine⟨"list",_,slot_list_getitem.lookup,ht.isList.typeIs,?_⟩
 refine wpAny_getItem_list_slice ht.isList hs pl pu .none (by simp) ?_ (by rw[List.size_toArray]<;>omega)
 rw[uS,<- hlen]
 refine⟨.ref s.heap.objs.size,_,I.laid (t':=s.toks) (o:=.lst (A0 xs lo hi)) (λb ob q=>a0e _ q) (Nat.le_refl _) ?_,rfl,q _ (I.hok.fresh (Nat.le_refl _))⟩
 exact⟨Nat.le_trans (pJ xs lo hi) hz,_,0,(r.drop (HT.sIx xs.length 0 lo)).take (HT.sIx xs.length xs.length hi-HT.sIx xs.length 0 lo),Heap.get?_push_size _ rfl⟩
theorem xH:dI X (.builtin "len") (λxs H Q=>∃p ys,xs=[.ref p]/\(cS X.K H p ys\/d7 X.K H p ys)/\Q (.int ys.length) H):=by
 intro pins s σ H xs us Q I r h
 obtain⟨p,ys,rfl,hq,q⟩:=h
 obtain⟨u,rfl,rx⟩:=kZ r
 cases rx
 have hn:=mF
 rcases hq with hq|hq
 ·obtain⟨its,r',pl,hz⟩:=I.list hq
  have hlen:=r'.length
  exact Calls.call_len_list pl.isList (by simp only[List.size_toArray]<;>omega) ⟨.int ys.length,H,I.tok _,⟨s.toks+1,by rw[List.size_toArray,hlen]⟩,q⟩
 ·obtain⟨its,r',pl,hz⟩:=I.tuple hq
  have hlen:=r'.length
  exact len_tuple pl (by simp only[List.size_toArray]<;>omega) ⟨.int ys.length,H,I.tok _,⟨s.toks+1,by rw[List.size_toArray,hlen]⟩,q⟩
theorem xI:dI X (.type "list") (λxs H Q=>∃p ys,xs=[.ref p]/\(cS X.K H p ys\/d7 X.K H p ys)/\∀l,H l=none->Q (.ref l) (b7 H l (.lst ys))):=by
 intro pins s σ H xs us Q I r h
 obtain⟨p,ys,rfl,hq,q⟩:=h
 obtain⟨u,rfl,rx⟩:=kZ r
 cases rx
 have fin:∀(its:List Value),aV ys its->ys.length<=sizeLine->∀(h':Heap) (c':Nat),(∀b o',s.heap.get? b=some o'->h'.get? b=some o')->
   h'.get? s.heap.objs.size=some {cls:=.type "list",dict:=none,data:=.seq its.toArray c',slots:=#[]}->EP X pins σ Q (.ref s.heap.objs.size) {s with heap:=h'}:=λits r' hz h' c' kp e=>
  ⟨.ref s.heap.objs.size,_,I.laid (t':=s.toks) kp (Nat.le_refl _) (show bT X.prog X.w _ h' _ (.lst ys) from ⟨hz,its,c',r',e⟩),rfl,q _ (I.hok.fresh (Nat.le_refl _))⟩
 rcases hq with hq|hq
 ·obtain⟨its,r',pl,hz⟩:=I.list hq
  have hlen:=r'.length
  obtain⟨o,ho,hc,n,hd⟩:=pl.isList
  exact call_list_seq p (.inl rfl) ho hc hd (λh' c' kp e=>fin its r' hz h' c' kp e) (by simp only[List.size_toArray]<;>omega)
 ·obtain⟨its,r',pl,hz⟩:=I.tuple hq
  have hlen:=r'.length
  obtain⟨o,ho,hc,n,hd⟩:=pl
  exact call_list_seq p (.inr rfl) ho hc hd (λh' c' kp e=>fin its r' hz h' c' kp e) (by simp only[List.size_toArray]<;>omega)
def a3F (K:PySem.W.Frag) (T:String) (x:V) (H:Hp):Prop:=match x with
 |.str _=>T="str"
 |.int _=>T="int"
 | .ref p=>(T="list"/\∃xs,cS K H p xs)\/(T="tuple"/\∃o,K.lookup p=some o/\o.cls= .type "tuple"/\o.dict=none)\/
   (T="dict"/\((∃kvs,H p=some (.dK kvs))\/∃kvs,H p=some (.dT kvs)))\/(T="set"/\∃S n,H p=some (.set S n))
 |_=>False
theorem YK {pins:List (Addr×Obj)} {σ:St} {H:Hp} {s:Shared} {T:String} {x:V} {v:Value} (I:Inv X pins σ H s) (r:bA x v) (ty:a3F X.K T x H) :
  s.TypeIs v T/\∀a,v= .ref a->∃ob,s.heap.get? a=some ob/\ob.dict=none:=by
 cases x with
 | str z=>
  obtain⟨t,rfl⟩:=r
  cases (show T="str" from ty)
  exact⟨typeIs_str s z t,λ_ e=>nomatch e⟩
 | int i=>
  obtain⟨t,rfl⟩:=r
  cases (show T="int" from ty)
  exact⟨typeIs_int s i t,λ_ e=>nomatch e⟩
 | ref p=>
  cases r
  rcases ty with ⟨rfl,xs,hq⟩|⟨rfl,o,hk,hc,hd⟩|⟨rfl,hk⟩|⟨rfl,S,n,hk⟩
  ·obtain⟨its,_,pl,_⟩:=I.list hq
   refine⟨pl.isList.typeIs,λa e=>?_⟩
   cases e
   obtain⟨o,n,e,c,hd,_⟩:=pl
   exact⟨o,e,hd⟩
  ·refine⟨⟨o,I.kIn p o hk,hc⟩,λa e=>?_⟩
   cases e
   exact⟨o,I.kIn _ o hk,hd⟩
  ·have z:∃o,s.heap.get? p=some o/\o.ExactDict:=by
    rcases hk with ⟨kvs,hk⟩|⟨kvs,hk⟩
    ·obtain⟨_,_,_,_,o,_,_,e,ex,_⟩:=I.hok p _ hk
     exact⟨o,e,ex⟩
    ·obtain⟨_,_,_,_,o,_,_,e,ex,_⟩:=I.hok p _ hk
     exact⟨o,e,ex⟩
   obtain⟨o,e,ex⟩:=z
   refine⟨⟨o,e,ex.1⟩,λa e2=>?_⟩
   cases e2
   exact⟨o,e,ex.2.1⟩
  ·obtain⟨o,_,_,_,e,ex,_⟩:=I.hok p _ hk
   refine⟨⟨o,e,ex.1⟩,λa e2=>?_⟩
   cases e2
   exact⟨o,e,ex.2.1⟩
 |_=>exact False.elim ty
def a41(K:Aa)(T:String)(r:V->List V->Hp->VK->Prop)(to:TE)(t:TA):TE:=λσ H Q=>to σ H λx H1=>a3F K T x H1/\t σ H1 λxs H2=>r x xs H2 Q
variable{o e:Expr}{es:List Expr}{to:TE}{t:TA}{name:Str}{apos cpos:Pos}{T id:String}{r:V->List V->Hp->VK->Prop}
theorem M0 (pa:PlainAttrs T) (slot:Slot T name id) (hty:typeOf (.builtin id)=pure (.type "method_descriptor")) (hm:a3I X id r) (ho:PE X o to) (ha:PA X (e::es) t)
  (hbase:attributeBase o name X.env (eval o X.env)=eval o X.env:=by rfl)
  (hfew:((backTo cpos (starEach (e::es) X.env)).all (λx=>!x.1)&&(backToKw cpos (keywordEach [] X.env)).all (λx=>x.1.isSome)
   &&decide ((e::es).length+([]:List Keyword).length+(if ([]:List Keyword).isEmpty then 0 else 1)<30))=true:=by rfl)
  (hline:(apos.endLine==cpos.line)=true:=by rfl) (hs:starEach (e::es) X.env=(false,eval e X.env)::starEach es X.env:=by rfl) (hplain:(backTo cpos (starEach es X.env)).any (·.1)=false:=by rfl) :
  PE X (.Call (.Attribute o name apos) (e::es) [] cpos) (a41 X.K T r to t):=by
 intro pins s σ H Q I h
 refine wpAny_Call_method_late hbase hfew hline rfl (cH (ho pins s σ H _ I h) λv s1 ⟨x,H1,I1,r1,ty,q1⟩=>?_)
 obtain⟨h1,h2⟩:=YK I1 r1 ty
 refine⟨T,id,pa,slot,hty,h1,h2,?_⟩
 have hA:=ha cpos pins s1 σ H1 _ I1 q1
 rw[hs] at hA ⊢
 refine Calls.callWith_builtin (by show (false||(backTo cpos (starEach es X.env)).any (·.1))=false;rw[hplain]<;>rfl) (Calls.evalArgs_plain ?_)
 exact cH hA λus s2 ⟨vs,H2,I2,r2,q2⟩=>hm pins s2 σ H2 x vs v us Q I2 r1 r2 q2
end
def a3H (X:Cx) (id:String) (r:V->List V->Hp->VK->Prop):Prop:=
 ∀ (pins:List (Addr×Obj)) (s:Shared) (σ:St) (H:Hp) (x:V) (xs:List V) (v:Value) (us:List Value) (Q:VK),Inv X pins σ H s->bA x v->aV xs us->r x xs H Q->
  wpAny (model X.prog X.w) X.A (call (.builtin id) (v::us)) (EP X pins σ Q) X.xe s
theorem aV.one:∀ {x:V} {us:List Value},aV [x] us->∃u,us=[u]/\bA x u
 |_,_,.cons r .nil=>⟨_,rfl,r⟩
theorem aV.eraseIdx:∀ {xs:List V} {us:List Value} (i:Nat),aV xs us->aV (xs.eraseIdx i) (us.eraseIdx i)
 |_,_,_,.nil=>.nil
 |_,_,0,.cons _ t=>t
 |_,_,i+1,.cons r t=>.cons r (aV.eraseIdx i t)
theorem aV.rep {xs:List V} {us:List Value} (h:aV xs us):∀k:Nat,aV (List.replicate k xs).flatten (List.replicate k us).flatten
 |0=>.nil
 | k+1=>by
  rw[List.replicate_succ,List.replicate_succ,List.flatten_cons,List.flatten_cons]
  exact aV.append h (aV.rep h k)
theorem vM{α:Type}:∀(l:List α) (i:Nat),(l.eraseIdx i).length<=l.length
 |[],_=>Nat.le_refl _
 |_::_,0=>Nat.le_succ _
 |_::r,i+1=>Nat.succ_le_succ (vM r i)
theorem vH (its:List Value):∀(k:Nat) (acc:List Value),
  List.foldl (λx1 x2=>x1++x2) acc.toArray (List.replicate k its.toArray)=(acc++(List.replicate k its).flatten).toArray
 |0,acc=>by simp
 | k+1,acc=>by
  have e:acc.toArray++its.toArray=(acc++its).toArray:=by simp
  have e2:(acc++its)++(List.replicate k its).flatten=acc++(List.replicate (k+1) its).flatten:=by
   rw[List.replicate_succ,List.flatten_cons,List.append_assoc]
  rw[<- e2,<- vH its k (acc++its),<- e,List.replicate_succ,List.foldl_cons]
section
variable{X:Cx}{pins:List (Ac×Obj)}{σ:St}{H:Hp}{s:Ab}{l b:Ac}{xs ys zs:List V}
theorem Inv.lset {its its':List Value} {n:Nat} {f:Array Value->Array Value} {t':Nat} (I:Inv X pins σ H s) (hH:H l=some (.lst xs))
  (e:s.heap.get? l=some {cls:=.type "list",data:=.seq its.toArray n}) (hf:f its.toArray=its'.toArray) (hv:aV ys its') (hz:ys.length<=sizeLine) :
  Inv X pins σ (b7 H l (.lst ys)) {s with heap:=s.heap.update l (Obj.mapSeq f),toks:=t'}:=by
 have q:=PySem.IsL.update e f
 rw[hf] at q
 refine I.write (x:=l) (e:=l) (by rw[hH];exact trivial) (.inl rfl) (λb' u hb hu=>(Heap.get?_update_other s.heap (Obj.mapSeq f) (Ne.symm hb)).trans hu) ⟨_,q⟩ ?_
 exact⟨hz,its',_,hv,q⟩
theorem Inv.lnew {its:List Value} {t':Nat} (I:Inv X pins σ H s) (hv:aV ys its) (hz:ys.length<=sizeLine) :
  Inv X pins σ (b7 H s.heap.objs.size (.lst ys)) {s with heap:=s.heap.push {cls:=.type "list",data:=.seq its.toArray},toks:=t'}:=
 I.laid (λ_ _ q=>a0e _ q) (Nat.le_refl _) ⟨hz,its,0,hv,Heap.get?_push_size _ rfl⟩
theorem Inv.fresh(I:Inv X pins σ H s):H s.heap.objs.size=none:=I.hok.fresh (Nat.le_refl _)
theorem Inv.lstM(I:Inv X pins σ H s)(hH:H l=some (.lst xs)):xs.length<=sizeLine/\∃(its:List Value) (n:Nat),aV xs its/\xs.length=its.length/\s.heap.get? l=some {cls:=.type "list",data:=.seq its.toArray n}:=by
 obtain⟨z,its,n,r,e⟩:=I.hok l _ hH
 exact⟨z,its,n,r,r.length,e⟩
theorem LI{n:Nat}(h:n<=sizeLine):Builtin.List.listTooLong n=false:=by
 unfold Builtin.List.listTooLong
 exact decide_eq_false (by omega)
end
section
variable{X:Cx}
def qX:V->List V->Hp->VK->Prop:=λx vs H Q=>∃l xs y,x= .ref l/\vs=[y]/\H l=some (.lst xs)/\xs.length<sizeLine/\Q .non (b7 H l (.lst (xs++[y])))
theorem oS:a3H X "list.append" qX:=by
 intro pins s σ H x vs v us Q I rx rv h
 obtain⟨l,xs,y,rfl,rfl,hH,hz,q⟩:=h
 cases rx
 obtain⟨u,rfl,ru⟩:=rv.one
 obtain⟨z,its,n,r,hl,e⟩:=I.lstM hH
 refine call_meets F.slot_list_append ⟨_,e,rfl⟩ F.entry_list_append (F.args_list_append_2 _ _) (PySem.list_append l its.toArray n u (by rw[List.size_toArray];omega)) ⟨e,?_⟩
 refine⟨.non,_,I.lset (its':=its++[u]) hH e (by simp) (r.append (.cons ru .nil)) ?_,rfl,q⟩
 rw[List.length_append,List.length_singleton]
 omega
def MR:V->List V->Hp->VK->Prop:=λx vs H Q=>∃l xs i k y,x= .ref l/\vs=[.int i]/\H l=some (.lst xs)/\-(2^63)<=i/\i<2^63/\seqIndex? i xs.length=some k/\xs[k]? =some y/\Q y (b7 H l (.lst (xs.eraseIdx k)))
theorem LD:a3H X "list.pop" MR:=by
 intro pins s σ H x vs v us Q I rx rv h
 obtain⟨l,xs,i,k,y,rfl,rfl,hH,h1,h2,hk,hy,q⟩:=h
 cases rx
 obtain⟨u,rfl,ru⟩:=rv.one
 obtain⟨t,rfl⟩:=ru
 obtain⟨z,its,n,r,hl,e⟩:=I.lstM hH
 obtain⟨w,hw,rw'⟩:=r.get hy
 refine call_meets F.slot_list_pop ⟨_,e,rfl⟩ F.entry_list_pop (F.args_list_pop_2 _ _)
  (MeetsSeq.list_pop_at l its.toArray n i t k w (fitsIndex_both h1 h2) (by rw[List.size_toArray,<- hl];exact hk) (by rw[<- Array.getElem?_toList];exact hw) (by rw[List.size_toArray];omega)) ⟨e,?_⟩
 refine⟨y,_,I.lset (its':=its.eraseIdx k) hH e ?_ (r.eraseIdx k) ?_,rw',q⟩
 ·show its.toArray.eraseIdxIfInBounds k=(its.eraseIdx k).toArray
  rw[List.eraseIdxIfInBounds_toArray]
 ·have:=vM xs k
  omega
def a2Y:R2:=λx y H Q=>∃l b xs zs,x= .ref l/\y= .ref b/\H l=some (.lst xs)/\H b=some (.lst zs)/\xs.length+zs.length<=sizeLine/\∀p,H p=none->Q (.ref p) (b7 H p (.lst (xs++zs)))
theorem WM:m8 X (binaryOp .Add) a2Y:=by
 intro pins s σ H x y v u Q I rx ry h
 obtain⟨l,b,xs,zs,rfl,rfl,hH,hB,hz,q⟩:=h
 cases rx
 cases ry
 obtain⟨z,its,n,r,hl,e⟩:=I.lstM hH
 obtain⟨z2,its2,n2,r2,hl2,e2⟩:=I.lstM hB
 refine PySem.P.add_list e e2 ?_ (by rw[List.size_toArray,List.size_toArray];omega)
 have ea:its.toArray++its2.toArray=(its++its2).toArray:=by simp
 rw[ea]
 exact⟨.ref _,_,I.lnew (t':=s.toks) (r.append r2) (by rw[List.length_append];omega),rfl,q _ I.fresh⟩
def a31:R2:=λx y H Q=>∃l k xs,x= .ref l/\y= .int k/\H l=some (.lst xs)/\-(2^63)<=k/\k<2^63/\xs.length*k.toNat<=sizeLine/\
 ∀p,H p=none->Q (.ref p) (b7 H p (.lst (List.replicate k.toNat xs).flatten))
theorem QK{α:Type}(xs:List α)(k:Nat):(List.replicate k xs).flatten.length=k*xs.length:=by
 induction k with
 |zero=>simp
 |succ k ih=>rw[List.replicate_succ,List.flatten_cons,List.length_append,ih,Nat.succ_mul,Nat.add_comm]
theorem WU:m8 X (binaryOp .Mult) a31:=by
 intro pins s σ H x y v u Q I rx ry h
 obtain⟨l,k,xs,rfl,rfl,hH,h1,h2,hz,q⟩:=h
 cases rx
 obtain⟨t,rfl⟩:=ry
 obtain⟨z,its,n,r,hl,e⟩:=I.lstM hH
 have hlen:its.toArray.size*k.toNat<=sizeLine:=by rw[List.size_toArray,<- hl];exact hz
 have hcap:¬its.toArray.size*k.toNat>(2^63-1) / 8:=by
  have:(sizeLine:Nat)<=(2^63-1) / 8:=by decide
  omega
 have hfit:¬(!Builtin.List.listFitsIndex k)=true:=by
  rw[fitsIndex_both h1 h2]
  exact Bool.false_ne_true
 have hlong:¬Builtin.List.listTooLong (its.toArray.size*k.toNat)=true:=by
  rw[LI hlen]
  exact Bool.false_ne_true
 have hnew:List.foldl (λx1 x2=>x1++x2) #[] (List.replicate (if its.toArray.isEmpty=true then 0 else k.toNat) its.toArray)=(List.replicate k.toNat its).flatten.toArray:=by
  have f0:∀m:Nat,List.foldl (λx1 x2=>x1++x2) #[] (List.replicate m its.toArray)=(List.replicate m its).flatten.toArray:=λm=>by
   have:=vH its m []
   rw[List.nil_append] at this
   exact this
  rw[f0]
  cases its with
  |nil=>simp
  |cons a r'=>rw[if_neg (by simp)]
 refine wpAny_binaryOp_repeat_ref (T:="list") (U:="int") (by decide) ⟨_,e,rfl⟩ (λs'=>typeIs_int s' k t) noFill_list_mul F.fills_int_mul F.slot_int_rmul repeat_list F.slot_int_index.lookup
  (call_meets F.slot_int_rmul (typeIs_int s k t) F.entry_int_rmul (F.args_int_rmul_2 _ _) (int___rmul___int_list k t l its.toArray n)
   ⟨e,rfl,⟨_,e,rfl⟩,call_meets F.slot_list_mul ⟨_,e,rfl⟩ F.entry_list_mul (F.args_list_mul_2 _ _) (AutoListH.list___mul___list_int_3 l its.toArray n k t hfit hcap hlong) ⟨e,?_⟩⟩)
 rw[hnew]
 exact⟨.ref _,_,I.lnew (t':=s.toks) (r.rep k.toNat) (by rw[QK,Nat.mul_comm];exact hz),rfl,q _ I.fresh⟩
end
end L2
namespace Att
open PySem PySem.W PySem.Calls PyProof.Rows
theorem ints_of_wellAll {P:Params} {h:Heap}:∀(ns:List Int) (vs:List Value),WellAll P h vs (ns.map WData.int)->IntsAre vs ns:=by
 intro ns
 induction ns with
 | nil=>
  intro vs w
  rw[List.map_nil] at w
  cases w
  exact .nil
 | cons n ns ih=>
  intro vs w
  rw[List.map_cons] at w
  cases w with
  | cons a b=>
   cases a
   exact .cons _ _ (ih _ b)
theorem script_of {l:OpenLaw} {n:Nat} (hn:l.most=some n) {P:Params} {h:Heap} {args:List WData} {vals:List Value}
  (hpre:l.row.toRowW.claim.pre args=true) (hwl:WellAll P h vals args) :
  ∃a vs ns,vals=[Value.ref a]/\args=[WData.list (ns.map WData.int)]/\h.get? a=some {cls:=.type "list",data:=.seq vs.toArray}/\IntsAre vs ns/\ns.length<=n:=by
 have hsh:WShape.hasAll [] args [.list .int]=true:=(pre_splitW hpre).1
 have hc:l.pre.holds [] {args:=args}=true:=(pre_splitW hpre).2
 obtain⟨d,r,rfl,h1,h2⟩:=hasAllW_cons hsh
 obtain rfl:=hasAllW_nil h2
 obtain⟨xs,rfl,h3⟩:=hasW_list h1
 obtain⟨ns,rfl⟩:=items_int h3
 have hlen:ns.length<=n:=by
  unfold OpenLaw.pre at hc
  have h4:(WTm.not (.lt (.lit (.int (n:Int))) (.len (.arg 0)))).holds [] {args:=[.list (ns.map .int)]}=true:=by
   have h4:=(holds_andW hc).1
   rw[hn] at h4
   exact h4
  have h5:=condW_of h4 (w_not (w_lt w_lit (w_len_list (w_arg rfl))))
  rw[a0f] at h5
  refine Nat.le_of_not_lt λq=>?_
  have q':(n:Int)<((ns.length:Nat):Int):=by omega
  first
   |(rw[decide_eq_true q'] at h5;exact absurd h5 (by decide))
   |(simp at h5;omega)
 cases hwl with
 | cons w1 w2=>
  cases w2
  cases w1 with
  |list ho hall=>exact⟨_,_,ns,rfl,rfl,ho,ints_of_wellAll ns _ hall,hlen⟩
theorem post_true (l:OpenLaw) (args:List WData):l.row.toRowW.claim.post args (.bool true) args=true:=
 postW_of (r:=l.row.toRowW) (X:=(true==true))
  (show WShape.has [] (.bool true) .bool=true by first|rfl|decide|simp[WShape.has,WShape.arms,WShape.armsAll])
  (show (WTm.eq .res (.lit (.bool true))).value [] {args:=args,res:=some (.bool true),after:=args}=some (.bool (true==true)) from w_eq_bool (w_res rfl) w_lit) rfl
theorem attach_call {l:OpenLaw} {n:Nat} {q:Program} {loose:List Str} {XP:(Str->Option Value)->Heap->Prop} {YP:World->Heap->Prop} {d:DefRec}
  (hn:l.most=some n) (hdf:d.params.defaults=[])
  (call:∀(w:World) (s₀ s₁:Shared) (mg mb:Str->Option Value) (fa:Addr) (o:Obj) (pm cd doc:Value) (a:Addr) (vs:List Value) (ns:List Int),
   Ground q loose [] XP w s₀ mg mb s₁.heap->YP w s₁.heap->
   s₁.heap.get? fa=some o->o.data= .func (docDef d.name d.params d.body d.scope pm cd doc)->s₁.heap.CodeRec cd d.name->mg d.name=some (.ref fa)->
   s₁.heap.get? a=some {cls:=.type "list",data:=.seq vs.toArray}->IntsAre vs ns->ns.length<=n->s₁.gens= #[]->
   codeAny (model l.prog w) callerA (.call (.ref fa) ⟨[.ref a],[]⟩) (λr s'=>r= .ok (.ret (.bool true))/\OldK s₁.heap s'.heap/\s'.os=s₁.os/\AllBare s'.gens) s₁) :
  WalkO q loose XP YP l.row.toRowW d [] (λf vs=>PySem.call f vs):=by
 intro w s₀ s₁ mg mb G Y fa o pm cd doc dV kV ho hd hcd hD hmg hg args vals as hpre hlay hrd hwl hlo
 obtain rfl:dV= .none:=Dflts.none hD hdf
 obtain rfl:kV= .none:=Dflts.noKw hD
 obtain⟨a,vs,ns,rfl,rfl,hobj,hints,hlen⟩:=script_of hn hpre hwl
 refine enter_call (codeAny_mono (call w s₀ s₁ mg mb fa o pm cd doc a vs ns G Y ho (fd_plain hd) hcd hmg hobj hints hlen hg) λr s' hq=>?_)
 obtain⟨rfl,h2,h3,h4⟩:=hq
 exact⟨.inl ⟨.bool true,.bool true,[],rfl,λ_=>rfl,.bool true,post_true l _,λ_=>⟨List.Pairwise.nil,λ_ hm=>(nomatch hm)⟩⟩,h2,h3,h4⟩
end Att
namespace L2
open PySem PySem.Spec PyProof.Rows
theorem pE:∀ {vs:List Value} {ns:List Int},IntsAre vs ns->aV (ns.map V.int) vs
 |_,_,.nil=>.nil
 |_,_,.cons n t h=>.cons ⟨t,rfl⟩ (pE h)
def O4(H:Hp):Prop:=∀b,H b=none\/(∃o xs,H b=some (.frz o (.lst xs)))\/H b=some .tbl
theorem L1 {P:Program} {w:World} {K:PySem.W.Frag} {mg mb:Str->Option Value} {CX:J2} {k:Nat} {fa a:Addr} {fd:FuncData} {x:Str} {sp:Sp} {s₁:Shared} {vs:List Value} {ns:List Int}
  (KX:K.In s₁.heap) (hns:s₁.heap.Ns mainGlobals mg) (hb:s₁.heap.Ns builtinsNs mb) (hbb:∀x:Str,x≠ "__name__"->mb x=bootBuiltins x) (hlim:s₁.heap.NoLimit) (hmods:∃mm,s₁.heap.Ns sysModules mm) (hbm:∃bm ob,BMod s₁.heap mainGlobals mg bm ob) (T:List (Ac×Ac)) (hT:PySem.W.TabsAt T s₁.heap) (hTK:PySem.W.noTabs K=true\/T=[]) (hg:s₁.gens= #[])
  (ha:s₁.heap.get? a=some {cls:=.type "list",data:=.seq vs.toArray}) (hi:IntsAre vs ns) (hl:ns.length<=sizeLine) (hr:Room k callerA)
  (F:∀base:Heap,K.In base->base.Ns mainGlobals mg->(∀q∈T,PySem.W.CodeHd base q.1 q.2/\q.2∈base.life.registered)->FnOk P w K mg base CX k fa fd [x] sp) (hbind:∀(s:Ab) (u:Value),BindsTo s fd ⟨[u],[]⟩ [(x,u)])
  (hsp:∀H:Hp,O4 H->cS K H a (ns.map V.int)->sp [.ref a] H (λv _=>v= .bl true) λ_ _ _=>False)
  (hCX:∀H e s',CX [] H s₁ (λ_ _ _=>False) e s'->False) :
  codeAny (model P w) callerA (.call (.ref fa) ⟨[.ref a],[]⟩) (λr s'=>r= .ok (.ret (.bool true))/\OldK s₁.heap s'.heap/\s'.os=s₁.os/\AllBare s'.gens) s₁:=by
 have rv:=pE hi
 have lenV:=hi.length
 have tabAt:∀b∈T.map (·.2),s₁.heap.get? b=some (PySem.W.tabObj #[])/\isCodeTable s₁.heap b:=λb hb=>by
  obtain⟨q,hq,rfl⟩:=List.mem_map.mp hb
  exact⟨(hT q hq).2,((hT q hq).1.tab (hT q hq).2).isCodeTable⟩
 have aT:a∉T.map (·.2):=λhb=>by
  have:=(tabAt a hb).1
  rw[ha] at this;cases this
 have core:∀HS:Hp,(∀b,HS b=none\/∃o xs,HS b=some (.frz o (.lst xs)))->cS K HS a (ns.map V.int)->lL P w HS s₁.heap->(∀b,HS b≠none->b=a)->(HS a≠none->K.lookup a=none)->
   codeAny (model P w) callerA (.call (.ref fa) ⟨[.ref a],[]⟩) (λr s'=>r= .ok (.ret (.bool true))/\OldK s₁.heap s'.heap/\s'.os=s₁.os/\AllBare s'.gens) s₁:=by
  intro HS hO hS hok0 hA hK
  obtain⟨H,hH⟩ : ∃H:Hp,H=λb=>if b∈T.map (·.2) then some .tbl else HS b:=⟨_,rfl⟩
  have H1:∀b,b∈T.map (·.2)->H b=some .tbl:=λb hb=>by rw[hH];exact if_pos hb
  have H2:∀b,b∉T.map (·.2)->H b=HS b:=λb hb=>by rw[hH];exact if_neg hb
  have hS':cS K H a (ns.map V.int):=by
   unfold cS Rd at hS ⊢
   rw[H2 a aT];exact hS
  have hO':O4 H:=λb=>by
   by_cases hb:b∈T.map (·.2)
   ·exact .inr (.inr (H1 b hb))
   ·rw[H2 b hb]
    rcases hO b with z|z
    ·exact .inl z
    ·exact .inr (.inl z)
  have hok:lL P w H s₁.heap:=λb u e=>by
   by_cases hb:b∈T.map (·.2)
   ·rw[H1 b hb] at e;cases e
    exact⟨#[],(tabAt b hb).1,trivial⟩
   ·rw[H2 b hb] at e
    refine (hok0 b u e).stay (λ_ _ _ q=>q) (λc q=>?_) λc xs q=>?_
    ·rcases hO c with z|⟨_,_,z⟩<;>(rw[q] at z;cases z)
    ·rcases hO c with z|⟨_,_,z⟩<;>(rw[q] at z;cases z)
  have hid:∀ {b:Addr} {o:Obj},s₁.heap.get? b=some o->o.cls≠ .none->o.cls≠ .type "list"->H b=none:=fun {b o} e c1 c2=>by
   by_cases hb:b∈T.map (·.2)
   ·have:=(tabAt b hb).1
    rw[e] at this;cases this
    exact absurd rfl c1
   ·rw [H2 b hb]
    cases q:HS b with
    |none=>rfl
    | some u=>
     have e':b=a:=hA b (by rw[q];simp)
     subst e'
     rw[ha] at e;cases e
     exact absurd rfl c2
  have noA:∀ {b:Addr} {o:Obj} {es:Array DictEntry} {ep:Nat},s₁.heap.get? b=some o->o.data= .dict es ep->H b=none:=fun {b o es ep} e d=>by
   by_cases hb:b∈T.map (·.2)
   ·have:=(tabAt b hb).1
    rw[e] at this;cases this
    cases d
   ·rw [H2 b hb]
    cases q:HS b with
    |none=>rfl
    | some u=>
     have e':b=a:=hA b (by rw[q];simp)
     subst e'
     rw[ha] at e;cases e
     have d':Data.seq vs.toArray _=Data.dict es ep:=d
     cases d'
  obtain⟨base,hbs⟩ : ∃base:Heap,base={GY s₁.heap H with life:={registered:=T.map (·.2)} }:=⟨_,rfl⟩
  have gets:∀b,base.get? b=(GY s₁.heap H).get? b:=λb=>by rw[hbs];rfl
  have base_of:∀ {b:Ac} {o:Obj},s₁.heap.get? b=some o->H b=none->base.get? b=some o:=fun {b o} e n=>by rw[gets];exact KP e n
  have nsK:∀ {b:Ac} {m:Str->Option Value},s₁.heap.Ns b m->base.Ns b m:=fun {b m} ⟨o,es,ep,e,d,r⟩=>⟨o,es,ep,base_of e (noA e d),d,r⟩
  have hKb:K.In base:=λb o e=>base_of (KX b o e) (by
   by_cases hb:b∈T.map (·.2)
   ·rcases hTK with z|z
    ·have h2:=List.all_eq_true.mp z (b,o) (PySem.W.mem_of_lookupK e)
     have h3:=(tabAt b hb).1
     rw[KX b o e] at h3;cases h3
     exact absurd (show false=true from h2) Bool.false_ne_true
    ·rw[z] at hb;cases hb
   ·rw [H2 b hb]
    cases q:HS b with
    |none=>rfl
    | some u=>
     have e':b=a:=hA b (by rw[q];simp)
     subst e'
     rw[hK (by rw[q];simp)] at e;cases e)
  have hBM:∃bm ob,BMod base mainGlobals mg bm ob:=by
   obtain⟨bm,ob,x⟩:=hbm
   exact⟨bm,ob,nsK x.ns,x.name,x.ne,base_of x.obj (hid x.obj (by rw[x.cls];intro z;cases z) (by rw[x.cls];intro z;injection z with z;exact absurd z (by decide))),x.cls,x.dict,x.data⟩
  have hM:Mod K mg base:=⟨hKb,nsK hns,⟨mb,nsK hb,hbb⟩,let ⟨mc,h1,h2⟩:=hlim;⟨mc,nsK h1,h2⟩,let ⟨_,h1⟩:=hmods;let ⟨o,_,_,e,_⟩:=nsK h1;⟨o,e⟩,hBM⟩
  have hTB:∀q∈T,PySem.W.CodeHd base q.1 q.2/\q.2∈base.life.registered:=λq hq=>by
   refine⟨?_,by rw[hbs];exact List.mem_map_of_mem hq⟩
   obtain⟨o,vs',file,tf,flags,tg,inF,text,tt,e,r⟩:=(hT q hq).1
   exact⟨o,vs',file,tf,flags,tg,inF,text,tt,base_of e (hid e (by rw[r.1];intro z;cases z) (by rw[r.1];intro z;injection z with z;exact absurd z (by decide))),r⟩
  have e0:Env0 P w K mg base callerA [] s₁ H:=⟨rfl,hM,λb o e=>QV (by rw[<- gets];exact e),by rw[hbs];exact Nat.le_of_eq (GZ _ _),trivial,λb hb=>absurd (show b∈([]:List Ac) from hb) (by simp),hok,.of_eq hg,λb hb=>H1 b (by rw[hbs] at hb;exact hb)⟩
  refine codeAny_mono ((F _ hKb (nsK hns) hTB).run callerA [] s₁ H ⟨[.ref a],[]⟩ [.ref a] [.ref a] _ _ hr e0 (hbind s₁ (.ref a)) (.cons rfl .nil) (hsp H hO' hS')) λr s' h=>?_
  cases r with
  |error e=>exact (hCX H e s' h).elim
  | ok fl=>
   cases fl with
   |next=>exact False.elim h
   |brk=>exact False.elim h
   |cont=>exact False.elim h
   | ret u=>
    obtain⟨v,H',os,bare,un,hok',r',q⟩:=h
    have q':v= .bl true:=q
    subst q'
    obtain rfl:u=Value.bool true:=r'
    have key:∀b o,s₁.heap.get? b=some o->s'.heap.get? b=some o\/(isCodeTable s₁.heap b/\o=PySem.W.tabObj #[]/\∃ps,s'.heap.get? b=some (PySem.W.tabObj ps)):=λb o e=>by
     by_cases hb:b∈T.map (·.2)
     ·obtain⟨ps,hP,_⟩:=hok' b _ (un.tbls b (H1 b hb))
      have e2:=(tabAt b hb).1
      rw[e] at e2
      exact .inr ⟨(tabAt b hb).2,Option.some.inj e2,ps,hP⟩
     ·refine .inl ?_
      cases q:H b with
      |none=>exact un.keep b o e q (by intro z;exact absurd (show b∈([]:List Ac) from z) (by simp)) (by simp)
      | some u=>
       rcases hO b with z|⟨ob,xs,z⟩
       ·rw[H2 b hb,z] at q;cases q
       ·have z':H b=some (.frz ob (.lst xs)):=(H2 b hb).trans z
        have z2:=un.frzs b ob _ z'
        obtain⟨e1,_⟩:=hok b _ z'
        obtain⟨e2,_⟩:=hok' b _ z2
        rw[e] at e1;cases e1
        exact e2
    refine⟨rfl,⟨λb o e=>?_,λb o e=>?_⟩,os,bare.1⟩
    ·rcases key b o e with z|⟨z1,rfl,ps,z2⟩
     ·exact .inl z
     ·exact .inr (.inl ⟨z1,rfl,#[],ps,rfl,by rw[Array.empty_append];exact z2⟩)
    ·rcases key b o e with z|⟨_,_,ps,z2⟩
     ·exact⟨o,z⟩
     ·exact⟨_,z2⟩
 cases hk:K.lookup a with
 | some o=>
  have e:=KX a o hk
  rw[ha] at e
  cases e
  refine core (λ_=>none) (λ_=>.inl rfl) (.inr ⟨_,vs.toArray,_,hk,rfl,rfl,rfl,by rw[List.size_toArray,lenV];exact hl,by simpa using rv⟩) (λb u z=>by have z':(none:Option HO)=some u:=z;cases z') (λb z=>absurd rfl z) λz=>absurd rfl z
 | none=>
  refine core (λb=>if b=a then some (.frz {cls:=.type "list",data:=.seq vs.toArray} (.lst (ns.map V.int))) else none) (λb=>?_) (.inl (.inr ⟨{cls:=.type "list",data:=.seq vs.toArray},if_pos rfl⟩)) (λb u z=>?_) (λb z=>?_) λ_=>hk
  ·by_cases hb:b=a
   ·exact .inr ⟨_,_,if_pos hb⟩
   ·exact .inl (if_neg hb)
  ·by_cases hb:b=a
   ·have z':=(if_pos hb).symm.trans z
    cases z'
    subst hb
    exact⟨ha,by rw[a0f];exact hl,vs,_,rv,ha⟩
   ·have z':=(if_neg hb).symm.trans z
    cases z'
  ·by_cases hb:b=a
   ·exact hb
   ·exact absurd (if_neg hb) z
theorem OC{q:Program}{loose:List Str}{mean:ExcName->Option Value}{mg mb:Str->Option Value}{h:Heap}(T:Top q loose mean mg mb h):∃bm ob,BMod h mainGlobals mg bm ob:=
 let ⟨bm,ob,a1,a2,a3,a4,a5,a6⟩:=T.bmain;⟨bm,ob,T.g,a1,a2,a3,a4,a5,a6⟩
theorem SL {l:PySem.W.OpenLaw} {n k:Nat} {q:Program} {loose:List Str} {XP:(Str->Option Value)->Heap->Prop} {YP:World->Heap->Prop} {d:DefRec} {K:Params->PySem.W.Frag} {CX:World->J2} {sp:World->Sp} {x:Str}
  (hn:l.most=some n) (hn2:n<=sizeLine) (hdf:d.params.defaults=[]) (himp:importsNone q=true) (hr:Room k callerA)
  (hY:∀(w:World) (h:Heap),YP w h->(K w.params).In h)
  (F:∀(w:World) (mg:Str->Option Value) (fa:Addr) (h:Heap),(K w.params).In h->h.Ns mainGlobals mg->mg d.name=some (.ref fa)->
   ∃ fd:FuncData,(∀(s:Shared) (u:Value),BindsTo s fd ⟨[u],[]⟩ [(x,u)])/\
    ∀base:Heap,(K w.params).In base->base.Ns mainGlobals mg->FnOk l.prog w (K w.params) mg base (CX w) k fa fd [x] (sp w))
  (hsp:∀(w:World) (H:Hp) (a:Ac) (ns:List Int),ns.length<=n->O4 H->cS (K w.params) H a (ns.map V.int)->sp w [.ref a] H (λv _=>v= .bl true) λ_ _ _=>False)
  (hCX:∀(w:World) (H:Hp) (s:Ab) (e:Value) (s':Ab),CX w [] H s (λ_ _ _=>False) e s'->False) :
  PySem.W.WalkO q loose XP YP l.row.toRowW d [] (λf vs=>PySem.call f vs):=by
 refine Att.attach_call hn hdf λw s₀ s₁ mg mb fa o pm cd doc a vs ns G Y ho hd hcd hmg hobj hints hlen hg=>?_
 have KX:=hY w _ Y
 obtain⟨fd,hb,hF⟩:=F w mg fa _ KX G.T.g hmg
 exact L1 KX G.T.g G.T.b G.T.builtins G.T.nolimit (let ⟨mm,h1,_⟩:=(G.T.seer himp).mods;⟨mm,h1⟩) (OC G.T) [] (λ_ z=>nomatch z) (.inr rfl) hg hobj hints (Nat.le_trans hlen hn2) hr (λbase kb nb _=>hF base kb nb) hb (λH hO hS=>hsp w H a ns hlen hO hS) λH e s'=>hCX w H s₁ e s'
def cV(s:Stmt):Arguments:=match s with
 |.FunctionDef _ a _ _ _ _ _ _ _ _=>a
 |_=>{posonlyargs:=[],args:=[],vararg:=none,kwonlyargs:=[],kw_defaults:=[],kwarg:=none,defaults:=[]}
def bG(s:Stmt):List Stmt:=match s with
 |.FunctionDef _ _ b _ _ _ _ _ _ _=>b
 |_=>[]
def aA(s:Stmt):Scope:=match s with
 |.FunctionDef _ _ _ _ _ _ sc _ _ _=>sc
 |_=>{kind:=.function,names:=[],isGenerator:=false,isCoroutine:=false}
abbrev jA:J2:=λ_ _ _ _ _ _=>False
abbrev E0:XK:=λ_ _ _=>False
theorem a0G{X:Cx}:C5 jA X E0:=λ_ _ _ _ _ _ _ h=>h.elim
structure Fun (K:PySem.W.Frag) (x qual:Str) (st:Stmt) (f:Addr) (fd:FuncData):Prop where
 ex:∃(oc:Value) (od:Option Addr) (kV doc pm:Value) (an:Option Addr) (cdv ct:Value) (osl:Array (Option Value)),
  fd=PySem.W.fnOf x qual (cV st) (bG st) (aA st) .none kV doc pm an cdv ct/\K.lookup f=some ⟨oc,od,.func fd,osl⟩/\PySem.W.codeIn K cdv qual=true
 kp:PySem.W.keepIn K (.ref f)=true
section
variable{P:Program}{w:World}{K:Aa}{mg:Str->Option Value}{base:Heap}
theorem Fun.ok {x qual:Str} {st:Stmt} {f:Addr} {fd:FuncData} {N ps:List Str} {k:Nat} {sp:Sp} (F:Fun K x qual st f fd) (S:FnScope N ps (aA st)) (len:∀vs H Q E,sp vs H Q E->vs.length=ps.length)
  (hbody:∀(cdv:Value) (A:Around) (outer:List Env) (s:Shared) (H:Hp) (vs:List V) (Q:VK) (E:XK),Room k (A.deeper (envOfC qual (aA st) s.heap.objs.size f cdv))->sp vs H Q E->
   ∃t,uX (cT jA P w K mg base N qual (aA st) f cdv A outer s H E).nox (bG st) t/\t {nx:=λ_ H'=>Q .non H',rt:=Q} (start N vs) H):FnOk P w K mg base jA (k+1) f fd ps sp:=by
 obtain⟨oc,od,kV,doc,pm,an,cdv,ct,osl,rfl,lk,hcd⟩:=F.ex
 refine ZX lk hcd S len λA outer s H vs Q E hr hsp=>?_
 obtain⟨t,h,q⟩:=hbody cdv A outer s H vs Q E hr hsp
 exact⟨t,h.nox,q⟩
theorem Fun.binds {x qual:Str} {st:Stmt} {f:Addr} {fd:FuncData} {ps:List Str} (F:Fun K x qual st f fd)
  (h:∀(kV doc pm:Value) (an:Option Ac) (cdv ct:Value) (us:List Value),us.length=ps.length->bindArgs (PySem.W.fnOf x qual (cV st) (bG st) (aA st) .none kV doc pm an cdv ct) ⟨us,[]⟩=pure (ps.zip us)):uW K fd ps []:=by
 obtain⟨oc,od,kV,doc,pm,an,cdv,ct,osl,rfl,lk,hcd⟩:=F.ex
 exact .all (h kV doc pm an cdv ct)
theorem VJ {x qual:Str} {st:Stmt} {f:Addr} {oc:Value} {od an:Option Addr} {osl:Array (Option Value)} {kV doc pm cdv ct:Value} (l:K.lookup f=some ⟨oc,od,.func (PySem.W.fnOf x qual (cV st) (bG st) (aA st) .none kV doc pm an cdv ct),osl⟩)
  (c:PySem.W.codeIn K cdv qual=true) (k:PySem.W.keepIn K (.ref f)=true):Fun K x qual st f (PySem.W.fnOf x qual (cV st) (bG st) (aA st) .none kV doc pm an cdv ct):=⟨⟨oc,od,kV,doc,pm,an,cdv,ct,osl,rfl,l,c⟩,k⟩
end
theorem Q3 {c A B:Prop} [Decidable c] (h1:c->A) (h2:¬c->B):if c then A else B:=by
 by_cases h:c
 ·rw[if_pos h]
  exact h1 h
 ·rw[if_neg h]
  exact h2 h
section
variable{X:Cx}
def J0(i j:Int):Prop:=0<j/\j<2^256
theorem LK:m8 X (binaryOp .FloorDiv) (rI J0 λi j=>.int (i / j)):=a1W λi j _ _ _ _ _ hc q=>by
 have h1:(0:Int)<j:=hc.1
 have h2:j<2^256:=hc.2
 have h3:j.natAbs.log2<9000:=by
  have h4:j.natAbs≠0:=by omega
  have h5:j.natAbs<2^256:=by omega
  exact Nat.lt_trans ((Nat.log2_lt h4).mpr h5) (by decide)
 exact floordiv_int (by omega) (by rw[Int.fdiv_eq_ediv_of_nonneg i (by omega)];exact q) (.inl (PyProof.noPylong_of_log2 h3))
theorem zU:dI X (.builtin "isinstance") (λxs H Q=>∃x n t b,xs=[x,.ty n]/\TyOf X.K H x t/\PySem.W.kitOne X.K t (.type n)=some b/\Q (.bl b) H):=by
 intro pins s σ H xs us Q I r h
 obtain⟨x,n,t,b,rfl,ty,e,q⟩:=h
 obtain⟨u,w',rfl,rx,rw'⟩:=NI r
 cases (show w'=Value.type n from rw')
 exact HC I rx ty e λtk=>⟨.bl b,H,I.tok _,rfl,q⟩
end
def CT(t n:String):Option Bool:=if (Value.type t==Value.type n)=true then some true else if PySem.W.kitMeta n=true then (fastBuiltinMro t).map (λx=>x.contains (Value.type n)) else none
theorem W8(K:Aa)(t n:String):PySem.W.kitOne K (.type t) (.type n)=CT t n:=rfl
structure Df(K:PySem.W.Frag)(mg:Str->Option Value)(x:Str)(st:Stmt):Prop where
 ex:∃f fd,Fun K x x st f fd/\mg x=some (.ref f)
theorem ZM {K:PySem.W.Frag} {h:Heap} {mg:Str->Option Value} {x:Str} {st:Stmt} {f:Addr} {oc:Value} {od an:Option Addr} {osl:Array (Option Value)} {kV doc pm cdv ct:Value} (X:K.In h) (G:h.Ns mainGlobals mg)
  (a:PySem.W.nsIn K mainGlobals x=some (some (.ref f)))
  (l:K.lookup f=some ⟨oc,od,.func (PySem.W.fnOf x x (cV st) (bG st) (aA st) .none kV doc pm an cdv ct),osl⟩)
  (c:PySem.W.codeIn K cdv x=true) (k:PySem.W.keepIn K (.ref f)=true):Df K mg x st:=⟨⟨f,_,VJ l c k,PySem.W.mg_of X G a⟩⟩
structure Cal(P:Program)(w:World)(K:PySem.W.Frag)(mg:Str->Option Value)(base:Heap)(k:Nat)(x:Str)(ps:List Str)(sp:Sp):Prop where
 ex:∃f fd,mg x=some (.ref f)/\PySem.W.keepIn K (.ref f)=true/\uW K fd ps []/\(∃oc od sl,K.lookup f=some ⟨oc,od,.func fd,sl⟩)/\FnOk P w K mg base jA k f fd ps sp
theorem Df.ok {P:Program} {w:World} {K:PySem.W.Frag} {mg:Str->Option Value} {base:Heap} {x:Str} {st:Stmt} {N ps:List Str} {k:Nat} {sp:Sp} (D:Df K mg x st) (S:FnScope N ps (aA st))
  (hb:∀(kV doc pm:Value) (an:Option Ac) (cdv ct:Value) (us:List Value),us.length=ps.length->bindArgs (PySem.W.fnOf x x (cV st) (bG st) (aA st) .none kV doc pm an cdv ct) ⟨us,[]⟩=pure (ps.zip us))
  (len:∀vs H Q E,sp vs H Q E->vs.length=ps.length)
  (hbody:∀(f:Addr) (cdv:Value) (A:Around) (outer:List Env) (s:Shared) (H:Hp) (vs:List V) (Q:VK) (E:XK),Room k (A.deeper (envOfC x (aA st) s.heap.objs.size f cdv))->sp vs H Q E->
   ∃t,uX (cT jA P w K mg base N x (aA st) f cdv A outer s H E).nox (bG st) t/\t {nx:=λ_ H'=>Q .non H',rt:=Q} (start N vs) H):Cal P w K mg base (k+1) x ps sp:=by
 obtain⟨f,fd,F,m⟩:=D.ex
 exact⟨f,fd,m,F.kp,F.binds hb,(by obtain⟨oc,od,kV,doc,pm,an,cdv,ct,osl,rfl,lk,hcd⟩:=F.ex;exact⟨oc,od,osl,lk⟩),F.ok S len λcdv A outer s H vs Q E hr h=>hbody f cdv A outer s H vs Q E hr h⟩
section
variable{X:Cx}{k:Nat}{ps:List Str}{sp:Sp}{x:Str}{p pos:Pos}{e:Expr}{es:List Expr}{t:TA}
theorem WY (C:Cal X.prog X.w X.K X.mg X.base k x ps sp) (hr:Room k X.A) (ha:PA X (e::es) t) (hg:Gl X x:=by rfl)
  (hdb:(x==("__debug__" : Str))=false:=by decide) (he:starEach (e::es) X.env=(false,eval e X.env)::starEach es X.env:=by rfl) (hpl:(backTo pos (starEach es X.env)).any (·.1)=false:=by rfl) :
  PE X (.Call (.Name x p) (e::es) [] pos) (TQ sp [] E0 t):=by
 obtain⟨f,fd,a,b,c,l,d⟩:=C.ex
 exact R0 d hr hg a b c .nil a0G ha hdb he hpl
end
theorem fQ:bootBuiltins "len"=some (.builtin "len"):=by decide+kernel
theorem xC:bootBuiltins "max"=some (.builtin "max"):=by decide+kernel
theorem JJ:bootBuiltins "min"=some (.builtin "min"):=by decide+kernel
theorem xD:bootBuiltins "sum"=some (.builtin "sum"):=by decide+kernel
theorem iL:bootBuiltins "isinstance"=some (.builtin "isinstance"):=by decide+kernel
theorem JI:bootBuiltins "int"=some (.type "int"):=by decide+kernel
theorem OE:bootBuiltins "bool"=some (.type "bool"):=by decide+kernel
theorem qP:bootBuiltins "list"=some (.type "list"):=by decide+kernel
theorem JK:bootBuiltins "range"=some (.type "range"):=by decide+kernel
theorem v9:bootBuiltins "sorted"=some (.builtin "sorted"):=by decide+kernel
structure StOk(a b c:Int):Prop where
 a0:0<=a
 b0:0<=b
 b1:b<2147483647
abbrev O0(a b c:Int):HO:=.lst [.int a,.int b,.int c]
def a26(H:Hp)(p:Ac):Prop:=∃a b c,H p=some (O0 a b c)/\StOk a b c
def N3:Sp:=λvs H Q _=>∃(p:Addr) (m a b c:Int),vs=[.ref p,.int m]/\H p=some (O0 a b c)/\StOk a b c/\0<m/\m<2^250/\
 ∀r a' b' c':Int,0<=r->r<m->StOk a' b' c'->Q (.int r) (b7 H p (O0 a' b' c'))
theorem c9{α:Type}{xs:List α}{i:Int}{v:α}(h0:0<=i)(h:xs[i.toNat]? =some v):iU xs i=some v:=by
 have e:i=(i.toNat:Int):=by omega
 rw[e];exact OA h
def n0(J:It)(g:TG)(tb:TS):TS:=λD σ H=>∃W:Nat->Nat->St->Hp->Prop,(∃m,W 0 m σ H)/\∀i m σ H,W i m σ H->
 (J.stop i H/\D.nx σ H)\/(J.go i H/\∃N:St->Hp->Prop,(∀σ' H',N σ' H'->∃m',m'<m/\W (i+1) m' σ' H')/\∀x H',J.yld i H x H'->g x σ H' λσ2 H2=>tb {D with nx:=N,ct:=N,bk:=D.nx} σ2 H2)
section
variable{X:Cx}
def MN:R2:=λx y H Q=>∃p xs i v,x= .ref p/\y= .int i/\H p=some (.lst xs)/\iU xs i=some v/\Q v H
theorem VP:J3 X MN:=by
 intro value slice pins s σ H x y v u Q I rx ry h hs
 obtain⟨p,xs,i,w,e1,e2,e3,e4,q⟩:=h
 exact xS value slice pins s σ H x y v u Q I rx ry ⟨p,xs,i,w,e1,e2,cS.of e3,e4,q⟩ hs
end
theorem iI{α:Type}{a:α}{l:List α}:iU (a::l) 0=some a:=c9 (by decide) rfl
theorem jC{α:Type}{a b:α}{l:List α}:iU (a::b::l) 1=some b:=c9 (by decide) rfl
theorem rF{α:Type}{a b c:α}{l:List α}:iU (a::b::c::l) 2=some c:=c9 (by decide) rfl
theorem C8{α:Type}{a b c d:α}{l:List α}:iU (a::b::c::d::l) 3=some d:=c9 (by decide) rfl
theorem ZL{i j:Int}(h0:0<=j)(h1:j<=1000000)(h2:i.natAbs<2^64):uA i j:=⟨h0,h1,h2⟩
theorem NG{H:Hp}{p:Addr}{o:HO}(h:H p=some o):b7 H p o=H:=by
 funext b;unfold b7;split
 ·rename_i e;rw[e,h]
 ·rfl
def FE(K:PySem.W.Frag):Sp:=λvs H Q _=>∃(p:Addr) (k:Int) (ns:List Int),vs=[.ref p,.int k]/\cS K H p (ns.map V.int)/\0<=k/\k<1000000/\
 ∀(q:Ac) (a b c:Int),H q=none->StOk a b c->Q (.ref q) (b7 H q (O0 a b c))
structure NmOk(nm:Str)(k:Nat):Prop where
 ex:∃pre:List Nat,nm.cps.toList=pre++[97+k]/\pre.length<=7/\∀c∈pre,97<=c/\c<=122
def a1V:Str:=Str.ofString "abcdefghijklmnopqrstuvwxyz"
theorem O7:a1V.cps.toList=(List.range 26).map (97+·):=by decide+kernel
theorem E9:a1V.length=26:=by decide+kernel
theorem EA{r:Int}(h0:0<=r)(h1:r<26):iU a1V.cps.toList r=some (97+r.toNat):=by
 refine c9 h0 ?_
 have h:r.toNat<26:=by omega
 rw[O7,List.getElem?_map,List.getElem?_range h];rfl
structure Sr where
 nm:Str
 b:Int
 e:Int
 w:Int
theorem U6 {P:Program} {w:World} {K:PySem.W.Frag} {mg:Str->Option Value} {base:Heap} {k:Nat} {x:Str} {ps:List Str} {sp:Sp} (C:Cal P w K mg base k x ps sp) {f:Addr} (hf:mg x=some (.ref f))
  {oc:Value} {od:Option Ac} {fd:FuncData} {sl:Array (Option Value)} (l:K.lookup f=some ⟨oc,od,.func fd,sl⟩):FnOk P w K mg base jA k f fd ps sp:=by
 obtain⟨g,fd',a,_,_,⟨oc',od',sl',l'⟩,d⟩:=C.ex
 rw[hf] at a;cases a
 rw[l] at l';cases l'
 exact d
def B7:List V->Hp->VK->Prop:=λxs H Q=>∃i j,xs=[.int i,.int j]/\Q (.int (if j>i then j else i)) H
def MP:List V->Hp->VK->Prop:=λxs H Q=>∃i j,xs=[.int i,.int j]/\Q (.int (if j<i then j else i)) H
def FB:List V->Hp->VK->Prop:=λxs H Q=>(∃i,xs=[.int i]/\Q (.int i) H)\/∃k,xs=[.bl k]/\Q (.int (if k then 1 else 0)) H
def MO(K:Aa):List V->Hp->VK->Prop:=λxs H Q=>∃p ys,xs=[.ref p]/\(cS K H p ys\/d7 K H p ys)/\Q (.int ys.length) H
def XX(K:Aa):List V->Hp->VK->Prop:=λxs H Q=>∃x n t b,xs=[x,.ty n]/\TyOf K H x t/\PySem.W.kitOne K t (.type n)=some b/\Q (.bl b) H
def XW:R2:=λx y H Q=>y= .non/\Q (.bl (decide (x= .non))) H
def MQ:R2:=λx y H Q=>y= .non/\Q (.bl (!decide (x= .non))) H
def ML:R2:=λx y H Q=>∃i j,x= .str i/\y= .str j/\i.length+j.length<=sizeLine/\Q (.str (i++j)) H
def yM(K:Aa):List V->Hp->VK->Prop:=λxs H Q=>∃p ys,xs=[.ref p]/\(cS K H p ys\/d7 K H p ys)/\∀l,H l=none->Q (.ref l) (b7 H l (.lst ys))
section
variable{X:Cx}
theorem ZH(hc:X.calm=true):dI X (.builtin "max") B7:=GB hc
theorem ZI(hc:X.calm=true):dI X (.builtin "min") MP:=GC hc
theorem ZF:dI X (.type "int") FB:=GA
theorem U5:dI X (.builtin "len") (MO X.K):=xH
theorem ZG:dI X (.builtin "isinstance") (XX X.K):=zU
theorem JP:dI X (.type "list") (yM X.K):=xI
theorem a09:m8 X (compareOp .Is) XW:=WP
theorem WI:m8 X (compareOp .IsNot) MQ:=QW
theorem WH:m8 X (binaryOp .Add) ML:=D8
end
section
variable{σ:St}{H:Hp}{Q:VK}{D:Ends}{K:Aa}
theorem YG{t u:TS}(h:t {D with nx:=u D} σ H):SC t u D σ H:=h
theorem S8(h:D.nx σ H):FL D σ H:=h
theorem YD{c:TT}{t u:TS}(h:c σ H λb H1=>if b=true then t D σ H1 else u D σ H1):S5 c t u D σ H:=h
theorem YF{te:TE}(h:te σ H D.rt):SA te D σ H:=h
theorem YC{te:TE}{g:TG}(h:te σ H λx H1=>g x σ H1 D.nx):BJ te g D σ H:=h
theorem VL{to ti:TE}{t:C6}{v:V}{R:St->Hp->Prop}(h:to σ H λo H1=>ti σ H1 λi H2=>t o i v H2 λH3=>R σ H3):KM to ti t v σ H R:=h
theorem a37{v:V}(h:Q v H):tC v σ H Q:=h
theorem a1F{r:R2}{ta tb:TE}(h:ta σ H λx H1=>tb σ H1 λy H2=>r x y H2 Q):NC r ta tb σ H Q:=h
theorem a1I{r:V->Hp->VK->Prop}{ta:TE}(h:ta σ H λx H1=>r x H1 Q):a1Z r ta σ H Q:=h
theorem a0V{g:Int->Int->V}{i j:Int}(h:Q (g i j) H):uP g (.int i) (.int j) H Q:=⟨i,j,rfl,rfl,h⟩
theorem a2Z{C:Int->Int->Prop}{g:Int->Int->V}{i j:Int}(hc:C i j)(h:Q (g i j) H):rI C g (.int i) (.int j) H Q:=⟨i,j,rfl,rfl,hc,h⟩
theorem a33{g:Int->V}{i:Int}(h:Q (g i) H):rU g (.int i) H Q:=⟨i,rfl,h⟩
theorem SD{t:TE}{R:Bool->Hp->Prop}(h:t σ H λx H'=>∃k,x= .bl k/\R k H'):FM t σ H R:=h
theorem V6{b:Bool}{R:Bool->Prop}(h:R b):∃k,V.bl b= .bl k/\R k:=⟨b,rfl,h⟩
theorem S4{ta:TE}{tr:TA}{R:List V->Hp->Prop}(h:ta σ H λx H1=>tr σ H1 λxs H2=>R (x::xs) H2):BK ta tr σ H R:=h
theorem YE{R:List V->Hp->Prop}(h:R [] H):NB σ H R:=h
theorem S7{t:TA}(h:t σ H λxs H1=>xs.length<=sizeLine/\∀p,H1 p=none->Q (.ref p) (b7 H1 p (.lst xs))):S6 t σ H Q:=h
theorem a1B{r:List V->Hp->VK->Prop}{t:TA}(h:t σ H λvs H1=>r vs H1 Q):TN r t σ H Q:=h
theorem RQ{p:Ac}{xs:List V}{i:Int}{v:V}(e:H p=some (.lst xs))(a:iU xs i=some v)(h:Q v H):MN (.ref p) (.int i) H Q:=⟨p,xs,i,v,rfl,rfl,e,a,h⟩
theorem XY{p:Ac}{xs:List V}{i:Int}{v:V}(e:cS K H p xs)(a:iU xs i=some v)(h:Q v H):RP K (.ref p) (.int i) H Q:=⟨p,xs,i,v,rfl,rfl,e,a,h⟩
theorem Y4{p:Ac}{a b c:V}{v:V}{R:Hp->Prop}(e:H p=some (.lst [a,b,c]))(h:R (b7 H p (.lst [v,b,c]))):wH (.ref p) (.int 0) v H R:=⟨p,_,0,0,rfl,rfl,e,rfl,h⟩
theorem Y5{p:Ac}{a b c:V}{v:V}{R:Hp->Prop}(e:H p=some (.lst [a,b,c]))(h:R (b7 H p (.lst [a,v,c]))):wH (.ref p) (.int 1) v H R:=⟨p,_,1,1,rfl,rfl,e,rfl,h⟩
theorem Y6{p:Ac}{a b c:V}{v:V}{R:Hp->Prop}(e:H p=some (.lst [a,b,c]))(h:R (b7 H p (.lst [a,b,v]))):wH (.ref p) (.int 2) v H R:=⟨p,_,2,2,rfl,rfl,e,rfl,h⟩
theorem RR{i j:Int}(h:Q (.int (if j>i then j else i)) H):B7 [.int i,.int j] H Q:=⟨i,j,rfl,h⟩
theorem MM{k:Bool}(h:Q (.int (if k then 1 else 0)) H):FB [.bl k] H Q:=.inr ⟨k,rfl,h⟩
theorem FC{p:Ac}{ys:List V}(e:cS K H p ys)(h:Q (.int ys.length) H):MO K [.ref p] H Q:=⟨p,ys,rfl,.inl e,h⟩
theorem a2X{ta:TA}{g:TG}{tb:TS}(h:ta σ H λvs H1=>∃j:Int,vs=[.int j]/\-(2^62)<=j/\j<2^62/\n0 (O2 0 j.toNat) g tb D σ H1):NA (EJ ta) g tb D σ H:=h
theorem V7{n:Int}{R:Int->Prop}(h:-(2^62)<=n/\n<2^62/\R n):∃j:Int,[V.int n]=[.int j]/\-(2^62)<=j/\j<2^62/\R j:=⟨n,rfl,h⟩
theorem v0{v:V}{r:St}(h:Q v H):eH 0 (some v::r) H Q:=⟨v,rfl,h⟩
theorem v1{x0:Option V}{v:V}{r:St}(h:Q v H):eH 1 (x0::some v::r) H Q:=⟨v,rfl,h⟩
theorem v2{x0 x1:Option V}{v:V}{r:St}(h:Q v H):eH 2 (x0::x1::some v::r) H Q:=⟨v,rfl,h⟩
theorem v3{x0 x1 x2:Option V}{v:V}{r:St}(h:Q v H):eH 3 (x0::x1::x2::some v::r) H Q:=⟨v,rfl,h⟩
theorem v4{x0 x1 x2 x3:Option V}{v:V}{r:St}(h:Q v H):eH 4 (x0::x1::x2::x3::some v::r) H Q:=⟨v,rfl,h⟩
theorem g2{v:V}{x0 x1 x2:Option V}{r:St}{R:St->Hp->Prop}(h:R (x0::x1::some v::r) H):jV 2 v (x0::x1::x2::r) H R:=h
theorem g3{v:V}{x0 x1 x2 x3:Option V}{r:St}{R:St->Hp->Prop}(h:R (x0::x1::x2::some v::r) H):jV 3 v (x0::x1::x2::x3::r) H R:=h
theorem g4{v:V}{x0 x1 x2 x3 x4:Option V}{r:St}{R:St->Hp->Prop}(h:R (x0::x1::x2::x3::some v::r) H):jV 4 v (x0::x1::x2::x3::x4::r) H R:=h
end
theorem U7{i j:Int}(h0:-(2^64)<i)(h1:i<2^64):wN i j:=.inl ⟨h0,h1⟩
theorem U8{i j:Int}(h0:-(2^64)<j)(h1:j<2^64):wN i j:=.inr ⟨h0,h1⟩
theorem FG{N:List Str}{vs:List V}{t:TS}{D:Ends}{H:Hp}{σ:St}(e:start N vs=σ)(h:t D σ H):t D (start N vs) H:=e▸h
theorem a04{xs:List V}{R:Prop}(h0:xs.length<=1000)(h:R):xs.length<=sizeLine/\R:=⟨Nat.le_trans h0 (by decide),h⟩
section
variable{H:Hp}{Q:VK}
theorem a2W(h:Q (.int 1000000) H):rI uA (λi j=>V.int (i^j.toNat)) (.int 10) (.int 6) H Q:=⟨10,6,rfl,rfl,ZL (by decide) (by decide) (by decide),h⟩
theorem a0O(h:Q (.int 1000000000000000000) H):rI uA (λi j=>V.int (i^j.toNat)) (.int 10) (.int 18) H Q:=⟨10,18,rfl,rfl,ZL (by decide) (by decide) (by decide),h⟩
end
theorem OK{i j:Int}(h0:0<j)(h1:j<2^250):J0 i j:=⟨h0,Int.lt_trans h1 (by decide)⟩
theorem a08{j:Int}(h:j<=1000000000000000000000000000000000000000000000000000000000000):j<2^250:=Int.lt_of_le_of_lt h (by decide)
theorem gM:("len" : Str)≠ "__name__":=by decide+kernel
theorem gK:(("len" : Str)==("__debug__" : Str))=false:=by decide+kernel
theorem xA:("max" : Str)≠ "__name__":=by decide+kernel
theorem wZ:(("max" : Str)==("__debug__" : Str))=false:=by decide+kernel
theorem JF:("min" : Str)≠ "__name__":=by decide+kernel
theorem JA:(("min" : Str)==("__debug__" : Str))=false:=by decide+kernel
theorem xB:("sum" : Str)≠ "__name__":=by decide+kernel
theorem x8:(("sum" : Str)==("__debug__" : Str))=false:=by decide+kernel
theorem iK:("isinstance" : Str)≠ "__name__":=by decide+kernel
theorem iJ:(("isinstance" : Str)==("__debug__" : Str))=false:=by decide+kernel
theorem JE:("int" : Str)≠ "__name__":=by decide+kernel
theorem J9:(("int" : Str)==("__debug__" : Str))=false:=by decide+kernel
theorem OD:("bool" : Str)≠ "__name__":=by decide+kernel
theorem OB:(("bool" : Str)==("__debug__" : Str))=false:=by decide+kernel
theorem x9:("list" : Str)≠ "__name__":=by decide+kernel
theorem wY:(("list" : Str)==("__debug__" : Str))=false:=by decide+kernel
class Step (P:Prop) (P':outParam Prop):Prop where
 go:P'->P
theorem step{P P':Prop}[s:Step P P'](h:P'):P:=s.go h
section
variable{σ:St}{H:Hp}{Q:VK}{D:Ends}{K:Aa}
instance i_tSeq_s {t u:TS}:Step (SC t u D σ H) (t {D with nx:=u D} σ H):=⟨λh=>YG h⟩
instance i_tNext_s  : Step (FL D σ H) (D.nx σ H):=⟨λh=>S8 h⟩
instance i_tIfS_s {c:TT} {t u:TS}:Step (S5 c t u D σ H) (c σ H λb H1=>if b=true then t D σ H1 else u D σ H1):=⟨λh=>YD h⟩
instance i_tRet_s {te:TE}:Step (SA te D σ H) (te σ H D.rt):=⟨λh=>YF h⟩
instance i_tAsg_s {te:TE} {g:TG}:Step (BJ te g D σ H) (te σ H λx H1=>g x σ H1 D.nx):=⟨λh=>YC h⟩
instance i_gSub_s {to ti:TE} {t:C6} {v:V} {R:St->Hp->Prop}:Step (KM to ti t v σ H R) (to σ H λo H1=>ti σ H1 λi H2=>t o i v H2 λH3=>R σ H3):=⟨λh=>VL h⟩
instance i_tC_s {v:V}:Step (tC v σ H Q) (Q v H):=⟨λh=>a37 h⟩
instance i_tOp_s {r:R2} {ta tb:TE}:Step (NC r ta tb σ H Q) (ta σ H λx H1=>tb σ H1 λy H2=>r x y H2 Q):=⟨λh=>a1F h⟩
instance i_tUn_s {r:V->Hp->VK->Prop} {ta:TE}:Step (a1Z r ta σ H Q) (ta σ H λx H1=>r x H1 Q):=⟨λh=>a1I h⟩
instance i_rI0_s {g:Int->Int->V} {i j:Int}:Step (uP g (.int i) (.int j) H Q) (Q (g i j) H):=⟨λh=>a0V h⟩
instance i_rU_s {g:Int->V} {i:Int}:Step (rU g (.int i) H Q) (Q (g i) H):=⟨λh=>a33 h⟩
instance i_tTest_s {t:TE} {R:Bool->Hp->Prop}:Step (FM t σ H R) (t σ H λx H'=>∃k,x= .bl k/\R k H'):=⟨λh=>SD h⟩
instance i_exbl_s {b:Bool} {R:Bool->Prop}:Step (∃k,V.bl b= .bl k/\R k) (R b):=⟨λh=>V6 h⟩
instance i_tCons_s {ta:TE} {tr:TA} {R:List V->Hp->Prop}:Step (BK ta tr σ H R) (ta σ H λx H1=>tr σ H1 λxs H2=>R (x::xs) H2):=⟨λh=>S4 h⟩
instance i_tNil_s {R:List V->Hp->Prop}:Step (NB σ H R) (R [] H):=⟨λh=>YE h⟩
instance i_tLstR_s {t:TA}:Step (S6 t σ H Q) (t σ H λxs H1=>xs.length<=sizeLine/\∀p,H1 p=none->Q (.ref p) (b7 H1 p (.lst xs))):=⟨λh=>S7 h⟩
instance i_tCB_s {r:List V->Hp->VK->Prop} {t:TA}:Step (TN r t σ H Q) (t σ H λvs H1=>r vs H1 Q):=⟨λh=>a1B h⟩
instance i_rMax2_s {i j:Int}:Step (B7 [.int i,.int j] H Q) (Q (.int (if j>i then j else i)) H):=⟨λh=>RR h⟩
instance i_rInt1B_s {k:Bool}:Step (FB [.bl k] H Q) (Q (.int (if k then 1 else 0)) H):=⟨λh=>MM h⟩
instance i_r1_s {ta:TA} {g:TG} {tb:TS}:Step (NA (EJ ta) g tb D σ H) (ta σ H λvs H1=>∃j:Int,vs=[.int j]/\-(2^62)<=j/\j<2^62/\n0 (O2 0 j.toNat) g tb D σ H1):=⟨λh=>a2X h⟩
instance i_exr1_s {n:Int} {R:Int->Prop}:Step (∃j:Int,[V.int n]=[.int j]/\-(2^62)<=j/\j<2^62/\R j) (-(2^62)<=n/\n<2^62/\R n):=⟨λh=>V7 h⟩
instance i_v0 {v:V} {r:St}:Step (eH 0 (some v::r) H Q) (Q v H):=⟨λh=>v0 h⟩
instance i_v1 {x0:Option V} {v:V} {r:St}:Step (eH 1 (x0::some v::r) H Q) (Q v H):=⟨λh=>v1 h⟩
instance i_v2 {x0 x1:Option V} {v:V} {r:St}:Step (eH 2 (x0::x1::some v::r) H Q) (Q v H):=⟨λh=>v2 h⟩
instance i_v3 {x0 x1 x2:Option V} {v:V} {r:St}:Step (eH 3 (x0::x1::x2::some v::r) H Q) (Q v H):=⟨λh=>v3 h⟩
instance i_v4 {x0 x1 x2 x3:Option V} {v:V} {r:St}:Step (eH 4 (x0::x1::x2::x3::some v::r) H Q) (Q v H):=⟨λh=>v4 h⟩
instance i_g2 {v:V} {x0 x1 x2:Option V} {r:St} {R:St->Hp->Prop}:Step (jV 2 v (x0::x1::x2::r) H R) (R (x0::x1::some v::r) H):=⟨λh=>g2 h⟩
instance i_g3 {v:V} {x0 x1 x2 x3:Option V} {r:St} {R:St->Hp->Prop}:Step (jV 3 v (x0::x1::x2::x3::r) H R) (R (x0::x1::x2::some v::r) H):=⟨λh=>g3 h⟩
instance i_g4 {v:V} {x0 x1 x2 x3 x4:Option V} {r:St} {R:St->Hp->Prop}:Step (jV 4 v (x0::x1::x2::x3::x4::r) H R) (R (x0::x1::x2::x3::some v::r) H):=⟨λh=>g4 h⟩
instance i_pow6  : Step (rI uA (λi j=>V.int (i^j.toNat)) (.int 10) (.int 6) H Q) (Q (.int 1000000) H):=⟨λh=>a2W h⟩
instance i_pow18  : Step (rI uA (λi j=>V.int (i^j.toNat)) (.int 10) (.int 18) H Q) (Q (.int 1000000000000000000) H):=⟨λh=>a0O h⟩
end
structure QE(X:Cx)(e:Expr)(t:TE):Prop where
 h:PE X e t
structure QT(X:Cx)(e:Expr)(t:TT):Prop where
 h:PT X e t
structure QA(X:Cx)(es:List Expr)(t:TA):Prop where
 h:PA X es t
structure QS(X:Cx)(st:Stmt)(t:TS):Prop where
 h:PS X st t
structure QSs(X:Cx)(st:List Stmt)(t:TS):Prop where
 h:uX X st t
structure QG(X:Cx)(e:Expr)(t:TG):Prop where
 h:PG X e t
structure QI(X:Cx)(tg iter:Expr)(wi:TI):Prop where
 h:PI X tg iter wi
structure QOp(X:Cx)(f:Value->Value->Sem Value)(r:R2):Prop where
 h:m8 X f r
structure QUn(X:Cx)(f:Value->Sem Value)(r:V->Hp->VK->Prop):Prop where
 h:a1U X f r
structure QC(X:Cx)(f:Value)(r:List V->Hp->VK->Prop):Prop where
 h:dI X f r
structure QX(X:Cx)(r:R2):Prop where
 h:J3 X r
structure QM(X:Cx)(id:String)(r:V->List V->Hp->VK->Prop):Prop where
 h:a3I X id r
structure QL(X:Cx)(r:V->Option Int->Option Int->Hp->VK->Prop):Prop where
 h:ZD X r
structure QSet(X:Cx)(t:C6):Prop where
 h:TY X t
section
variable{X:Cx}{a b c e:Expr}{es:List Expr}{ta tb tc te:TE}{t:TA}{pos p:Pos}{tA tB':TT}
theorem bH:QOp X (binaryOp .Add) (uP λi j=>.int (i+j)):=⟨WL⟩
theorem iB:QOp X (binaryOp .Sub) (uP λi j=>.int (i-j)):=⟨WV⟩
theorem jM:QOp X (binaryOp .Mult) (rI wN λi j=>.int (i*j)):=⟨WR⟩
theorem o9:QOp X (binaryOp .Mod) (rI (λ_ j=>0<j) λi j=>.int (i % j)):=⟨WQ⟩
theorem wG:QOp X (binaryOp .FloorDiv) (rI J0 λi j=>.int (i / j)):=⟨LK⟩
theorem qW:QOp X (binaryOp .Pow) (rI uA λi j=>.int (i^j.toNat)):=⟨WT⟩
theorem tL:QOp X (binaryOp .Add) ML:=⟨WH⟩
theorem yJ:QOp X (compareOp .NotEq) a30:=⟨a0F⟩
theorem DJ:QOp X (compareOp .Lt) (uP λi j=>.bl (decide (i<j))):=⟨a0E⟩
theorem tM:QOp X (compareOp .LtE) (uP λi j=>.bl (decide (i<=j))):=⟨a0D⟩
theorem oY:QOp X (compareOp .Gt) (uP λi j=>.bl (decide (j<i))):=⟨a0C⟩
theorem RL:QOp X (compareOp .Is) XW:=⟨a09⟩
theorem tN:QOp X (compareOp .IsNot) MQ:=⟨WI⟩
theorem FA:QUn X (unaryOp .USub) (rU λi=>.int (-i)):=⟨YM⟩
theorem DH(hc:X.calm=true):QC X (.builtin "max") B7:=⟨ZH hc⟩
theorem MH(hc:X.calm=true):QC X (.builtin "min") MP:=⟨ZI hc⟩
theorem XI:QC X (.type "int") FB:=⟨ZF⟩
theorem RH:QC X (.builtin "len") (MO X.K):=⟨U5⟩
theorem DG:QC X (.builtin "isinstance") (XX X.K):=⟨ZG⟩
theorem wF:QC X (.type "list") (yM X.K):=⟨JP⟩
theorem RO:QX X (RP X.K):=⟨xS⟩
theorem kR:QX X MN:=⟨VP⟩
theorem XR:QL X (a11 X.K):=⟨YA⟩
theorem RJ:QL X (a0Z X.K):=⟨RU⟩
theorem fH:QM X "list.append" qX:=⟨oS⟩
theorem oZ:QSet X wH:=⟨oE⟩
theorem aZ{i j pos}:QE X (.Constant (.int i) j pos) (tC (.int i)):=⟨WZ⟩
theorem a0T{b j pos}:QE X (.Constant (.bool b) j pos) (tC (.bl b)):=⟨a0I⟩
theorem XN{j pos}:QE X (.Constant .none j pos) (tC .non):=⟨X0⟩
theorem XO{x j pos}:QE X (.Constant (.str x) j pos) (tC (.str x)):=⟨X5⟩
theorem yI{x:Str}{v:V}{u:Value}{pos:Pos}(hg:X.env.scope.names.lookup x=some .globalImplicit)(hm:X.mg x=none)(hv:bootBuiltins x=some u)(r:bA v u)(hn:x≠ "__name__")(hd:(x==("__debug__" : Str))=false):QE X (.Name x pos) (tC v):=⟨QZ hg hm hv r hn hd⟩
theorem dF{op:Operator}{r:R2}(ho:QOp X (binaryOp op) r)(ha:QE X a ta)(hb:QE X b tb):QE X (.BinOp a op b pos) (NC r ta tb):=⟨AZ ho.h ha.h hb.h⟩
theorem a0U{op:UnaryOp}{r:V->Hp->VK->Prop}(ho:QUn X (unaryOp op) r)(ha:QE X a ta):QE X (.UnaryOp op a pos) (a1Z r ta):=⟨TB ho.h ha.h⟩
theorem RI{op:CmpOp}{r:R2}(ho:QOp X (compareOp op) r)(ha:QE X a ta)(hb:QE X b tb)(hm:behindInMarks op b=false):QE X (.Compare a [op] [b] pos) (NC r ta tb):=⟨EY ho.h ha.h hb.h hm⟩
theorem yL{op:CmpOp}{r:R2}(ho:QOp X (compareOp op) r)(ha:QE X a ta)(hb:QE X b tb)(hm:behindInMarks op b=false):QT X (.Compare a [op] [b] pos) (FM (NC r ta tb)):=⟨F6 ho.h ha.h hb.h hm⟩
theorem XM(h:QA X es t):QE X (.List es pos) (S6 t):=⟨DC h.h⟩
theorem o8{r:R2}(hr:QX X r)(ha:QE X a ta)(hb:QE X b tb)(hs:∀o i,subscripted b false o i=operate [o,i] (getItem o i)):QE X (.Subscript a b pos) (NC r ta tb):=⟨EZ hr.h ha.h hb.h hs⟩
theorem tK:QA X [] NB:=⟨gR⟩
theorem iA(ha:QE X e te)(hr:QA X es t)(hs:starEach (e::es) X.env=(false,eval e X.env)::starEach es X.env:=by rfl):QA X (e::es) (BK te t):=⟨dP ha.h hr.h hs⟩
theorem B6 {id:String} {x:Str} {r:List V->Hp->VK->Prop} (hc:QC X (.builtin id) r) (hg:X.env.scope.names.lookup x=some .globalImplicit) (hm:X.mg x=none) (hv:bootBuiltins x=some (.builtin id)) (ha:QA X (e::es) t) (hn:x≠ "__name__") (hdb:(x==("__debug__" : Str))=false)
  (he:starEach (e::es) X.env=(false,eval e X.env)::starEach es X.env:=by rfl) (hpl:(backTo pos (starEach es X.env)).any (·.1)=false:=by rfl):QE X (.Call (.Name x p) (e::es) [] pos) (TN r t):=⟨kN hc.h hg hm hv ha.h hn hdb he hpl⟩
theorem HX {T:String} {x:Str} {r:List V->Hp->VK->Prop} (hc:QC X (.type T) r) (hg:X.env.scope.names.lookup x=some .globalImplicit) (hm:X.mg x=none) (hv:bootBuiltins x=some (.type T)) (ha:QA X (e::es) t) (hn:x≠ "__name__") (hdb:(x==("__debug__" : Str))=false)
  (he:starEach (e::es) X.env=(false,eval e X.env)::starEach es X.env:=by rfl) (hpl:(backTo pos (starEach es X.env)).any (·.1)=false:=by rfl):QE X (.Call (.Name x p) (e::es) [] pos) (TN r t):=⟨gF hc.h hg hm hv ha.h hn hdb he hpl⟩
theorem F8{i:Nat}{x:Str}(hN:X.N.Nodup)(hi:X.N[i]? =some x)(hx:FV X.env.scope x)(hf:X.fn x=true\/X.env.scope.names.lookup x=some .local):QG X (.Name x pos) (jV i):=⟨qV hN hi hx hf⟩
theorem DI {o i:Expr} {to ti:TE} {ts:C6} (ho:QE X o to) (hi:QE X i ti) (hs:QSet X ts)
  (ha:∀v,assign (.Subscript o i pos) X.env v=(do
   let ov <- holding [v] (eval o X.env)
   let iv <- holding [v,ov] (eval i X.env)
   standAt pos
   holding [v,ov,iv] (setItem ov iv v)
   release [v,ov,iv] []):=by intro _;rfl):QG X (.Subscript o i pos) (KM to ti ts):=⟨yD ho.h hi.h hs.h ha⟩
theorem HY{tg:Expr}(hg:X.env.scope.names.lookup (Str.ofString "range")=some NameKind.globalImplicit)(hm:X.mg "range"=none)(ha:QA X [a] t)(hs:starEach [a] X.env=[(false,eval a X.env)]:=by rfl):QI X tg (.Call (.Name "range" p) [a] [] pos) (EJ t):=⟨w4 hg hm ha.h hs⟩
theorem yK:QSs X [] FL:=⟨F4⟩
theorem cP{st:Stmt}{rest:List Stmt}{ts u:TS}(h1:QS X st ts)(h2:QSs X rest u):QSs X (st::rest) (SC ts u):=⟨B2 h1.h h2.h⟩
theorem lG{st:Stmt}{ts:TS}(h1:QS X st ts):QSs X [st] ts:=⟨F5 h1.h⟩
theorem kQ {i:Nat} {x:Str} {pos':Pos} (hN:X.N.Nodup) (hi:X.N[i]? =some x) (hx:FV X.env.scope x) (he:QE X e te) (hs:swapsWith e (some (.Name x pos')) pos.line X.env=pure false) (hf:X.fn x=true\/X.env.scope.names.lookup x=some .local) :
  QS X (.Assign [.Name x pos'] e pos) (BJ te (jV i)):=⟨MB hN hi hx he.h hs hf⟩
theorem DK {tg:Expr} {g:TG} (he:QE X e te) (hg:QG X tg g) (hs:swapsWithSole [tg] e pos.line X.env=pure false:=by rfl) (hw:swappedStores [tg] e X.env=pure none:=by rfl)
  (h1:(assignEach [tg] X.env).map (·.2)=[assign tg X.env]:=by rfl):QS X (.Assign [tg] e pos) (BJ te g):=⟨yF he.h hg.h hs hw h1⟩
theorem MK{th el:List Stmt}{ts u:TS}(hc:QT X c tA)(ha:QSs X th ts)(hb:QSs X el u):QS X (.If c th el pos) (S5 tA ts u):=⟨TC hc.h ha.h hb.h⟩
theorem DL(he:QE X e te):QS X (.Return (some e) pos) (SA te):=⟨DF he.h⟩
theorem XS {tg iter:Expr} {body:List Stmt} {wi:TI} {g:TG} {ts:TS} (hp:PassesOwn (model X.prog X.w) X.A X.env X.xe) (hc:X.calm=true) (hi:QI X tg iter wi) (hg:QG X tg g) (hb:QSs X body ts)
  (hs:∀x,foldedSetIterable iter X.env x=pure x:=by intro _;rfl):QS X (.For tg iter body [] pos) (NA wi g ts):=⟨MA hp hc hi.h hg.h hb.h hs⟩
theorem MF{i:Nat}{x:Str}(hN:X.N[i]? =some x)(hv:a29 X.env.scope x)(hd:(x==("__debug__" : Str))=false)(hcd:(x==("__classdict__" : Str))=false):QE X (.Name x pos) (eH i):=⟨X7 hN hv hd hcd⟩
end
theorem ME{X:Cx}{b:List Stmt}{t:TS}{D:Ends}{σ:St}{H:Hp}(h:QSs X b t)(q:t D σ H):∃t,uX X b t/\t D σ H:=⟨t,h.h,q⟩
structure LcOk(N:List Str)(osc scope:Scope)(N':List Str)(n:Nat)(cap:List Nat):Prop where
 kind:scope.kind= .function
 nocell:∀y∈scope.names,y.2≠ .cell
 names:∀y∈scope.names,y.2= .local->scope.names.lookup y.1=some .local
 frees:∀y∈scope.names,y.2= .free->osc.names.lookup y.1=some .cell
 caps:N'.drop n=cap.map λi=>N.getD i Str.empty
 capl:∀i∈cap,i<N.length
 capf:∀x∈N'.drop n,scope.names.lookup x=some NameKind.free
 len:N'.length=n+cap.length
def GD(scope:Scope)(env:Env):List (Str×Ac):=(scope.names.filter λy=>y.2== .free).reverse.map λy=>(y.1,(env.cells.lookup y.1).getD 0)
theorem nD {env:Env}:∀(ys:List (Str×NameKind)) (acc:List (Str×Addr)),(∀y∈ys,y.2= .free->∃c,env.cells.lookup y.1=some c)->
  (forIn ys acc λ(y:Str×NameKind) (r:List (Str×Addr))=>(if (y.2==NameKind.free)=true then do let a <- cellOf env y.1;pure (ForInStep.yield ((y.1,a)::r)) else pure (ForInStep.yield r):Sem (ForInStep (List (Str×Addr)))))=
   (pure ((ys.filter λy=>y.2== .free).reverse.map (λy=>(y.1,(env.cells.lookup y.1).getD 0))++acc):Sem (List (Str×Ac)))
 |[],acc,_=>by simp
 | y::r,acc,h=>by
  have ih:=λa=>nD r a λz hz=>h z (List.mem_cons_of_mem _ hz)
  rw[List.forIn_cons]
  by_cases e:y.2= .free
  ·obtain⟨c,hc⟩:=h y List.mem_cons_self e
   have e':(y.2==NameKind.free)=true:=by simpa using e
   rw[if_pos e']
   have h1:cellOf env y.1=(pure c:Sem Ac):=by unfold cellOf;rw[hc]
   rw[h1]
   simp only[pure_bind]
   rw[ih,List.filter_cons,if_pos e']
   simp[hc]
  ·have e':¬(y.2==NameKind.free)=true:=by simpa using e
   rw[if_neg e']
   simp only[pure_bind]
   rw[ih,List.filter_cons,if_neg e']
theorem jD{scope:Scope}{env:Env}(h:∀y∈scope.names,y.2= .free->∃c,env.cells.lookup y.1=some c):closureFor scope env=pure (GD scope env):=by
 have e:=nD (env:=env) scope.names [] h
 rw[List.append_nil] at e
 unfold closureFor
 refine Eq.trans (congrArg (λm=>m >>=λr=>(pure r:Sem (List (Str×Ac)))) ?_) (pure_bind (GD scope env) _)
 exact e
theorem gP {α:Type}:∀ {l:List (Str×α)} {x:Str} {c:α},l.lookup x=some c->(x,c)∈l
 | (a,b)::r,x,c,h=>by
  rw[List.lookup_cons] at h
  by_cases e:x=a
  ·subst e
   simp at h
   subst h
   exact List.mem_cons_self
  ·have e':(x==a)=false:=by simpa using e
   rw[e'] at h
   exact List.mem_cons_of_mem _ (gP h)
theorem lQ {α:Type}:∀ {l:List (Str×α)} {x:Str} {c:α},(x,c)∈l->∃d,l.lookup x=some d
 | (a,b)::r,x,c,h=>by
  rw[List.lookup_cons]
  by_cases e:x=a
  ·exact⟨b,by simp[e]⟩
  ·have e':(x==a)=false:=by simpa using e
   rw[e']
   rcases List.mem_cons.mp h with z|z
   ·cases z;exact absurd rfl e
   ·exact lQ z
theorem kG{scope:Scope}{env:Env}(h:∀y∈scope.names,y.2= .free->∃c,env.cells.lookup y.1=some c){x:Str}{c:Addr}(e:(GD scope env).lookup x=some c):env.cells.lookup x=some c:=by
 obtain⟨y,hy,hz⟩:=List.mem_map.mp (gP e)
 have hy':=List.mem_filter.mp (List.mem_reverse.mp hy)
 obtain⟨d,hd⟩:=h y hy'.1 (by simpa using hy'.2)
 rw[hd] at hz
 cases hz
 exact hd
theorem zW{scope:Scope}{env:Env}{x:Str}(h:(x,NameKind.free)∈scope.names):∃c,(GD scope env).lookup x=some c:=
 lQ (List.mem_map.mpr ⟨(x,.free),List.mem_reverse.mpr (List.mem_filter.mpr ⟨h,by rfl⟩),rfl⟩)
def aS(X:Cx)(N':List Str)(scope:Scope)(C:Addr)(s:Shared)(H:Hp)(fp:List Addr):Cx where
 prog:=X.prog
 w:=X.w
 K:=X.K
 mg:=X.mg
 base:=X.base
 A:=X.A
 N:=N'
 s₀:=s
 H₀:=H
 env:=compEnvC scope (GD scope X.env) C X.env
 outer:=X.stack
 stack:=X.stack
 ex:=fp
 fn:=λ_=>false
 calm:=X.calm
 pn:=[]
 xe:=λ_ _=>False
def CU(n:Nat)(cap:List Nat)(σ:St):St:=List.replicate n none++cap.map λi=>σ.getD i none
def a39(tt:TT)(te:TE)(acc:Ac):TS:=λD σ H=>tt σ H λb H1=>if b=true then te σ H1 λv H2=>∃ys,H2 acc=some (.lst ys)/\ys.length<sizeLine/\D.nx σ (b7 H2 acc (.lst (ys++[v]))) else D.nx σ H1
def a38(wi:TI)(g:TG)(tt:TT)(te:TE)(n:Nat)(cap:List Nat):TE:=λσ H Q=>wi σ H λJ H1=>∀acc,H1 acc=none->
 n0 J g (a39 tt te acc) {nx:=λ_ H'=>Q (.ref acc) H',rt:=λ_ _=>False} (CU n cap σ) (b7 H1 acc (.lst []))
def IT (X:Cx) (ifs:List Expr) (t:TT):Prop:=
 ∀ (pins:List (Addr×Obj)) (s:Shared) (σ:St) (H:Hp) (Q:Bool->Hp->Prop),Inv X pins σ H s->t σ H Q->
  wpAny (model X.prog X.w) X.A (forIn ifs true λc r=>if r=true then do let ok <- isTrue c X.env (eval c X.env);pure (ForInStep.yield ok) else pure (ForInStep.yield r)) (TP X pins σ Q) X.xe s
def a1H:TT:=λ_ H Q=>Q true H
theorem RC{X:Cx}:IT X [] a1H:=λ_ _ _ H _ I h=>wpAny_tests_nil ⟨H,I,h⟩
theorem RE{X:Cx}{c:Expr}{t:TT}(h:PT X c t):IT X [c] t:=λpins s σ H Q I q=>wpAny_tests_one (h pins s σ H Q I q)
theorem qQ{P:Program}{w:World}{H:Hp}{h h':Heap}{C:Addr}(ok:lL P w H h)(hC:H C=none)(hs:Heap.SameBut C h h'):lL P w H h':=λb ob e=>by
 refine (ok b ob e).stay (λc u hc q=>(hs.2 c ?_).trans q) (λ_ q=>q) λ_ _ q=>q
 rintro rfl
 rcases hc with rfl|hc
 ·rw[hC] at e;cases e
 ·rw[hC] at hc;cases hc
section
variable{X:Cx}{elt target iter:Expr}{ifs:List Expr}{scope:Scope}{pos:Pos}{N':List Str}{n:Nat}{cap:List Nat}{wi:TI}{g:TG}{tt:TT}{te:TE}
theorem nM {pins:List (Addr×Obj)} {σ:St} {H:Hp} {s:Shared} {h1:Heap} {m0:Str->Option Value} {fp:List Addr} {tk:Nat} (S:LcOk X.N X.env.scope scope N' n cap) (I:Inv X pins σ H s) (hf:∀b∈fp,iH X pins H b) (hfs:∀b∈fp,b<s.heap.objs.size)
  (ns:h1.Ns s.heap.objs.size m0) (k:∀b o,s.heap.get? b=some o->h1.get? b=some o) :
  Inv (aS X N' scope s.heap.objs.size s H fp) [] (CU n cap σ) H {s with heap:=h1,toks:=tk}:=by
 have hfree:∀y∈scope.names,y.2= .free->∃c,X.env.cells.lookup y.1=some c:=λy hy e=>I.ok.has y.1 (.inl (S.frees y hy e))
 have sub:∀ {x:Str} {c:Ac},(GD scope X.env).lookup x=some c->X.env.cells.lookup x=some c:=λe=>kG hfree e
 have okY:(aS X N' scope s.heap.objs.size s H fp).Ok:=by
  refine ⟨I.ok.mod,S.kind,I.ok.glob,I.ok.blt,Nat.le_refl _,λx y c a b=>I.ok.inj x y c (sub a) (sub b),λx hx=>?_,λx c z=>absurd z Bool.false_ne_true,I.ok.hd,I.ok.frames,.inl rfl,λb hb=>⟨?_,λx c e=>(hf b hb).2.2.2.2.1 x c (sub e)⟩,
   I.bs,Nat.le_trans I.ok.bsz I.sz,λb o e hb=>?_,λb hb hs=>?_,I.stack,I.stkFree,I.tb⟩
  ·have mem:(x,NameKind.free)∈scope.names:=by
    have hx':(relabel scope X.env).names.lookup x=some .cell\/(relabel scope X.env).names.lookup x=some .free:=hx
    have go:∀k,(relabel scope X.env).names.lookup x=some k->(k= .cell\/k= .free)->(x,NameKind.free)∈scope.names:=λk e hk=>by
     obtain⟨y,hy,hz⟩:=List.mem_map.mp (gP e)
     obtain⟨yn,yk⟩:=y
     dsimp only at hz
     split at hz
     ·rename_i hc
      cases hz
      have:yk= .free:=by simp at hc;exact hc.1.1
      rw[<- this];exact hy
     ·cases hz
      rcases hk with rfl|rfl
      ·exact absurd rfl (S.nocell _ hy)
      ·exact hy
    rcases hx' with e|e
    ·exact go _ e (.inl rfl)
    ·exact go _ e (.inr rfl)
   exact zW mem
  ·exact Nat.ne_of_lt (hfs b hb)
  ·rcases (hf b hb).2.2.2.1 with z|z
   ·exact I.ok.noex b o e z
   ·exact absurd (Nat.lt_of_lt_of_le (Heap.lt_size e) I.ok.bsz) (Nat.not_lt.mpr z)
  ·rcases List.mem_cons.mp (I.stkSub b hs) with z|z
   ·exact (hf b hb).2.1 z
   ·exact (hf b hb).2.2.1 z
 refine⟨okY,rfl,⟨I.bare.1,λ_ _ e=>e⟩,Un.kept k,⟨m0,ns,λi x v e1 e2 e3=>?_⟩,λx c e=>?_,I.fresh,λx c e=>I.freeC x c (sub e),λp hp=>absurd hp (by simp[aS]),I.hok.kept k,?_⟩
 ·have e2':(List.replicate n none++cap.map λi=>σ.getD i none)[i]? =some (some v):=e2
  by_cases hi:i<n
  ·rw[List.getElem?_append_left (by simpa using hi),List.getElem?_replicate] at e2'
   split at e2'<;>cases e2'
  ·rw [List.getElem?_append_right (by simpa using Nat.le_of_not_lt hi),List.length_replicate,List.getElem?_map] at e2'
   cases hc:cap[i-n]? with
   |none=>rw[hc] at e2';cases e2'
   | some j=>
    rw[hc] at e2'
    have ev:σ.getD j none=some v:=Option.some.inj e2'
    have ex':(N'.drop n)[i-n]? =some x:=by rw[List.getElem?_drop,show n+(i-n)=i by omega];exact e1
    have exN:X.N[j]? =some x:=by
     rw[S.caps,List.getElem?_map,hc] at ex'
     have hj:=S.capl j (List.mem_of_getElem? hc)
     have z:X.N.getD j Str.empty=x:=Option.some.inj ex'
     rw[a0c,a0a hj] at z
     rw[a0a hj]
     exact congrArg some z
    have eσ:σ[j]? =some (some v):=by
     rw[a0c] at ev
     cases q:σ[j]? with
     |none=>rw[q] at ev;cases ev
     |some o=>rw[q] at ev;exact congrArg some ev
    have lf:=S.capf x (List.mem_of_getElem? ex')
    have mem:=gP lf
    have kx:X.env.kindOf x=some .cell:=S.frees _ mem rfl
    obtain⟨m,_,hl⟩:=I.loc
    obtain⟨u,ru,lu⟩:=hl j x v exN eσ (.inr (.inl kx))
    refine⟨u,ru,.inr ⟨?_,?_⟩⟩
    ·rcases e3 with z|z|z
     ·
      exfalso
      obtain⟨y,hy,hz⟩:=List.mem_map.mp (gP (show (relabel scope X.env).names.lookup x=some .local from z))
      obtain⟨yn,yk⟩:=y
      dsimp only at hz
      split at hz
      ·cases hz
      ·cases hz
       have l1:=S.names _ hy rfl
       rw[lf] at l1
       cases l1
     ·exact .inl z
     ·exact .inr z
    ·rcases lu with ⟨kl,_⟩|⟨_,c,hc',hcell⟩
     ·rw[kx] at kl;cases kl
     ·obtain⟨d,hd⟩:=zW (env:=X.env) mem
      have:=sub hd
      rw[hc'] at this
      cases this
      obtain⟨oc,h1',h2'⟩:=hcell
      exact⟨c,hd,oc,k c oc h1',h2'⟩
 ·obtain⟨v,oc,h1',h2'⟩:=I.cell x c (sub e)
  exact⟨v,oc,k c oc h1',h2'⟩
 ·show (List.replicate n none++cap.map λi=>σ.getD i none).length=N'.length
  rw[S.len];simp
theorem EO {prog:Program} {w:World} {A:Around} {R:Result->Shared->Prop} {s:Shared} {it acc:Value} {env:Env} (I:Nat->Shared->Prop)
  (turn:∀n s,I n s->wpAny (model prog w) A (pyNext it) (λr s1=>match r with
   |none=>R (.ok .next) s1
   | some v=>wpAny (model prog w) A (letOwnedTupleGo target it v) (λ_ s2=>wpAny (model prog w) A (assign target env v) (λ_ s3=>
     wpAny (model prog w) A (forIn ifs true λc r=>if r=true then do let ok <- isTrue c env (eval c env);pure (ForInStep.yield ok) else pure (ForInStep.yield r)) (λok s4=>
      if ok=true then wpAny (model prog w) A (eval elt env) (λx s5=>wpAny (model prog w) A (call (.builtin "list.append") [acc,x]) (λ_ s6=>∃m,m<n/\I m s6) (λ_ _=>False) s5) (λ_ _=>False) s4
      else ∃m,m<n/\I m s4) (λ_ _=>False) s3) (λ_ _=>False) s2) (λ_ _=>False) s1) (λ_ _=>False) s)
  (n:Nat) (h:I n s):codeAny (model prog w) A (.compLoop (.ListComp elt [⟨target,iter,ifs,0⟩] scope pos) 0 it acc env) R s:=by
 refine codeAny_loop rfl I (λn s hI=>?_) n h
 refine wpAny_noted (env:=env) (m:=compTurn (.ListComp elt [⟨target,iter,ifs,0⟩] scope pos) 0 it acc env) ?_
 rw[compTurn_list]
 have up:∀ {α:Type} {t:Sem α} {Q:α->Shared->Prop} {E:Value->Shared->Prop} {s:Shared},wpAny (model prog w) A t Q (λ_ _=>False) s->wpAny (model prog w) A t Q E s:=
  λh=>wpAny_mono h (λ_ _ q=>q) λ_ _ z=>z.elim
 refine a0b (wpAny_standAt (a0b (wpAny_mono (turn n s hI) (λr s1 h1=>?_) λ_ _ z=>z.elim)))
 cases r with
 |none=>exact a0d h1
 | some v=>
  refine a0b (wpAny_mono h1 (λ_ s2 h2=>?_) λ_ _ z=>z.elim)
  refine a0b (wpAny_mono h2 (λ_ s3 h3=>?_) λ_ _ z=>z.elim)
  refine a0b (wpAny_mono h3 (λok s4 h4=>?_) λ_ _ z=>z.elim)
  cases ok with
  |false=>exact a0d ⟨rfl,h4⟩
  | true=>
   refine a0b (a0b (wpAny_mono h4 (λx s5 h5=>?_) λ_ _ z=>z.elim))
   exact a0b (wpAny_mono h5 (λ_ s6 h6=>a0d (a0d ⟨rfl,h6⟩)) λ_ _ z=>z.elim)
theorem a0J (hc:X.calm=true) (S:LcOk X.N X.env.scope scope N' n cap) (hi:PI X target iter wi) (hg:∀C s H fp,PG (aS X N' scope C s H fp) target g)
  (ht:∀C s H fp,IT (aS X N' scope C s H fp) ifs tt) (he:∀C s H fp,PE (aS X N' scope C s H fp) elt te) (hs:∀x,foldedSetIterable iter X.env x=pure x:=by intro _;rfl) :
  PE X (.ListComp elt [⟨target,iter,ifs,0⟩] scope pos) (a38 wi g tt te n cap):=by
 intro pins s σ H Q I h
 have hfree:∀y∈scope.names,y.2= .free->∃c,X.env.cells.lookup y.1=some c:=λy hy e=>I.ok.has y.1 (.inl (S.frees y hy e))
 rw[eval_ListComp]
 refine wpAny_comprehension_free (use:=none) rfl hs (jD hfree) S.kind S.names ?_
 refine cH (hi pins s σ H _ I h) λv s1 h1=>cH h1 λitv s2 h2=>?_
 obtain⟨it,fp,tn,J,H2,rfl,I2,T,st2,f2,body⟩:=h2
 refine wpAny_newObj_type ?_
 have I3:=I2.lnew (ys:=[]) (its:=[]) (t':=s2.toks) .nil (Nat.zero_le _)
 have hacc:H2 s2.heap.objs.size=none:=I2.fresh
 obtain⟨W,⟨m0,w0⟩,turn⟩:=body _ hacc
 have hlt:∀b∈fp,b<s2.heap.objs.size:=λb hb=>by
  obtain⟨o,e,_⟩:=T.obj 0 _ st2 b hb
  exact Heap.lt_size e
 have hf3:∀b∈fp,iH X pins (b7 H2 s2.heap.objs.size (.lst [])) b:=λb hb=>
  ⟨by rw[aD (Nat.ne_of_lt (hlt b hb))];exact (f2 b hb).1,(f2 b hb).2⟩
 refine wpAny_newFunctionEnv S.nocell (by intro y hy;cases hy) (λh4 ns4 sb4=>?_) S.kind
 generalize hs3:({s2 with heap:=s2.heap.push {cls:=.type "list",dict:=none,data:=.seq ([]:List Value).toArray} }:Ab)=s3 at*
 have hsz:s2.heap.objs.size<s3.heap.objs.size:=by rw[<- hs3,Heap.size_push];exact Nat.lt_succ_self _
 have k4:∀b o,s3.heap.get? b=some o->h4.get? b=some o:=λb o e=>(sb4.2 b (Nat.ne_of_lt (Heap.lt_size e))).trans (a0e _ e)
 generalize hH3:b7 H2 s2.heap.objs.size (.lst [])=H3 at*
 have I3':Inv X pins σ H3 s3:=I3
 have IY:=nM (tk:=s3.toks+([]:List (Str×Value)).length) S I3' hf3 (λb hb=>Nat.lt_trans (hlt b hb) hsz) ns4 k4
 have fpY:∀H':Hp,(∀b∈fp,H' b=none)->∀b∈fp,iH (aS X N' scope s3.heap.objs.size s3 H3 fp) [] H' b:=λH' hn b hb=>by
  obtain⟨_,f1,f2',f3,f4,f5⟩:=hf3 b hb
  refine⟨hn b hb,Nat.ne_of_lt (Nat.lt_trans (hlt b hb) hsz),λz=>?_,.inl hb,λx c e=>f4 x c (kG hfree e),λp hp=>absurd hp (by simp[aS])⟩
  rcases List.mem_cons.mp (I3'.stkSub b z) with z|z
  ·exact f1 z
  ·exact f2' z
 have tn4:tn 0 h4:=T.keep 0 _ _ st2 λb hb o e=>k4 b o (by rw[<- hs3];exact a0e _ e)
 have loop:codeAny (model X.prog X.w) X.A (.compLoop (.ListComp elt [⟨target,iter,ifs,0⟩] scope pos) 0 (.ref it) (.ref s2.heap.objs.size) (aS X N' scope s3.heap.objs.size s3 H3 fp).env)
   (compPost (model X.prog X.w) X.A X.xe none (EP X pins σ Q) (.ref s2.heap.objs.size) s3.heap.objs.size) {s3 with heap:=h4,toks:=s3.toks+([]:List (Str×Value)).length}:=by
  refine EO (λk s'=>∃i σ' H',Inv (aS X N' scope s3.heap.objs.size s3 H3 fp) [] σ' H' s'/\tn i s'.heap/\(∀b∈fp,H' b=none)/\W i k σ' H') ?_ m0 ⟨0,_,_,IY,tn4,λb hb=>(hf3 b hb).1,w0⟩
  rintro k s5 ⟨i,σ5,H5,I5,st5,fr5,w5⟩
  rcases turn i k σ5 H5 w5 with ⟨stop,qn⟩|⟨go,Nn,hN,step⟩
  ·refine wpAny_mono (T.done (aS X N' scope s3.heap.objs.size s3 H3 fp) rfl rfl rfl hc i [] s5 σ5 H5 (λ_ _=>False) I5 (fpY H5 fr5) st5 stop) (λr s6 hr=>?_) (λ_ _ z=>z)
   obtain⟨rfl,I6⟩:=hr
   obtain⟨m,hn,_⟩:=I6.loc
   refine⟨m,hn,λh' hs'=>⟨.ref s2.heap.objs.size,H5,?_,rfl,qn⟩⟩
   have ub:=I6.base
   have ne:∀b o,s3.heap.get? b=some o->b≠s3.heap.objs.size:=λb o e=>Nat.ne_of_lt (Heap.lt_size e)
   refine I3'.call' (s':={s6 with heap:=h'}) (ch:=fp) I6.os ⟨λb o e z1 z2 z3=>(hs'.2 b (ne b o e)).trans (ub.keep b o e z1 z2 z3),λb o e z1 z2 z3=>?_,ub.free,λb o e z=>?_,ub.tups,ub.frzs,ub.tbls⟩ (qQ I6.hok I6.free hs') I6.bare λb hb=>⟨(hf3 b hb).2.2.2.1,(hf3 b hb).2.1,(hf3 b hb).2.2.2.2.1,(hf3 b hb).2.2.2.2.2⟩
   ·obtain⟨sl,e'⟩:=ub.slot b o e z1 z2 z3
    exact⟨sl,(hs'.2 b (ne b o e)).trans e'⟩
   ·obtain⟨o',e'⟩:=ub.there b o e z
    exact⟨o',(hs'.2 b (ne b o e)).trans e'⟩
  ·refine wpAny_mono (T.item (aS X N' scope s3.heap.objs.size s3 H3 fp) rfl rfl rfl hc i [] s5 σ5 H5 (λ_ _=>False) I5 (fpY H5 fr5) st5 go) (λr s6 h6=>?_) (λ_ _ z=>z)
   obtain⟨u,rfl,h6⟩:=h6
   refine wpAny_mono h6 (λ_ s7 h7=>?_) (λ_ _ z=>z)
   obtain⟨x,H7,I7,r7,y7,st7,fr7⟩:=h7
   have I7':=I7.pinned (fpY H7 fr7) (T.obj _ _ st7)
   have again:∀ {σ':St} {H':Hp} {s':Shared},Inv (aS X N' scope s3.heap.objs.size s3 H3 fp) ([]++mM fp s7.heap) σ' H' s'->Nn σ' H'->
     ∃m,m<k/\∃i σ' H',Inv (aS X N' scope s3.heap.objs.size s3 H3 fp) [] σ' H' s'/\tn i s'.heap/\(∀b∈fp,H' b=none)/\W i m σ' H':=fun {σ' H' s'} J7 n7=>by
    obtain⟨m',hm,w7⟩:=hN σ' H' n7
    have pin:∀b∈fp,∀o,s7.heap.get? b=some o->s'.heap.get? b=some o/\H' b=none:=λb hb o e=>by
     have z:=J7.pin (b,o) (List.mem_append_right _ (List.mem_append_right _ (dX hb e)))
     exact⟨z.1,z.2.1⟩
    refine⟨m',hm,i+1,σ',H',J7.unpinned,T.keep _ _ _ st7 λb hb o e=>(pin b hb o e).1,λb hb=>?_,w7⟩
    obtain⟨o,e,_⟩:=T.obj _ _ st7 b hb
    exact (pin b hb o e).2
   refine cH (hg _ _ _ _ _ s7 σ5 H7 x u _ I7' r7 (step x H7 y7)) λ_ s8 h8=>?_
   obtain⟨σ8,H8,I8,q8⟩:=h8
   refine cH (ht _ _ _ _ _ s8 σ8 H8 _ I8 q8) λok s9 h9=>?_
   obtain⟨H9,I9,q9⟩:=h9
   cases ok with
   | false=>
    rw[if_neg Bool.false_ne_true] at q9 ⊢
    exact again I9 q9
   | true=>
    rw[if_pos rfl] at q9 ⊢
    refine cH (he _ _ _ _ _ s9 σ8 H9 _ I9 q9) λxv s10 h10=>?_
    obtain⟨v',H10,I10,r10,ys,ha,hl,q10⟩:=h10
    refine cH (oS (X:=aS X N' scope s3.heap.objs.size s3 H3 fp) _ s10 σ8 H10 (.ref s2.heap.objs.size) [v'] (.ref s2.heap.objs.size) [xv] (λ_ H'=>Nn σ8 H') I10 rfl (.cons r10 .nil) ⟨_,ys,v',rfl,rfl,ha,hl,q10⟩) λ_ s11 h11=>?_
    obtain⟨_,H11,I11,_,q11⟩:=h11
    exact again I11 q11
 exact codeAny_compStart_list loop (T.self _ 0 _ _ _ tn4 loop)
end
section
variable{X:Cx}{pins:List (Ac×Obj)}{σ:St}{H:Hp}{s:Ab}
def Y1:List V->Hp->VK->Prop:=λxs H Q=>∃p ns,xs=[.ref p]/\H p=some (.lst (List.map V.int ns))/\Q (.int ns.sum) H
theorem ZJ(hc:X.calm=true):dI X (.builtin "sum") Y1:=by
 intro pins s σ H xs us Q I r h
 obtain⟨p,ns,rfl,hp,q⟩:=h
 obtain⟨u,rfl,ru⟩:=kZ r
 cases ru
 obtain⟨_,its,n,v,l,g⟩:=I.lstM hp
 have hi:IntsAre its ns:=mB v
 have hl:s.heap.IsList p its.toArray:=⟨_,g,rfl,n,rfl⟩
 obtain⟨ys,ey⟩:=hi.allInts.items
 rw[ey] at hl
 refine sum_intListG (I.ok.hd hc) hl λh' tk t' hk=>?_
 have e3:numsOf its.toArray.toList=ns:=hi.numsOf
 rw[ey,nums_intItems] at e3
 refine⟨.int ns.sum,H,I.kept hk,⟨t',?_⟩,q⟩
 rw[preSum_eq,List.take_of_length_le (by simp),e3]
theorem qB:∀ {xs:List V} {us:List Value},xs.length=us.length->(∀(i:Nat) (x:V) (u:Value),xs[i]? =some x->us[i]? =some u->bA x u)->aV xs us
 |[],[],_,_=>.nil
 |x::xs,u::us,h,k=>.cons (k 0 x u rfl rfl) (qB (by simpa using h) λi y v e1 e2=>k (i+1) y v (by simpa using e1) (by simpa using e2))
 |[],_::_,h,_=>by simp at h
 |_::_,[],h,_=>by simp at h
def a32:List V->Hp->VK->Prop:=λxs H Q=>∃j:Int,xs=[.int j]/\∀p,H p=none->Q (.ref p) (b7 H p (.rng 0 j))
theorem OI:dI X (.type "range") a32:=by
 intro pins s σ H xs us Q I r h
 obtain⟨j,rfl,q⟩:=h
 obtain⟨u,rfl,t,rfl⟩:=kZ r
 refine call_range_1 ?_
 exact⟨.ref s.heap.objs.size,_,I.laid (o:=.rng 0 j) (λb o e=>a0e _ e) (Nat.le_refl _) ⟨_,_,_,Heap.get?_push_size _ rfl⟩,rfl,q _ I.fresh⟩
def pL(m:Nat):List V:=(List.range m).map λ(i:Nat)=>V.int (i:Int)
def XZ:List V->Hp->VK->Prop:=λxs H Q=>∃p j,xs=[.ref p]/\H p=some (.rng 0 j)/\(0<=j/\j<=1000)/\∀l,H l=none->Q (.ref l) (b7 H l (.lst (pL j.toNat)))
theorem OH (hc:X.calm=true):dI X (.type "list") XZ:=by
 intro pins s σ H xs us Q I r h
 obtain⟨p,j,rfl,hp,hj,q⟩:=h
 obtain⟨u,rfl,ru⟩:=kZ r
 cases ru
 obtain⟨t1,t2,t3,g⟩:=(show bT X.prog X.w H s.heap p (.rng 0 j) from I.hok p _ hp)
 refine call_list_range (I.ok.hd hc) (n:=j.toNat) g (small_one (by decide) (by decide) (by omega) (by omega)) (by rw[rangeSize_one];split<;>omega) (Nat.le_trans (show j.toNat<=1000 by omega) (by decide)) λh' tk acc' c' hk hS' hacc=>?_
 refine⟨.ref s.heap.objs.size,_,I.laid (o:=.lst (pL j.toNat)) hk (Nat.le_refl _) ?_,rfl,q _ I.fresh⟩
 have hlen:(pL j.toNat).length=acc'.toList.length:=by
  unfold pL
  rw[a0f,List.length_range,Array.length_toList,hacc.1]
 refine⟨?_,acc'.toList,c',?_,by simpa using hS'⟩
 ·rw[hlen,Array.length_toList,hacc.1]
  exact Nat.le_trans (show j.toNat<=1000 by omega) (by decide)
 ·refine qB hlen λi x v e1 e2=>?_
  obtain⟨t,rfl⟩:=hacc.2 i v (by simpa using e2)
  have:x= .int (i:Int):=by
   unfold pL at e1
   rw[List.getElem?_map] at e1
   cases z:(List.range j.toNat)[i]? with
   |none=>rw[z] at e1;cases e1
   | some y=>
    rw[z] at e1
    have hy:y=i:=by
     have:=(List.getElem?_eq_some_iff.mp z).2
     simp at this;exact this.symm
    rw[hy] at e1
    exact (Option.some.inj e1).symm
  rw[this]
  exact⟨t,by rw[Int.mul_one,Int.zero_add]⟩
end
theorem fX {env:Env} (hk:env.scope.kind= .function):∀ {names:List (Str×NameKind)} {x:Str},names.lookup x=some .free->env.scope.names.lookup x=some .cell->
  (names.map λ(n,k)=>if (k==NameKind.free&&env.scope.kind== .function&&env.kindOf n==some .cell) then (n,NameKind.cell) else (n,k)).lookup x=some .cell
 | (n,k)::r,x,h,ho=>by
  rw[List.lookup_cons] at h
  rw[List.map_cons]
  by_cases e:x=n
  ·subst e
   rw[beq_self_eq_true] at h
   cases (Option.some.inj h:k= .free)
   have hc:(NameKind.free==NameKind.free&&env.scope.kind== .function&&env.kindOf x==some .cell)=true:=by
    rw[hk,show env.kindOf x=some .cell from ho];rfl
   dsimp only
   rw[if_pos hc,List.lookup_cons]
   simp
  ·have e':(x==n)=false:=by simpa using e
   rw[e'] at h
   have ih:=fX hk (names:=r) (x:=x) h ho
   dsimp only
   split
   ·rw[List.lookup_cons,e'];exact ih
   ·rw[List.lookup_cons,e'];exact ih
theorem hZ {env:Env}:∀ {names:List (Str×NameKind)} {x:Str},names.lookup x=some .globalImplicit->
  (names.map λ(n,k)=>if (k==NameKind.free&&env.scope.kind== .function&&env.kindOf n==some .cell) then (n,NameKind.cell) else (n,k)).lookup x=some .globalImplicit
 | (n,k)::r,x,h=>by
  rw[List.lookup_cons] at h
  rw[List.map_cons]
  by_cases e:x=n
  ·subst e
   rw[beq_self_eq_true] at h
   cases (Option.some.inj h:k= .globalImplicit)
   dsimp only
   rw[if_neg (by simp),List.lookup_cons]
   simp
  ·have e':(x==n)=false:=by simpa using e
   rw[e'] at h
   have ih:=hZ (env:=env) (names:=r) (x:=x) h
   dsimp only
   split
   ·rw[List.lookup_cons,e'];exact ih
   ·rw[List.lookup_cons,e'];exact ih
section
variable{X:Cx}{N':List Str}{scope:Scope}{C:Ac}{s:Ab}{H:Hp}{fp:List Ac}{i:Nat}{x:Str}{pos:Pos}
theorem a0S(hN:N'.Nodup)(hi:N'[i]? =some x)(h:scope.names.lookup x=some .local):QG (aS X N' scope C s H fp) (.Name x pos) (jV i):=F8 hN hi (Or.inl (lookup_relabel_local h)) (Or.inr (lookup_relabel_local h))
theorem MI(hi:N'[i]? =some x)(h:scope.names.lookup x=some .local)(hd:(x==("__debug__" : Str))=false)(hcd:(x==("__classdict__" : Str))=false):QE (aS X N' scope C s H fp) (.Name x pos) (eH i):=MF hi (Or.inl (lookup_relabel_local h)) hd hcd
theorem MG(hi:N'[i]? =some x)(h:scope.names.lookup x=some .free)(hk:X.env.scope.kind= .function)(ho:X.env.scope.names.lookup x=some .cell)(hd:(x==("__debug__" : Str))=false)(hcd:(x==("__classdict__" : Str))=false):QE (aS X N' scope C s H fp) (.Name x pos) (eH i):=
 MF hi (Or.inr (Or.inl (fX hk h ho))) hd hcd
theorem a0R(h:scope.names.lookup x=some .globalImplicit):(aS X N' scope C s H fp).env.scope.names.lookup x=some .globalImplicit:=hZ h
end
section
variable{X:Cx}{elt target iter:Expr}{ifs:List Expr}{scope:Scope}{pos:Pos}{N':List Str}{n:Nat}{cap:List Nat}{wi:TI}{g:TG}{tt:TT}{te:TE}
theorem yH(hc:X.calm=true):QC X (.builtin "sum") Y1:=⟨ZJ hc⟩
end
inductive PV where
 |non|bl (b:Bool)|int (i:Int)|str (x:Str)|ty (n:String)|st
 |scr (ns:List Int)
 |set (S:Int->Bool) (n:Nat)
 |lst (xs:List PV)|tup (xs:List PV)|dic (ks:List cI) (xs:List PV)
mutual
def PV.flat:PV->Bool
 |.lst _=>false
 |.dic _ _=>false
 |.st=>false
 |.scr _=>false
 |.tup xs=>PV.flats xs
 |_=>true
def PV.flats:List PV->Bool
 |[]=>true
 |x::xs=>x.flat&&PV.flats xs
end
theorem PV.flats_all:∀ {xs:List PV},PV.flats xs=true->∀x∈xs,x.flat=true
 | x::xs,h,y,hy=>by
  rw[PV.flats,Bool.and_eq_true] at h
  rcases List.mem_cons.mp hy with rfl|hy
  ·exact h.1
  ·exact PV.flats_all h.2 y hy
 |[],_,y,hy=>by cases hy
theorem PV.flats_of:∀ {xs:List PV},(∀x∈xs,x.flat=true)->PV.flats xs=true
 |[],_=>by rw[PV.flats]
 |x::xs,h=>by rw[PV.flats,Bool.and_eq_true];exact⟨h x List.mem_cons_self,PV.flats_of λy hy=>h y (List.mem_cons_of_mem _ hy)⟩
def HO.imm:HO->Bool
 |.tup _=>true
 |.set _ _=>true
 |_=>false
inductive Rep(G:Addr->Prop)(H:Hp):V->PV->Prop where
 |non:Rep G H .non .non
 |bl (b:Bool):Rep G H (.bl b) (.bl b)
 |int (i:Int):Rep G H (.int i) (.int i)
 |str (x:Str):Rep G H (.str x) (.str x)
 |ty (n:String):Rep G H (.ty n) (.ty n)
 |set {a:Ac} {S:Int->Bool} {n:Nat}:H a=some (.set S n)->Rep G H (.ref a) (.set S n)
 |lst {a:Ac} {vs:List V} {xs:List PV}:G a->H a=some (.lst vs)->vs.length=xs.length->(∀(i:Nat) (v:V) (x:PV),vs[i]? =some v->xs[i]? =some x->Rep G H v x)->Rep G H (.ref a) (.lst xs)
 |tup {a:Ac} {vs:List V} {xs:List PV}:H a=some (.tup vs)->vs.length=xs.length->(∀(i:Nat) (v:V) (x:PV),vs[i]? =some v->xs[i]? =some x->Rep G H v x)->Rep G H (.ref a) (.tup xs)
 |dic {a:Ac} {ks:List cI} {vs:List V} {xs:List PV}:G a->H a=some (.dK (ks.zip vs))->ks.length=vs.length->vs.length=xs.length->(∀(i:Nat) (v:V) (x:PV),vs[i]? =some v->xs[i]? =some x->Rep G H v x)->Rep G H (.ref a) (.dic ks xs)
structure Reps(G:Addr->Prop)(H:Hp)(vs:List V)(xs:List PV):Prop where
 len:vs.length=xs.length
 at_:∀(i:Nat) (v:V) (x:PV),vs[i]? =some v->xs[i]? =some x->Rep G H v x
inductive Body(G:Addr->Prop)(H:Hp):HO->PV->Prop where
 |lst {vs:List V} {xs:List PV}:Reps G H vs xs->Body G H (.lst vs) (.lst xs)
 |dic {ks:List cI} {vs:List V} {xs:List PV}:ks.length=vs.length->Reps G H vs xs->Body G H (.dK (ks.zip vs)) (.dic ks xs)
section
variable{G G':Ac->Prop}{H H':Hp}{v:V}{x:PV}{vs us:List V}{xs ys:List PV}
theorem Rep.mono(r:Rep G H v x)(hG:∀a,G a->G' a)(hk:∀a o,(G a\/o.imm=true)->H a=some o->H' a=some o):Rep G' H' v x:=by
 induction r with
 |non=>exact .non
 |bl b=>exact .bl b
 |int i=>exact .int i
 |str x=>exact .str x
 |ty n=>exact .ty n
 |set e=>exact .set (hk _ _ (.inr rfl) e)
 |lst g e l _ ih=>exact .lst (hG _ g) (hk _ _ (.inl g) e) l ih
 |tup e l _ ih=>exact .tup (hk _ _ (.inr rfl) e) l ih
 |dic g e l1 l _ ih=>exact .dic (hG _ g) (hk _ _ (.inl g) e) l1 l ih
theorem Rep.weak(r:Rep G H v x)(hG:∀a,G a->G' a):Rep G' H v x:=r.mono hG λ_ _ _ e=>e
theorem Reps.mono(r:Reps G H vs xs)(hG:∀a,G a->G' a)(hk:∀a o,(G a\/o.imm=true)->H a=some o->H' a=some o):Reps G' H' vs xs:=
 ⟨r.len,λi v x e1 e2=>(r.at_ i v x e1 e2).mono hG hk⟩
theorem Reps.weak(r:Reps G H vs xs)(hG:∀a,G a->G' a):Reps G' H vs xs:=r.mono hG λ_ _ _ e=>e
theorem Body.mono{o:HO}(r:Body G H o x)(hG:∀a,G a->G' a)(hk:∀a o,(G a\/o.imm=true)->H a=some o->H' a=some o):Body G' H' o x:=by
 cases r with
 |lst h=>exact .lst (h.mono hG hk)
 |dic l h=>exact .dic l (h.mono hG hk)
theorem Body.rep{o:HO}{a:Addr}(b:Body G H o x)(g:G a)(e:H a=some o):Rep G H (.ref a) x:=by
 cases b with
 |lst h=>exact .lst g e h.len h.at_
 |dic l h=>exact .dic g e l h.len h.at_
theorem Rep.flat (r:Rep G H v x) (h:x.flat=true):Rep (λ_=>False) H v x:=by
 induction r with
 |non=>exact .non
 |bl b=>exact .bl b
 |int i=>exact .int i
 |str x=>exact .str x
 |ty n=>exact .ty n
 |set e=>exact .set e
 |lst g e l _ ih=>rw[PV.flat] at h;cases h
 |dic g e l1 l _ ih=>rw[PV.flat] at h;cases h
 | tup e l _ ih=>
  rw[PV.flat] at h
  exact .tup e l λi v x e1 e2=>ih i v x e1 e2 (PV.flats_all h x (List.mem_of_getElem? e2))
theorem Reps.nil:Reps G H [] []:=⟨rfl,λi v x e=>by simp at e⟩
theorem Reps.cons(h:Rep G H v x)(r:Reps G H vs xs):Reps G H (v::vs) (x::xs):=⟨by simp[r.len],λi w y e1 e2=>by
 cases i with
 |zero=>simp at e1 e2;subst e1 e2;exact h
 |succ i=>simp at e1 e2;exact r.at_ i w y e1 e2⟩
theorem Reps.append (r:Reps G H vs xs) (q:Reps G H us ys):Reps G H (vs++us) (xs++ys):=⟨by simp[r.len,q.len],λi w y e1 e2=>by
 by_cases h:i<vs.length
 ·rw[List.getElem?_append_left h] at e1
  rw[List.getElem?_append_left (by rw[<- r.len];exact h)] at e2
  exact r.at_ i w y e1 e2
 ·rw[List.getElem?_append_right (by omega)] at e1
  rw[List.getElem?_append_right (by rw[<- r.len];omega),<- r.len] at e2
  exact q.at_ _ w y e1 e2⟩
theorem Reps.get(r:Reps G H vs xs){i:Nat}(e:xs[i]? =some x):∃v,vs[i]? =some v/\Rep G H v x:=by
 have h:i<vs.length:=by rw[r.len];exact (List.getElem?_eq_some_iff.mp e).1
 exact⟨vs[i],a0a h,r.at_ i _ _ (a0a h) e⟩
theorem Reps.getV(r:Reps G H vs xs){i:Nat}(e:vs[i]? =some v):∃x,xs[i]? =some x/\Rep G H v x:=by
 have h:i<xs.length:=by rw[<- r.len];exact (List.getElem?_eq_some_iff.mp e).1
 exact⟨xs[i],a0a h,r.at_ i _ _ e (a0a h)⟩
theorem Reps.set (r:Reps G H vs xs) (h:Rep G H v x) (j:Nat):Reps G H (vs.set j v) (xs.set j x):=⟨by simp[r.len],λi w y e1 e2=>by
 rw[List.getElem?_set] at e1 e2
 by_cases hj:j=i
 ·subst hj
  simp only[if_true] at e1 e2
  split at e1
  ·split at e2
   ·cases e1;cases e2;exact h
   ·cases e2
  ·cases e1
 ·rw[if_neg hj] at e1 e2
  exact r.at_ i w y e1 e2⟩
theorem Reps.drop(r:Reps G H vs xs)(n:Nat):Reps G H (vs.drop n) (xs.drop n):=⟨by simp[r.len],λi w y e1 e2=>by
 rw[List.getElem?_drop] at e1 e2;exact r.at_ _ w y e1 e2⟩
theorem Reps.take(r:Reps G H vs xs)(n:Nat):Reps G H (vs.take n) (xs.take n):=⟨by simp[r.len],λi w y e1 e2=>by
 rw[List.getElem?_take] at e1 e2
 split at e1
 ·rename_i h;rw[if_pos h] at e2;exact r.at_ _ w y e1 e2
 ·cases e1⟩
theorem Reps.rep(r:Reps G H vs xs):∀k:Nat,Reps G H (List.replicate k vs).flatten (List.replicate k xs).flatten
 |0=>Reps.nil
 |k+1=>by rw[List.replicate_succ,List.replicate_succ,List.flatten_cons,List.flatten_cons];exact r.append (Reps.rep r k)
theorem Reps.eraseIdx(r:Reps G H vs xs)(k:Nat):Reps G H (vs.eraseIdx k) (xs.eraseIdx k):=by
 rw[List.eraseIdx_eq_take_drop_succ,List.eraseIdx_eq_take_drop_succ];exact (r.take _).append (r.drop _)
theorem Rep.ofList(r:Rep G H v (.lst xs)):∃a vs,v= .ref a/\G a/\H a=some (.lst vs)/\Reps G H vs xs:=by
 cases r with
 |lst g e l h=>exact⟨_,_,rfl,g,e,l,h⟩
theorem Rep.ofTup(r:Rep G H v (.tup xs)):∃a vs,v= .ref a/\H a=some (.tup vs)/\Reps G H vs xs:=by
 cases r with
 |tup e l h=>exact⟨_,_,rfl,e,l,h⟩
theorem Rep.ofDic{ks:List cI}(r:Rep G H v (.dic ks xs)):∃a vs,v= .ref a/\G a/\H a=some (.dK (ks.zip vs))/\ks.length=vs.length/\Reps G H vs xs:=by
 cases r with
 |dic g e l1 l h=>exact⟨_,_,rfl,g,e,l1,l,h⟩
theorem Rep.ofInt{i:Int}(r:Rep G H v (.int i)):v= .int i:=by cases r;rfl
theorem Rep.ofBl{b:Bool}(r:Rep G H v (.bl b)):v= .bl b:=by cases r;rfl
theorem Rep.ofStr{z:Str}(r:Rep G H v (.str z)):v= .str z:=by cases r;rfl
theorem Rep.ofNon(r:Rep G H v .non):v= .non:=by cases r;rfl
theorem Rep.ofTy{n:String}(r:Rep G H v (.ty n)):v= .ty n:=by cases r;rfl
theorem flats_reps(r:Reps G H vs xs)(h:PV.flats xs=true):Reps (λ_=>False) H vs xs:=⟨r.len,λi v x e1 e2=>(r.at_ i v x e1 e2).flat (PV.flats_all h x (List.mem_of_getElem? e2))⟩
end
structure Wd where
 K:Aa
 F:Ac->Prop
 S:Ac->Prop
 L:Ac->Prop
 Z:Ac->Prop
structure Wok(W:Wd)(H:Hp):Prop where
 fF:∀a,W.F a->∃o,H a=some o
 sS:∀a,W.S a->a26 H a
 dj:∀a,W.F a->¬W.S a
 zZ:∀a,W.Z a->∃o,H a=some o
 zF:∀a,W.Z a->¬W.F a
 zS:∀a,W.Z a->¬W.S a
structure Go(W:Wd)(H:Hp)(W':Wd)(H':Hp):Prop where
 lF:∀a,W.F a->W'.F a
 lS:∀a,W.S a->W'.S a
 nF:∀a,W'.F a->W.F a\/H a=none
 nS:∀a,W'.S a->W.S a\/H a=none
 kp:∀a o,H a=some o->¬W.S a->H' a=some o
 ok:Wok W' H'
 kk:W'.K=W.K
 kl:W'.L=W.L
 lZ:∀a,W.Z a->W'.Z a
 nZ:∀a,W'.Z a->W.Z a\/H a=none
section
variable{W W' W1 W2:Wd}{H H' H1 H2 B:Hp}{v:V}{x:PV}
theorem Wok.imm(w:Wok W H){a:Addr}{o:HO}(e:H a=some o)(i:o.imm=true):¬W.S a:=λs=>by
 obtain⟨_,_,_,z,_⟩:=w.sS a s
 rw[e] at z;cases z;cases i
theorem Go.refl(h:Wok W H):Go W H W H:=⟨λ_ h=>h,λ_ h=>h,λ_ h=>.inl h,λ_ h=>.inl h,λ_ _ h _=>h,h,rfl,rfl,λ_ h=>h,λ_ h=>.inl h⟩
theorem Go.free (g:Go W H W' H') {a:Addr} (h:H' a=none):H a=none:=by
 cases e:H a with
 |none=>rfl
 | some o=>
  by_cases s:W.S a
  ·obtain⟨_,_,_,z,_⟩:=g.ok.sS a (g.lS a s)
   rw[z] at h;cases h
  ·rw[g.kp a o e s] at h;cases h
theorem Go.trans (g:Go W H W1 H1) (k:Go W1 H1 W2 H2):Go W H W2 H2 where
 lF:=λa h=>k.lF a (g.lF a h)
 lS:=λa h=>k.lS a (g.lS a h)
 nF:=λa h=>by
  rcases k.nF a h with z|z
  ·exact g.nF a z
  ·exact .inr (g.free z)
 nS:=λa h=>by
  rcases k.nS a h with z|z
  ·exact g.nS a z
  ·exact .inr (g.free z)
 kp:=λa o e s=>by
  refine k.kp a o (g.kp a o e s) λz=>?_
  rcases g.nS a z with q|q
  ·exact s q
  ·rw[e] at q;cases q
 ok:=k.ok
 kk:=k.kk.trans g.kk
 kl:=k.kl.trans g.kl
 lZ:=λa h=>k.lZ a (g.lZ a h)
 nZ:=λa h=>by
  rcases k.nZ a h with z|z
  ·exact g.nZ a z
  ·exact .inr (g.free z)
theorem Go.nSS(g:Go W H W' H'){a:Addr}{o:HO}(e:H a=some o)(s:¬W.S a):¬W'.S a:=λz=>by
 rcases g.nS a z with q|q
 ·exact s q
 ·rw[e] at q;cases q
theorem Go.nFF(g:Go W H W' H'){a:Addr}{o:HO}(e:H a=some o)(s:¬W.F a):¬W'.F a:=λz=>by
 rcases g.nF a z with q|q
 ·exact s q
 ·rw[e] at q;cases q
theorem Go.nZZ(g:Go W H W' H'){a:Addr}{o:HO}(e:H a=some o)(s:¬W.Z a):¬W'.Z a:=λz=>by
 rcases g.nZ a z with q|q
 ·exact s q
 ·rw[e] at q;cases q
theorem Go.rep(g:Go W H W' H')(w:Wok W H){G G':Addr->Prop}(hs:∀a,G a->¬W.S a)(hG:∀a,G a->G' a)(r:Rep G H v x):Rep G' H' v x:=
 r.mono hG λa o h e=>g.kp a o e (h.elim (hs a) (w.imm e))
theorem Go.reps(g:Go W H W' H')(w:Wok W H){G G':Ac->Prop}(hs:∀a,G a->¬W.S a)(hG:∀a,G a->G' a){vs:List V}{xs:List PV}(r:Reps G H vs xs):Reps G' H' vs xs:=⟨r.len,λi _ _ e1 e2=>g.rep w hs hG (r.at_ i _ _ e1 e2)⟩
theorem Go.body(g:Go W H W' H')(w:Wok W H){G G':Addr->Prop}(hs:∀a,G a->¬W.S a)(hG:∀a,G a->G' a){o:HO}(r:Body G H o x):Body G' H' o x:=
 r.mono hG λa o h e=>g.kp a o e (h.elim (hs a) (w.imm e))
theorem Go.bw(g:Go W H W' H')(w:Wok W H)(r:Rep (λa=>¬W.S a) H v x):Rep (λa=>¬W'.S a) H' v x:=by
 induction r with
 |non=>exact .non
 |bl b=>exact .bl b
 |int i=>exact .int i
 |str x=>exact .str x
 |ty n=>exact .ty n
 |set e=>exact .set (g.kp _ _ e (w.imm e rfl))
 |lst gg e l _ ih=>exact .lst (g.nSS e gg) (g.kp _ _ e gg) l ih
 |tup e l _ ih=>exact .tup (g.kp _ _ e (w.imm e rfl)) l ih
 |dic gg e l1 l _ ih=>exact .dic (g.nSS e gg) (g.kp _ _ e gg) l1 l ih
end
inductive El where
 |fl|sn|sh
 deriving DecidableEq
def El.G:El->(Addr->Prop)->Hp->Addr->Prop
 |.fl,_,_=>λ_=>False
 |.sn,F,B=>λa=>F a/\B a=none
 |.sh,F,_=>F
def El.le:El->El->Bool
 |.fl,_=>true
 |.sn,.fl=>false
 |.sn,_=>true
 |.sh,.sh=>true
 |.sh,_=>false
theorem El.leG{e e':El}(h:e.le e'=true){F:Addr->Prop}{B:Hp}{a:Addr}(g:e.G F B a):e'.G F B a:=by
 cases e<;>cases e'<;>first|exact g|exact g.elim|exact g.1|cases h
theorem El.GF{e:El}{F:Addr->Prop}{B:Hp}{a:Addr}(g:e.G F B a):F a:=by
 cases e with
 |fl=>exact g.elim
 |sn=>exact g.1
 |sh=>exact g
theorem El.up{e:El}{F F':Addr->Prop}{B B':Hp}{a:Addr}(hF:∀a,F a->F' a)(hB:∀a,B a=none->B' a=none)(g:e.G F B a):e.G F' B' a:=by
 cases e with
 |fl=>exact g
 |sn=>exact⟨hF a g.1,hB a g.2⟩
 |sh=>exact hF a g
inductive Md where
 |no|bw|v (e:El)|o (e:El)|z (e:El)|p (e:El)|c (e:El)|st|scr|n
 deriving DecidableEq
def Md.lent:Md->Bool
 |.bw=>true
 |.p _=>true
 |.c _=>true
 |_=>false
def RepP(G S:Ac->Prop)(H:Hp)(v:V)(x:PV):Prop:=Rep G H v x\/∃a o,v= .ref a/\¬S a/\H a=some o/\Body G H o x
def Md.own:Md->Bool
 |.o _=>true
 |_=>false
def ScrAt(K:PySem.W.Frag)(H:Hp)(a:Addr)(ns:List Int):Prop:=(∃o,H a=some (.frz o (.lst (ns.map V.int))))\/
 ∃(o:Obj) (its:Array Value) (n:Nat),K.lookup a=some o/\o.cls= .type "list"/\o.dict=none/\o.data= .seq its n/\its.size<=sizeLine/\aV (ns.map V.int) its.toList
theorem ScrAt.sq{K:PySem.W.Frag}{H:Hp}{a:Addr}{ns:List Int}(h:ScrAt K H a ns):cS K H a (ns.map V.int):=by
 rcases h with h|h
 ·exact .inl (.inr h)
 ·exact .inr h
structure OwnL(e:El)(B H:Hp)(W':Wd)(H':Hp)(a:Addr)(o:HO)(x:PV):Prop where
 new:H a=none
 nF:¬W'.F a
 nS:¬W'.S a
 at_:H' a=some o
 its:Body (e.G W'.F B) H' o x
 nZ:¬W'.Z a
structure FrzL(e:El)(B:Hp)(W':Wd)(H':Hp)(a:Addr)(o:HO)(x:PV):Prop where
 new:B a=none
 F:W'.F a
 at_:H' a=some o
 its:Body (e.G W'.F B) H' o x
def ResE(B H:Hp)(W':Wd)(H':Hp)(m:Md)(v:V)(x:PV):Prop:=
 match m with
 |.no=>True
 |.bw=>Rep (λa=>¬W'.S a) H' v x
 |.v e=>Rep (e.G W'.F B) H' v x
 |.st=>∃p,v= .ref p/\x= .st/\W'.S p
 |.scr=>∃a ns,v= .ref a/\x= .scr ns/\ScrAt W'.K H' a ns
 |.o e=>∃a o,v= .ref a/\OwnL e B H W' H' a o x
 |.z e=>∃a o,v= .ref a/\FrzL e B W' H' a o x
 |.p e=>RepP (e.G W'.F B) W'.S H' v x
 |.c e=>∃a o,v= .ref a/\W'.L a/\¬W'.S a/\H' a=some o/\Body (e.G W'.F B) H' o x
 |.n=>Rep (λa=>W'.Z a/\B a=none) H' v x
section
variable{W W' W1 W2:Wd}{B H H' H1 H2:Hp}{m n:Md}{e e':El}{v:V}{x:PV}
theorem El.nS(w:Wok W H){a:Ac}(g:e.G W.F B a):¬W.S a:=w.dj a (El.GF g)
theorem OwnL.go{a:Addr}{o:HO}(r:OwnL e B H W1 H1 a o x)(w:Wok W1 H1)(g:Go W1 H1 W2 H2):OwnL e B H W2 H2 a o x where
 new:=r.new
 nF:=g.nFF r.at_ r.nF
 nS:=g.nSS r.at_ r.nS
 at_:=g.kp a _ r.at_ r.nS
 its:=g.body w (λ_ h=>El.nS w h) (λ_ h=>El.up g.lF (λ_ z=>z) h) r.its
 nZ:=g.nZZ r.at_ r.nZ
theorem FrzL.go{a:Addr}{o:HO}(r:FrzL e B W1 H1 a o x)(w:Wok W1 H1)(g:Go W1 H1 W2 H2):FrzL e B W2 H2 a o x where
 new:=r.new
 F:=g.lF a r.F
 at_:=g.kp a _ r.at_ (w.dj a r.F)
 its:=g.body w (λ_ h=>El.nS w h) (λ_ h=>El.up g.lF (λ_ z=>z) h) r.its
theorem ResE.go (r:ResE B H W1 H1 m v x) (w:Wok W1 H1) (g:Go W1 H1 W2 H2):ResE B H W2 H2 m v x:=by
 cases m with
 |no=>trivial
 |bw=>exact g.bw w r
 |v e=>exact g.rep w (λ_ h=>El.nS w h) (λ_ h=>El.up g.lF (λ_ z=>z) h) r
 |st=>obtain⟨p,e1,e2,s⟩:=r;exact⟨p,e1,e2,g.lS p s⟩
 | scr=>
  obtain⟨a,ns,e1,e2,s⟩:=r
  refine⟨a,ns,e1,e2,?_⟩
  rcases s with ⟨o,s⟩|s
  ·exact .inl ⟨o,g.kp a _ s λz=>by obtain⟨_,_,_,q,_⟩:=w.sS a z;rw[s] at q;cases q⟩
  ·exact .inr (by rw[g.kk];exact s)
 |o e=>obtain⟨a,ho,e1,q⟩:=r;exact⟨a,ho,e1,q.go w g⟩
 |z e=>obtain⟨a,ho,e1,q⟩:=r;exact⟨a,ho,e1,q.go w g⟩
 | p e=>
  rcases r with r|⟨a,ho,e1,s,h,b⟩
  ·exact .inl (g.rep w (λ_ h=>El.nS w h) (λ_ h=>El.up g.lF (λ_ z=>z) h) r)
  ·exact .inr ⟨a,ho,e1,g.nSS h s,g.kp a _ h s,g.body w (λ_ h=>El.nS w h) (λ_ h=>El.up g.lF (λ_ z=>z) h) b⟩
 | c e=>
  obtain⟨a,ho,e1,l,s,h,b⟩:=r
  exact⟨a,ho,e1,by rw[g.kl];exact l,g.nSS h s,g.kp a _ h s,g.body w (λ_ h=>El.nS w h) (λ_ h=>El.up g.lF (λ_ z=>z) h) b⟩
 |n=>exact g.rep w (λa h=>w.zS a h.1) (λa h=>⟨g.lZ a h.1,h.2⟩) r
theorem ResE.base(g:Go W H W1 H1)(r:ResE B H1 W2 H2 m v x):ResE B H W2 H2 m v x:=by
 cases m with
 |o e=>obtain⟨a,ho,e1,o⟩:=r;exact⟨a,ho,e1,g.free o.new,o.nF,o.nS,o.at_,o.its,o.nZ⟩
 |_=>exact r
def Md.len:Md->Bool
 |.no=>false
 |.st=>false
 |.scr=>false
 |_=>true
theorem Body.lend{G:Addr->Prop}{o:HO}{a:Addr}(b:Body G H o x)(w:Wok W H)(hG:∀a,G a->W.F a)(nS:¬W.S a)(e:H a=some o):Rep (λa=>¬W.S a) H (.ref a) x:=
 (b.mono (G':=λa=>¬W.S a) (λc hc=>w.dj c (hG c hc)) λ_ _ _ e=>e).rep nS e
theorem ResE.lend (r:ResE B H W1 H1 m v x) (w:Wok W1 H1) (hm:m.len=true):Rep (λa=>¬W1.S a) H1 v x:=by
 cases m with
 |no=>cases hm
 |bw=>exact r
 |v e=>exact Rep.weak r λ_ h=>El.nS w h
 |st=>cases hm
 |scr=>cases hm
 |o e=>obtain⟨a,ho,rfl,o⟩:=r;exact o.its.lend w (λ_ h=>El.GF h) o.nS o.at_
 |z e=>obtain⟨a,ho,rfl,o⟩:=r;exact o.its.lend w (λ_ h=>El.GF h) (w.dj a o.F) o.at_
 | p e=>
  rcases r with r|⟨a,ho,rfl,s,h,b⟩
  ·exact Rep.weak r λ_ h=>El.nS w h
  ·exact b.lend w (λ_ h=>El.GF h) s h
 | c e=>
  obtain⟨a,ho,rfl,l,s,h,b⟩:=r
  exact b.lend w (λ_ h=>El.GF h) s h
 |n=>exact Rep.weak r λa h=>w.zS a h.1
def Md.le:Md->Md->Bool
 |.v e,.v e'=>e.le e'
 |.o e,.o e'=>e.le e'
 |.z e,.z e'=>e.le e'
 |.z e,.v .sn=>e.le .sn
 |.z _,.v .sh=>true
 |.v e,.p e'=>e.le e'
 |.o e,.p e'=>e.le e'
 |.z e,.p e'=>e.le e'
 |.p e,.p e'=>e.le e'
 |.c e,.p e'=>e.le e'
 |m,.bw=>m.len
 |_,.no=>true
 |m,n=>decide (m=n)
theorem ResE.le (r:ResE B H W' H' m v x) (w:Wok W' H') (h:m.le n=true):ResE B H W' H' n v x:=by
 cases n with
 |no=>trivial
 |bw=>exact r.lend w (by cases m<;>first|exact h|rfl)
 | v e'=>
  cases m with
  |v e=>exact Rep.weak r λ_ g=>El.leG h g
  | z e=>
   obtain⟨a,ho,rfl,o⟩:=r
   cases e' with
   |fl=>cases h
   |sn=>exact (o.its.mono (G':=El.sn.G W'.F B) (λ_ g=>El.leG (show e.le .sn=true from h) g) λ_ _ _ e=>e).rep ⟨o.F,o.new⟩ o.at_
   |sh=>exact (o.its.mono (G':=El.sh.G W'.F B) (λ_ g=>El.GF g) λ_ _ _ e=>e).rep o.F o.at_
  |_=>cases h
 | o e'=>
  cases m with
  |o e=>obtain⟨a,ho,rfl,o⟩:=r;exact⟨a,ho,rfl,o.new,o.nF,o.nS,o.at_,o.its.mono (λ_ g=>El.leG h g) λ_ _ _ e=>e,o.nZ⟩
  |_=>cases h
 | z e'=>
  cases m with
  |z e=>obtain⟨a,ho,rfl,o⟩:=r;exact⟨a,ho,rfl,o.new,o.F,o.at_,o.its.mono (λ_ g=>El.leG h g) λ_ _ _ e=>e⟩
  |_=>cases h
 | p e'=>
  cases m with
  |v e=>exact .inl (Rep.weak r λ_ g=>El.leG h g)
  |o e=>obtain⟨a,ho,rfl,q⟩:=r;exact .inr ⟨a,ho,rfl,q.nS,q.at_,q.its.mono (λ_ g=>El.leG h g) λ_ _ _ e=>e⟩
  |z e=>obtain⟨a,ho,rfl,q⟩:=r;exact .inr ⟨a,ho,rfl,w.dj a q.F,q.at_,q.its.mono (λ_ g=>El.leG h g) λ_ _ _ e=>e⟩
  | p e=>
   rcases r with r|⟨a,ho,rfl,s,hh,b⟩
   ·exact .inl (Rep.weak r λ_ g=>El.leG h g)
   ·exact .inr ⟨a,ho,rfl,s,hh,b.mono (λ_ g=>El.leG h g) λ_ _ _ e=>e⟩
  | c e=>
   obtain⟨a,ho,rfl,l,s,hh,b⟩:=r
   exact .inr ⟨a,ho,rfl,s,hh,b.mono (λ_ g=>El.leG h g) λ_ _ _ e=>e⟩
  |_=>cases h
 |st=>cases m<;>first|exact r|cases h
 |scr=>cases m<;>first|exact r|cases h
 |n=>cases m<;>first|exact r|cases h
 |c=>cases m<;>first|exact r|cases h|(simp[Md.le] at h;subst h;exact r)
end
abbrev b5:=List (Option PV)
def fG(md:List Md):Bool:=md.all (λm=>!m.lent)||md.all (λm=>!m.own)
theorem fZ {md:List Md} (h:fG md=true) {i j:Nat} (hi:(md.getD i .no).own=true):(md.getD j .no).lent=false:=by
 refine Bool.eq_false_iff.mpr ?_
 intro hj
 unfold fG at h
 rw[Bool.or_eq_true,List.all_eq_true,List.all_eq_true] at h
 rw[a0c] at hi hj
 cases e1:md[i]? with
 |none=>rw[e1] at hi;cases hi
 | some a=>
  cases e2:md[j]? with
  |none=>rw[e2] at hj;cases hj
  | some b=>
   rw[e1] at hi;rw[e2] at hj
   rcases h with h|h
   ·have:=h b (List.mem_of_getElem? e2)
    simp at this hj;rw[hj] at this;cases this
   ·have:=h a (List.mem_of_getElem? e1)
    simp at this hi;rw[hi] at this;cases this
structure Rl(K:PySem.W.Frag)(md:List Md)(W0:Wd)(H0:Hp)(W:Wd)(σ:St)(env:b5)(H:Hp):Prop where
 ok0:Wok W0 H0
 go:Go W0 H0 W H
 len:σ.length=env.length
 slot:∀(i:Nat) (x:PV),env[i]? =some (some x)->∃v,σ[i]? =some (some v)/\ResE H0 H0 W H (md.getD i .no) v x
 sep:∀(i j:Nat) (x y:PV) (a:Ac),i≠j->(md.getD i .no).own=true->(md.getD j .no).own=true->env[i]? =some (some x)->env[j]? =some (some y)->σ[i]? =some (some (.ref a))->σ[j]? =some (some (.ref a))->False
 bws:fG md=true
 kk:W.K=K
section
variable{K:Aa}{md md':List Md}{W0 W W' W1:Wd}{H0 H H' H1:Hp}{σ:St}{env:b5}{m:Md}{e:El}{v:V}{x:PV}{i:Nat}
theorem Rl.ok(R:Rl K md W0 H0 W σ env H):Wok W H:=R.go.ok
theorem Rl.step (R:Rl K md W0 H0 W σ env H) (g:Go W H W' H'):Rl K md W0 H0 W' σ env H':=
 ⟨R.ok0,R.go.trans g,R.len,λi x e=>by
  obtain⟨v,h1,h2⟩:=R.slot i x e
  exact⟨v,h1,h2.go R.ok g⟩,R.sep,R.bws,g.kk.trans R.kk⟩
theorem cO {md:List Md} {m:Md} {i j:Nat}:(md.set i m).getD j .no=if i=j/\j<md.length then m else md.getD j .no:=by
 rw[a0c,List.getElem?_set,a0c]
 by_cases h:i=j
 ·subst h
  by_cases h2:i<md.length
  ·simp[h2]
  ·simp[h2]
 ·simp[h]
theorem Md.ofOwn(h:m.own=true):∃e,m= .o e:=by
 cases m with
 |o e=>exact⟨e,rfl⟩
 |_=>cases h
theorem Rl.set (R:Rl K md W0 H0 W1 σ env H1) (g:Go W1 H1 W H) (r:ResE H0 H1 W H m v x) (hm:fG (md.set i m)=true) (hi:i<md.length):Rl K (md.set i m) W0 H0 W (σ.set i (some v)) (env.set i (some x)) H:=by
 have R':=R.step g
 refine⟨R.ok0,R'.go,by simp[R.len],λj y e=>?_,λj k y z a hjk oj ok ej ek sj sk=>?_,hm,R'.kk⟩
 ·rw [List.getElem?_set] at e
  by_cases h:i=j
  ·subst h
   rw[if_pos rfl] at e
   split at e
   ·rename_i hl
    cases e
    refine⟨v,by rw[List.getElem?_set,if_pos rfl,if_pos (by rw[R.len];exact hl)],?_⟩
    rw[cO,if_pos ⟨rfl,hi⟩]
    exact ResE.base R.go r
   ·cases e
  ·rw[if_neg h] at e
   obtain⟨w,h1,h2⟩:=R'.slot j y e
   refine⟨w,by rw[List.getElem?_set,if_neg h];exact h1,?_⟩
   rw[cO,if_neg (λz=>h z.1)]
   exact h2
 ·rw [cO] at oj ok
  rw[List.getElem?_set] at ej ek sj sk
  have key:∀(l:Nat) (b:Addr),m.own=true->v= .ref b->(md.getD l .no).own=true->(∃y,env[l]? =some (some y))->σ[l]? =some (some (.ref b))->False:=by
   intro l b om hv ol ⟨y,el⟩ sl
   obtain⟨e,rfl⟩:=Md.ofOwn om
   obtain⟨a',ho,q1,o⟩:=r
   rw[hv] at q1;cases q1
   have nb:=o.new
   obtain⟨w,q1,q2⟩:=R.slot l y el
   rw[sl] at q1;cases q1
   obtain⟨e2,hmd⟩:=Md.ofOwn ol
   rw[hmd] at q2;obtain⟨a',ho2,z1,o2⟩:=q2;cases z1;rw[o2.at_] at nb;cases nb
  by_cases hj:i=j
  ·subst hj
   rw[if_pos ⟨rfl,hi⟩] at oj
   rw[if_neg (λz=>hjk z.1)] at ok
   rw[if_neg hjk] at ek sk
   rw[if_pos rfl] at sj
   split at sj
   ·cases sj;exact key k a oj rfl ok ⟨z,ek⟩ sk
   ·cases sj
  ·rw [if_neg (λz=>hj z.1)] at oj
   rw[if_neg hj] at ej sj
   by_cases hk:i=k
   ·subst hk
    rw[if_pos ⟨rfl,hi⟩] at ok
    rw[if_pos rfl] at sk
    split at sk
    ·cases sk;exact key j a ok rfl oj ⟨y,ej⟩ sj
    ·cases sk
   ·rw[if_neg (λz=>hk z.1)] at ok
    rw[if_neg hk] at ek sk
    exact R.sep j k y z a hjk oj ok ej ek sj sk
theorem Rl.le (R:Rl K md W0 H0 W σ env H) (hl:∀i,(md.getD i .no).le (md'.getD i .no)=true) (ho:∀i,(md'.getD i .no).own=true->(md.getD i .no).own=true) (hk:fG md'=true):Rl K md' W0 H0 W σ env H:=
 ⟨R.ok0,R.go,R.len,λi x e=>by
  obtain⟨v,h1,h2⟩:=R.slot i x e
  exact⟨v,h1,h2.le R.ok (hl i)⟩,λi j x y a hij oi oj=>R.sep i j x y a hij (ho i oi) (ho j oj),hk,R.kk⟩
theorem mI {Hs:Hp} {a:Addr} {o:HO} (w:Wok W H) (q:OwnL e H0 Hs W H a o x) (hb:H0 a=none):Wok {W with F:=λb=>W.F b\/b=a} H/\FrzL e H0 {W with F:=λb=>W.F b\/b=a} H a o x:=by
 refine⟨⟨λb hb=>?_,w.sS,λb hb=>?_,w.zZ,λb hb z=>z.elim (w.zF b hb) λz=>q.nZ (z▸hb),w.zS⟩,hb,.inr rfl,q.at_,?_⟩
 ·rcases hb with hb|rfl
  ·exact w.fF b hb
  ·exact⟨_,q.at_⟩
 ·rcases hb with hb|rfl
  ·exact w.dj b hb
  ·exact q.nS
 ·exact q.its.mono (λ_ g=>El.up (λ_ h=>.inl h) (λ_ z=>z) g) λ_ _ _ e=>e
theorem Go.freeze(g0:Go W0 H0 W H)(g:Go W H W' H')(r:ResE H0 H W' H' (.o e) v x):∃W2,Go W H W2 H'/\ResE H0 H W2 H' (.z e) v x:=by
 obtain⟨a,o,rfl,q⟩:=r
 obtain⟨w,r'⟩:=mI g.ok q (g0.free q.new)
 refine⟨{W' with F:=λb=>W'.F b\/b=a},⟨λb hb=>.inl (g.lF b hb),g.lS,λb hb=>?_,g.nS,g.kp,w,g.kk,g.kl,g.lZ,g.nZ⟩,a,o,rfl,r'⟩
 rcases hb with hb|rfl
 ·exact g.nF b hb
 ·exact .inr q.new
theorem Rl.freeze (R:Rl K md W0 H0 W σ env H) (hm:md.getD i .no= .o e):∃W2,Rl K (md.set i (.z e)) W0 H0 W2 σ env H:=by
 have hil:i<md.length:=by
  refine Nat.lt_of_not_le λh=>?_
  rw[a0c,List.getElem?_eq_none h] at hm
  cases hm
 have own1:∀j,((md.set i (.z e)).getD j .no).own=true->(md.getD j .no).own=true/\i≠j:=λj h=>by
  rw[cO] at h
  split at h
  ·cases h
  ·rename_i q
   refine⟨h,λz=>?_⟩
   subst z
   exact q ⟨rfl,hil⟩
 have hok:fG (md.set i (.z e))=true:=by
  have h:=R.bws
  unfold fG at h ⊢
  rw[Bool.or_eq_true,List.all_eq_true,List.all_eq_true] at h ⊢
  rcases h with h|h
  ·refine .inl λm hm=>?_
   rcases List.mem_or_eq_of_mem_set hm with z|z
   ·exact h m z
   ·subst z;rfl
  ·refine .inr λm hm=>?_
   rcases List.mem_or_eq_of_mem_set hm with z|z
   ·exact h m z
   ·subst z;rfl
 cases ev:env[i]? with
 | none=>
  refine⟨W,⟨R.ok0,R.go,R.len,λj y ej=>?_,λj k y z a hjk oj ok ej ek sj sk=>R.sep j k y z a hjk (own1 j oj).1 (own1 k ok).1 ej ek sj sk,hok,R.kk⟩⟩
  have hij:¬i=j:=λz=>by subst z;rw[ev] at ej;cases ej
  rw[cO,if_neg (λz=>hij z.1)]
  exact R.slot j y ej
 | some ox=>
  cases ox with
  | none=>
   refine⟨W,⟨R.ok0,R.go,R.len,λj y ej=>?_,λj k y z a hjk oj ok ej ek sj sk=>R.sep j k y z a hjk (own1 j oj).1 (own1 k ok).1 ej ek sj sk,hok,R.kk⟩⟩
   have hij:¬i=j:=λz=>by subst z;rw[ev] at ej;cases ej
   rw[cO,if_neg (λz=>hij z.1)]
   exact R.slot j y ej
  | some x=>
   obtain⟨v,sv,r⟩:=R.slot i x ev
   rw[hm] at r
   obtain⟨a,o,e1,q⟩:=r
   subst e1
   obtain⟨w,r'⟩:=mI R.ok q q.new
   refine⟨{W with F:=λb=>W.F b\/b=a},⟨R.ok0,⟨λb hb=>.inl (R.go.lF b hb),R.go.lS,λb hb=>?_,R.go.nS,R.go.kp,w,R.go.kk,R.go.kl,R.go.lZ,R.go.nZ⟩,R.len,λj y ej=>?_,λj k y z a hjk oj ok ej ek sj sk=>R.sep j k y z a hjk (own1 j oj).1 (own1 k ok).1 ej ek sj sk,hok,R.kk⟩⟩
   ·rcases hb with hb|rfl
    ·exact R.go.nF b hb
    ·exact .inr q.new
   ·by_cases hij:i=j
    ·subst hij
     rw[ev] at ej;cases ej
     refine⟨_,sv,?_⟩
     rw[cO,if_pos ⟨rfl,hil⟩]
     exact⟨a,o,rfl,r'⟩
    ·obtain ⟨u,su,ru⟩:=R.slot j y ej
     refine⟨u,su,?_⟩
     rw[cO,if_neg (λz=>hij z.1)]
     cases hmd:md.getD j .no with
     |no=>trivial
     |bw=>have:=fZ R.bws (i:=i) (j:=j) (by rw[hm];rfl);rw[hmd] at this;cases this
     |p e'=>have:=fZ R.bws (i:=i) (j:=j) (by rw[hm];rfl);rw[hmd] at this;cases this
     |c e'=>have:=fZ R.bws (i:=i) (j:=j) (by rw[hm];rfl);rw[hmd] at this;cases this
     |v e'=>rw[hmd] at ru;exact Rep.weak ru λ_ g=>El.up (λ_ h=>.inl h) (λ_ z=>z) g
     |st=>rw[hmd] at ru;exact ru
     |scr=>rw[hmd] at ru;exact ru
     |n=>rw[hmd] at ru;exact ru
     | o e'=>
      rw[hmd] at ru
      obtain⟨b,ob,z1,qb⟩:=ru
      refine⟨b,ob,z1,qb.new,λz=>?_,qb.nS,qb.at_,qb.its.mono (λ_ g=>El.up (λ_ h=>.inl h) (λ_ z=>z) g) (λ_ _ _ e=>e),qb.nZ⟩
      rcases z with z|z
      ·exact qb.nF z
      ·subst z z1
       exact R.sep i j _ _ _ hij (by rw[hm];rfl) (by rw[hmd];rfl) ev ej sv su
     | z e'=>
      rw[hmd] at ru
      obtain⟨b,ob,z1,qb⟩:=ru
      exact⟨b,ob,z1,qb.new,.inl qb.F,qb.at_,qb.its.mono (λ_ g=>El.up (λ_ h=>.inl h) (λ_ z=>z) g) λ_ _ _ e=>e⟩
theorem Rl.ownAt(R:Rl K md W0 H0 W σ env H)(hm:md.getD i .no= .o e)(ev:env[i]? =some (some x)):∃a o,σ[i]? =some (some (.ref a))/\OwnL e H0 H0 W H a o x:=by
 obtain⟨v,sv,r⟩:=R.slot i x ev
 rw[hm] at r
 obtain⟨a,o,e1,q⟩:=r
 subst e1
 exact⟨a,o,sv,q⟩
theorem Rl.put (R:Rl K md W0 H0 W σ env H) (hm:md.getD i .no= .o e) {x':PV} {o':HO} {a:Addr} (ev:env[i]? =some (some x)) (sa:σ[i]? =some (some (.ref a))) (r:Body (e.G W.F H0) H o' x') (hni:o'.imm=false) :
  Rl K md W0 H0 W σ (env.set i (some x')) (b7 H a o'):=by
 obtain⟨a',o,sv,q⟩:=R.ownAt hm ev
 rw[sa] at sv;cases sv
 have nim:o.imm=false:=by
  have:=q.its
  cases this<;>rfl
 have ni:∀b u,H b=some u->u.imm=true->b≠a:=λb u e hi z=>by subst z;rw[q.at_] at e;cases e;rw[nim] at hi;cases hi
 have nf:∀b,W.F b->b≠a:=λb f z=>by subst z;exact q.nF f
 have nz:∀b,W.Z b->b≠a:=λb f z=>by subst z;exact q.nZ f
 have keep:∀ {G:Addr->Prop} {u:V} {y:PV},(∀a,G a->W.F a)->Rep G H u y->Rep G (b7 H a o') u y:=λhG r=>r.mono (λ_ h=>h) λb u h e=>by
  rw[aD (h.elim (λg=>nf b (hG b g)) (ni b u e))];exact e
 have keepB:∀ {G:Addr->Prop} {u:HO} {y:PV},(∀a,G a->W.F a)->Body G H u y->Body G (b7 H a o') u y:=λhG r=>r.mono (λ_ h=>h) λb u h e=>by
  rw[aD (h.elim (λg=>nf b (hG b g)) (ni b u e))];exact e
 have w:Wok W (b7 H a o'):=⟨λb hb=>by rw[aD (nf b hb)];exact R.ok.fF b hb,λb hb=>by
  have nb:b≠a:=λz=>by subst z;exact q.nS hb
  obtain⟨x1,x2,x3,e1,e2⟩:=R.ok.sS b hb
  exact⟨x1,x2,x3,by rw[aD nb];exact e1,e2⟩,R.ok.dj,λb hb=>by rw[aD (nz b hb)];exact R.ok.zZ b hb,R.ok.zF,R.ok.zS⟩
 refine⟨R.ok0,⟨R.go.lF,R.go.lS,R.go.nF,R.go.nS,λb u eb sb=>?_,w,R.go.kk,R.go.kl,R.go.lZ,R.go.nZ⟩,by simp[R.len],λj y ej=>?_,λj k y z b hjk oj ok ej ek sj sk=>?_,R.bws,R.kk⟩
 ·have nb:b≠a:=λz=>by subst z;rw[q.new] at eb;cases eb
  rw[aD nb];exact R.go.kp b u eb sb
 ·rw [List.getElem?_set] at ej
  by_cases hij:i=j
  ·subst hij
   rw[if_pos rfl] at ej
   split at ej
   ·cases ej
    refine⟨_,sa,?_⟩
    rw[hm]
    exact⟨a,o',rfl,q.new,q.nF,q.nS,aU,keepB (λ_ g=>El.GF g) r,q.nZ⟩
   ·cases ej
  ·rw [if_neg hij] at ej
   obtain⟨u,su,ru⟩:=R.slot j y ej
   refine⟨u,su,?_⟩
   cases hmd:md.getD j .no with
   |no=>trivial
   |bw=>have:=fZ R.bws (i:=i) (j:=j) (by rw[hm];rfl);rw[hmd] at this;cases this
   |p e'=>have:=fZ R.bws (i:=i) (j:=j) (by rw[hm];rfl);rw[hmd] at this;cases this
   |c e'=>have:=fZ R.bws (i:=i) (j:=j) (by rw[hm];rfl);rw[hmd] at this;cases this
   |v e'=>rw[hmd] at ru;exact keep (λ_ g=>El.GF g) ru
   | n=>
    rw[hmd] at ru
    have ru':Rep (λa=>W.Z a/\H0 a=none) H u y:=ru
    exact ru'.mono (λ_ h=>h) λb u h e=>by rw[aD (h.elim (λh=>nz b h.1) (ni b u e))];exact e
   |st=>rw[hmd] at ru;exact ru
   | scr=>
    rw[hmd] at ru
    obtain⟨b,ns,e1,e2,z⟩:=ru
    refine⟨b,ns,e1,e2,?_⟩
    rcases z with ⟨oo,z⟩|z
    ·refine .inl ⟨oo,?_⟩
     rw[aD (λy=>?_)];exact z
     subst y
     have b1:=q.its
     have h2:=q.at_
     rw[z] at h2
     cases h2
     cases b1
    ·exact .inr z
   | o e'=>
    rw[hmd] at ru;obtain⟨b,ob,z1,qb⟩:=ru
    have nb:b≠a:=λz=>by subst z;subst z1;exact R.sep i j _ _ _ hij (by rw[hm];rfl) (by rw[hmd];rfl) ev ej sa su
    exact⟨b,ob,z1,qb.new,qb.nF,qb.nS,by rw[aD nb];exact qb.at_,keepB (λ_ g=>El.GF g) qb.its,qb.nZ⟩
   | z e'=>
    rw[hmd] at ru;obtain⟨b,ob,z1,qb⟩:=ru
    exact⟨b,ob,z1,qb.new,qb.F,by rw[aD (nf b qb.F)];exact qb.at_,keepB (λ_ g=>El.GF g) qb.its⟩
 ·have en:∀(l:Nat) (p:PV),(env.set i (some x'))[l]? =some (some p)->∃p',env[l]? =some (some p'):=by
   intro l p el
   rw[List.getElem?_set] at el
   by_cases hil:i=l
   ·subst hil;exact⟨_,ev⟩
   ·rw[if_neg hil] at el;exact⟨p,el⟩
  obtain⟨y',ey⟩:=en j y ej
  obtain⟨z',ez⟩:=en k z ek
  exact R.sep j k y' z' b hjk oj ok ey ez sj sk
end
mutual
def PV.norm:PV->PV
 |.bl b=>.int (if b then 1 else 0)
 |.lst xs=>.lst (PV.norms xs)
 |.tup xs=>.tup (PV.norms xs)
 |.non=>.non
 |.int i=>.int i
 |.str x=>.str x
 |.ty n=>.ty n
 |.st=>.st
 |.scr n=>.scr n
 |.set S n=>.set S n
 |.dic k x=>.dic k x
def PV.norms:List PV->List PV
 |[]=>[]
 |x::xs=>x.norm::PV.norms xs
end
mutual
def PV.dep:PV->Nat
 |.lst xs=>PV.deps xs+1
 |.tup xs=>PV.deps xs+1
 |.ty _=>1000
 |.st=>1000
 |.scr _=>1000
 |.set _ _=>1000
 |.dic _ _=>1000
 |.non=>0
 |.bl _=>0
 |.int _=>0
 |.str _=>0
def PV.deps:List PV->Nat
 |[]=>0
 |x::xs=>max x.dep (PV.deps xs)
end
theorem PV.norms_map:∀ {xs:List PV},PV.norms xs=xs.map PV.norm
 |[]=>by rw[PV.norms];rfl
 |x::xs=>by rw[PV.norms,PV.norms_map];rfl
theorem PV.deps_le:∀ {xs:List PV} {x:PV},x∈xs->x.dep<=PV.deps xs
 | y::xs,x,h=>by
  rw[PV.deps]
  rcases List.mem_cons.mp h with rfl|h
  ·exact Nat.le_max_left _ _
  ·exact Nat.le_trans (PV.deps_le h) (Nat.le_max_right _ _)
theorem PV.deps_of{n:Nat}:∀ {xs:List PV},(∀x∈xs,x.dep<=n)->PV.deps xs<=n
 |[],_=>by rw[PV.deps];exact Nat.zero_le _
 |x::xs,h=>by rw[PV.deps];exact Nat.max_le.mpr ⟨h x List.mem_cons_self,PV.deps_of λy hy=>h y (List.mem_cons_of_mem _ hy)⟩
theorem ext_rep{P:V->PV->PV->Prop}{vs:List V}{xs ys:List PV}(l:vs.length=xs.length)(l':vs.length=ys.length)(h:∀(i:Nat) (v:V) (x y:PV),vs[i]? =some v->xs[i]? =some x->ys[i]? =some y->x=y):xs=ys:=by
 refine List.ext_getElem (by omega) λi h1 h2=>?_
 exact h i vs[i] _ _ (a0a (by omega)) (a0a h1) (a0a h2)
theorem Rep.inj {G G':Addr->Prop} {H:Hp} {v:V} {x:PV} (r:Rep G H v x):∀ {y:PV},Rep G' H v y->x=y:=by
 induction r with
 |non=>intro y q;cases q;rfl
 |bl b=>intro y q;cases q;rfl
 |int i=>intro y q;cases q;rfl
 |str x=>intro y q;cases q;rfl
 |ty n=>intro y q;cases q;rfl
 | set e=>
  intro y q
  cases q with
  |set e'=>rw[e] at e';cases e';rfl
  |lst g' e' l' h'=>rw[e] at e';cases e'
  |tup e' l' h'=>rw[e] at e';cases e'
  |dic g' e' l1 l' h'=>rw[e] at e';cases e'
 | lst g e l _ ih=>
  intro y q
  cases q with
  | lst g' e' l' h'=>
   rw[e] at e';cases e'
   rw[ext_rep (P:=λ_ _ _=>True) l l' λi v x y e1 e2 e3=>ih i v x e1 e2 (h' i v y e1 e3)]
  |tup e' l' h'=>rw[e] at e';cases e'
  |set e'=>rw[e] at e';cases e'
  |dic g' e' l1 l' h'=>rw[e] at e';cases e'
 | tup e l _ ih=>
  intro y q
  cases q with
  |lst g' e' l' h'=>rw[e] at e';cases e'
  |set e'=>rw[e] at e';cases e'
  |dic g' e' l1 l' h'=>rw[e] at e';cases e'
  | tup e' l' h'=>
   rw[e] at e';cases e'
   rw[ext_rep (P:=λ_ _ _=>True) l l' λi v x y e1 e2 e3=>ih i v x e1 e2 (h' i v y e1 e3)]
 | @dic a ks vs xs g e l1 l _ ih=>
  intro y q
  cases q with
  |lst g' e' l' h'=>rw[e] at e';cases e'
  |set e'=>rw[e] at e';cases e'
  |tup e' l' h'=>rw[e] at e';cases e'
  | @dic _ ks2 vs2 xs2 g' e' l1' l' h'=>
   rw[e] at e'
   have e2:ks.zip vs=ks2.zip vs2:=by injection e' with e';injection e'
   have hk:ks=ks2:=by
    have:=congrArg (List.map Prod.fst) e2
    rwa [List.map_fst_zip (by omega),List.map_fst_zip (by omega)] at this
   have hv:vs=vs2:=by
    have:=congrArg (List.map Prod.snd) e2
    rwa [List.map_snd_zip (by omega),List.map_snd_zip (by omega)] at this
   subst hk hv
   rw[ext_rep (P:=λ_ _ _=>True) l l' λi v x y e1 e2 e3=>ih i v x e1 e2 (h' i v y e1 e3)]
open Classical in
noncomputable def PV.eqB(x y:PV):Bool:=decide (x.norm=y.norm)
open Classical in
theorem eqB_of{x y:PV}{b:Bool}(h:b=true↔x.norm=y.norm):x.eqB y=b:=by
 unfold PV.eqB
 cases b with
 |true=>exact decide_eq_true (h.mp rfl)
 |false=>exact decide_eq_false λz=>by have:=h.mpr z;cases this
theorem eqB_self(x:PV):x.eqB x=true:=eqB_of (by simp)
open Classical in
theorem eqB_iff{x y:PV}:x.eqB y=true↔x.norm=y.norm:=by unfold PV.eqB;exact decide_eq_true_iff
section
variable{X:Cx}{pins:List (Ac×Obj)}{σ:St}{H:Hp}{s:Ab}
theorem eqB_ii(i j:Int):(PV.int i).eqB (.int j)=(i==j):=eqB_of (by rw[beq_iff_eq,PV.norm,PV.norm];exact⟨λh=>by rw[h],λh=>by injection h⟩)
theorem eqB_ss(i j:Str):(PV.str i).eqB (.str j)=(i==j):=eqB_of (by rw[beq_iff_eq,PV.norm,PV.norm];exact⟨λh=>by rw[h],λh=>by injection h⟩)
theorem eqB_bb(i j:Bool):(PV.bl i).eqB (.bl j)=(i==j):=eqB_of (by rw[PV.norm,PV.norm];cases i<;>cases j<;>simp)
theorem eqB_bi(i:Bool)(j:Int):(PV.bl i).eqB (.int j)=((if i then 1 else 0)==j):=eqB_of (by rw[beq_iff_eq,PV.norm,PV.norm];exact⟨λh=>by rw[h],λh=>by injection h⟩)
theorem eqB_ib(i:Int)(j:Bool):(PV.int i).eqB (.bl j)=(i==(if j then 1 else 0)):=eqB_of (by rw[beq_iff_eq,PV.norm,PV.norm];exact⟨λh=>by rw[h],λh=>by injection h⟩)
theorem eqB_ne{x y:PV}(h:x.norm≠y.norm):x.eqB y=false:=eqB_of (Iff.intro (λz=>Bool.noConfusion z) (λz=>absurd z h))
theorem eqB_lists {xs ys:List PV} {n:Nat} (h1:xs.length=n) (h2:ys.length=n):(PV.lst xs).eqB (.lst ys)=(List.range n).all λj=>(xs.getD j .non).eqB (ys.getD j .non):=by
 refine eqB_of ?_
 rw[PV.norm,PV.norm,PV.norms_map,PV.norms_map,List.all_eq_true]
 constructor
 ·intro h
  congr 1
  refine List.ext_getElem (by simp[h1,h2]) λi a b=>?_
  have hi:i<n:=by simpa[h1] using a
  have:=eqB_iff.mp (h i (List.mem_range.mpr hi))
  rw[a0c,a0c,a0a (by omega),a0a (by omega)] at this
  simpa using this
 ·intro h j hj
  injection h with h
  have hj:=List.mem_range.mp hj
  refine eqB_iff.mpr ?_
  rw[a0c,a0c,a0a (by omega),a0a (by omega)]
  have e:=congrArg (λl=>l[j]?) h
  simp only[List.getElem?_map] at e
  rw[a0a (by omega),a0a (by omega)] at e
  simpa using e
theorem eqB_tup_lst{xs ys:List PV}:(PV.tup xs).eqB (.tup ys)=(PV.lst xs).eqB (.lst ys):=by
 refine eqB_of ?_
 rw[eqB_iff,PV.norm,PV.norm,PV.norm,PV.norm]
 exact⟨λh=>by injection h with h;rw[h],λh=>by injection h with h;rw[h]⟩
theorem eqB_len{xs ys:List PV}(h:xs.length≠ys.length):(PV.lst xs).eqB (.lst ys)=false:=eqB_ne (by
 rw[PV.norm,PV.norm,PV.norms_map,PV.norms_map]
 intro z;injection z with z
 have:=congrArg List.length z
 simp at this;exact h this)
theorem Inv.listR{a:Addr}{vs:List V}(I:Inv X pins σ H s)(h:H a=some (.lst vs)):∃its:List Value,aV vs its/\s.heap.IsList a its.toArray/\vs.length<=sizeLine:=by
 obtain⟨its,v,⟨o,n,g,c,d,e⟩,l⟩:=I.list (a:=a) (xs:=vs) (cS.of h)
 exact⟨its,v,⟨o,g,c,n,e⟩,l⟩
theorem toArr_get{its:List Value}{j:Nat}{u:Value}(e:its[j]? =some u)(h:j<its.toArray.size):its.toArray[j]=u:=by
 have:=(List.getElem?_eq_some_iff.mp e).2
 simpa using this
theorem eqAt_rep (I:Inv X pins σ H s):∀(n:Nat),n<900->∀ {A:Around} {G G':Addr->Prop} {x y:V} {u v:Value} {px py:PV},Rep G H x px->Rep G' H y py->bA x u->bA y v->px.dep<=n->A.units+n<cLine->py.dep<1000->SeqAt.EqAt A s u v (px.eqB py):=by
 intro n
 induction n with
 | zero=>
  intro hn A G G' x y u v px py rx ry ru rv hd hu hy
  cases rx with
  | non=>cases ru;cases ry with
   |non=>cases rv;rw[eqB_self];exact .same _
   |bl b=>cases rv;rw[eqB_ne (by simp[PV.norm])];exact .none_bool _
   |int i=>obtain⟨t,rfl⟩:=rv;rw[eqB_ne (by simp[PV.norm])];exact .none_int _ _
   |str z=>obtain⟨t,rfl⟩:=rv;rw[eqB_ne (by simp[PV.norm])];exact .none_str _ _
   |ty z=>rw[PV.dep] at hy;omega
   |set z=>rw[PV.dep] at hy;omega
   |dic z1 z2 z3 z4 z5=>rw[PV.dep] at hy;omega
   |lst g e l h=>cases rv;rw[eqB_ne (by simp[PV.norm])];obtain⟨_,_,hl,_⟩:=I.listR e;exact .none_list hl (by omega)
   |tup e l h=>cases rv;rw[eqB_ne (by simp[PV.norm])];obtain⟨_,_,hl,_⟩:=I.tuple (d7.of e);exact .none_tuple hl (by omega)
  | bl b=>cases ru;cases ry with
   |non=>cases rv;rw[eqB_ne (by simp[PV.norm])];exact .bool_none _
   |bl c=>cases rv;rw[eqB_bb];exact .bool_bool _ _
   |int i=>obtain⟨t,rfl⟩:=rv;rw[eqB_bi];exact .bool_int _ _ _
   |str z=>obtain⟨t,rfl⟩:=rv;rw[eqB_ne (by simp[PV.norm])];exact .bool_str _ _ _
   |ty z=>rw[PV.dep] at hy;omega
   |set z=>rw[PV.dep] at hy;omega
   |dic z1 z2 z3 z4 z5=>rw[PV.dep] at hy;omega
   |lst g e l h=>cases rv;rw[eqB_ne (by simp[PV.norm])];obtain⟨_,_,hl,_⟩:=I.listR e;exact .bool_list _ hl (by omega)
   |tup e l h=>cases rv;rw[eqB_ne (by simp[PV.norm])];obtain⟨_,_,hl,_⟩:=I.tuple (d7.of e);exact .bool_tuple _ hl (by omega)
  | int i=>obtain⟨t0,rfl⟩:=ru;cases ry with
   |non=>cases rv;rw[eqB_ne (by simp[PV.norm])];exact .int_none _ _
   |bl c=>cases rv;rw[eqB_ib];exact .int_bool _ _ _
   |int i=>obtain⟨t,rfl⟩:=rv;rw[eqB_ii];exact .int_int _ _ _ _
   |str z=>obtain⟨t,rfl⟩:=rv;rw[eqB_ne (by simp[PV.norm])];exact .int_str _ _ _ _
   |ty z=>rw[PV.dep] at hy;omega
   |set z=>rw[PV.dep] at hy;omega
   |dic z1 z2 z3 z4 z5=>rw[PV.dep] at hy;omega
   |lst g e l h=>cases rv;rw[eqB_ne (by simp[PV.norm])];obtain⟨_,_,hl,_⟩:=I.listR e;exact .int_list _ _ hl (by omega)
   |tup e l h=>cases rv;rw[eqB_ne (by simp[PV.norm])];obtain⟨_,_,hl,_⟩:=I.tuple (d7.of e);exact .int_tuple _ _ hl (by omega)
  | str z0=>obtain⟨t0,rfl⟩:=ru;cases ry with
   |non=>cases rv;rw[eqB_ne (by simp[PV.norm])];exact .str_none _ _
   |bl c=>cases rv;rw[eqB_ne (by simp[PV.norm])];exact .str_bool _ _ _
   |int i=>obtain⟨t,rfl⟩:=rv;rw[eqB_ne (by simp[PV.norm])];exact .str_int _ _ _ _
   |str z=>obtain⟨t,rfl⟩:=rv;rw[eqB_ss];exact .str_str _ _ _ _
   |ty z=>rw[PV.dep] at hy;omega
   |set z=>rw[PV.dep] at hy;omega
   |dic z1 z2 z3 z4 z5=>rw[PV.dep] at hy;omega
   |lst g e l h=>cases rv;rw[eqB_ne (by simp[PV.norm])];obtain⟨_,_,hl,_⟩:=I.listR e;exact .str_list _ _ hl (by omega)
   |tup e l h=>cases rv;rw[eqB_ne (by simp[PV.norm])];obtain⟨_,_,hl,_⟩:=I.tuple (d7.of e);exact .str_tuple _ _ hl (by omega)
  |ty z=>rw[PV.dep] at hd;omega
  |set z=>rw[PV.dep] at hd;omega
  |dic z1 z2 z3 z4 z5=>rw[PV.dep] at hd;omega
  |lst=>rw[PV.dep] at hd;omega
  |tup=>rw[PV.dep] at hd;omega
 | succ n ih=>
  intro hn A G G' x y u v px py rx ry ru rv hd hu hy
  have down:px.dep<=n->SeqAt.EqAt A s u v (px.eqB py):=λh=>ih (by omega) rx ry ru rv h (by omega) hy
  cases hx:rx with
  |non=>exact down (by rw[PV.dep];omega)
  |bl b=>exact down (by rw[PV.dep];omega)
  |int i=>exact down (by rw[PV.dep];omega)
  |str z=>exact down (by rw[PV.dep];omega)
  |ty z=>rw[PV.dep] at hd;omega
  |set z=>rw[PV.dep] at hd;omega
  |dic z1 z2 z3 z4 z5=>rw[PV.dep] at hd;omega
  | @lst a vs xs g e l h=>
   cases ru
   cases hyy:ry with
   |non=>cases rv;rw[eqB_ne (by simp[PV.norm])];obtain⟨_,_,hl,_⟩:=I.listR e;exact .list_none hl (by omega)
   |bl b=>cases rv;rw[eqB_ne (by simp[PV.norm])];obtain⟨_,_,hl,_⟩:=I.listR e;exact .list_bool _ hl (by omega)
   |int i=>obtain⟨t,rfl⟩:=rv;rw[eqB_ne (by simp[PV.norm])];obtain⟨_,_,hl,_⟩:=I.listR e;exact .list_int _ _ hl (by omega)
   |str z=>obtain⟨t,rfl⟩:=rv;rw[eqB_ne (by simp[PV.norm])];obtain⟨_,_,hl,_⟩:=I.listR e;exact .list_str _ _ hl (by omega)
   |ty z=>rw[PV.dep] at hy;omega
   |set z=>rw[PV.dep] at hy;omega
   |dic z1 z2 z3 z4 z5=>rw[PV.dep] at hy;omega
   |tup e' l' h'=>cases rv;rw[eqB_ne (by simp[PV.norm])];obtain⟨_,_,hl,_⟩:=I.listR e;obtain⟨_,_,hl2,_⟩:=I.tuple (d7.of e');exact .list_tuple hl hl2 (by omega)
   | @lst b vs' ys g' e' l' h'=>
    cases rv
    by_cases hab:a=b
    ·subst hab
     rw[rx.inj ry,eqB_self];exact .same _
    ·obtain ⟨i1,v1,hl1,_⟩:=I.listR e
     obtain⟨i2,v2,hl2,_⟩:=I.listR e'
     have n1:=v1.length
     have n2:=v2.length
     by_cases hlen:xs.length=ys.length
     ·rw [eqB_lists (n:=i1.toArray.size) (by simp;omega) (by simp;omega)]
      refine .of_refs hab (SeqAt.RcAt.lists hl1 hl2 (by simp;omega) (by omega) λj h1 h2=>?_)
      have j1:j<i1.length:=by simpa using h1
      have j2:j<i2.length:=by simpa using h2
      obtain⟨u1,eu,ru1⟩:=v1.get (a0a (l:=vs) (i:=j) (by omega))
      obtain⟨u2,ev,ru2⟩:=v2.get (a0a (l:=vs') (i:=j) (by omega))
      rw[toArr_get eu h1,toArr_get ev h2,a0c,a0c,a0a (l:=xs) (by omega),a0a (l:=ys) (by omega)]
      refine ih (by omega) (A:=A.in1) (h j _ _ (a0a (by omega)) (a0a (by omega))) (h' j _ _ (a0a (by omega)) (a0a (by omega))) ru1 ru2 ?_ (by show A.units+1+n<cLine;omega) ?_
      ·rw[PV.dep] at hd
       exact Nat.le_trans (PV.deps_le (List.getElem_mem _)) (by omega)
      ·rw[PV.dep] at hy
       exact Nat.lt_of_le_of_lt (PV.deps_le (List.getElem_mem _)) (by omega)
     ·rw[eqB_len hlen]
      refine .of_refs hab (SeqAt.RcAt.lists_lengths hl1 hl2 ?_ (by omega))
      simp;omega
  | @tup a vs xs e l h=>
   cases ru
   cases hyy:ry with
   |non=>cases rv;rw[eqB_ne (by simp[PV.norm])];obtain⟨_,_,hl,_⟩:=I.tuple (d7.of e);exact .tuple_none hl (by omega)
   |bl b=>cases rv;rw[eqB_ne (by simp[PV.norm])];obtain⟨_,_,hl,_⟩:=I.tuple (d7.of e);exact .tuple_bool _ hl (by omega)
   |int i=>obtain⟨t,rfl⟩:=rv;rw[eqB_ne (by simp[PV.norm])];obtain⟨_,_,hl,_⟩:=I.tuple (d7.of e);exact .tuple_int _ _ hl (by omega)
   |str z=>obtain⟨t,rfl⟩:=rv;rw[eqB_ne (by simp[PV.norm])];obtain⟨_,_,hl,_⟩:=I.tuple (d7.of e);exact .tuple_str _ _ hl (by omega)
   |ty z=>rw[PV.dep] at hy;omega
   |set z=>rw[PV.dep] at hy;omega
   |dic z1 z2 z3 z4 z5=>rw[PV.dep] at hy;omega
   |lst g' e' l' h'=>cases rv;rw[eqB_ne (by simp[PV.norm])];obtain⟨_,_,hl,_⟩:=I.tuple (d7.of e);obtain⟨_,_,hl2,_⟩:=I.listR e';exact .tuple_list hl hl2 (by omega)
   | @tup b vs' ys e' l' h'=>
    cases rv
    by_cases hab:a=b
    ·subst hab
     rw[rx.inj ry,eqB_self];exact .same _
    ·obtain ⟨i1,v1,hl1,_⟩:=I.tuple (d7.of e)
     obtain⟨i2,v2,hl2,_⟩:=I.tuple (d7.of e')
     have n1:=v1.length
     have n2:=v2.length
     have go:=SeqAt.RcAt.tuples (A:=A) (e:=λj=>(xs.getD j .non).eqB (ys.getD j .non)) hl1 hl2 (by omega) (λj h1 h2=>by
      have j1:j<i1.length:=by simpa using h1
      have j2:j<i2.length:=by simpa using h2
      obtain⟨u1,eu,ru1⟩:=v1.get (a0a (l:=vs) (i:=j) (by omega))
      obtain⟨u2,ev,ru2⟩:=v2.get (a0a (l:=vs') (i:=j) (by omega))
      rw[toArr_get eu h1,toArr_get ev h2,a0c,a0c,a0a (l:=xs) (by omega),a0a (l:=ys) (by omega)]
      refine ih (by omega) (A:=A.in1) (h j _ _ (a0a (by omega)) (a0a (by omega))) (h' j _ _ (a0a (by omega)) (a0a (by omega))) ru1 ru2 ?_ (by show A.units+1+n<cLine;omega) ?_
      ·rw[PV.dep] at hd
       exact Nat.le_trans (PV.deps_le (List.getElem_mem _)) (by omega)
      ·rw[PV.dep] at hy
       exact Nat.lt_of_le_of_lt (PV.deps_le (List.getElem_mem _)) (by omega))
     refine .of_refs hab ?_
     rw[eqB_tup_lst]
     by_cases hlen:xs.length=ys.length
     ·rw[eqB_lists (n:=i1.toArray.size) (by simp;omega) (by simp;omega)]
      rw[show min i1.toArray.size i2.toArray.size=i1.toArray.size by simp;omega,show (i1.toArray.size==i2.toArray.size)=true by simp;omega,Bool.and_true] at go
      exact go
     ·rw[eqB_len hlen]
      rw[show (i1.toArray.size==i2.toArray.size)=false by simp;omega,Bool.and_false] at go
      exact go
end
section
variable{X:Cx}{pins:List (Ac×Obj)}{σ:St}{H:Hp}{s:Ab}
theorem MU (I:Inv X pins σ H s) {A:Around} {G G':Addr->Prop} {x y:V} {u v:Value} {px py:PV} (rx:Rep G H x px) (ry:Rep G' H y py) (ru:bA x u) (rv:bA y v) (hd:px.dep<=60) (hu:A.units+60<cLine) (hy:py.dep<1000):SeqAt.RcAt A s u v (px.eqB py):=by
 cases hx:rx with
 | non=>
  cases ru
  cases hyy:ry with
  | non=>
   cases rv
   rw[eqB_self];exact SeqAt.RcAt.none_none
  | bl b2=>
   cases rv
   rw[eqB_ne (by simp[PV.norm])];exact SeqAt.RcAt.none_bool  _
  | int b2=>
   obtain⟨t2,rfl⟩:=rv
   rw[eqB_ne (by simp[PV.norm])];exact SeqAt.RcAt.none_int  _ _
  | str b2=>
   obtain⟨t2,rfl⟩:=rv
   rw[eqB_ne (by simp[PV.norm])];exact SeqAt.RcAt.none_str  _ _
  | @lst b vs' ys g' e' l' h'=>
   cases rv
   rw[eqB_ne (by simp[PV.norm])];obtain⟨i2,v2,hl2,_⟩:=I.listR e';exact SeqAt.RcAt.none_list   hl2 (by omega)
  | @tup b vs' ys e' l' h'=>
   cases rv
   rw[eqB_ne (by simp[PV.norm])];obtain⟨i2,v2,hl2,_⟩:=I.tuple (d7.of e');exact SeqAt.RcAt.none_tuple   hl2 (by omega)
  |ty z=>rw[PV.dep] at hy;omega
  |set z=>rw[PV.dep] at hy;omega
  |dic z1 z2 z3 z4 z5=>rw[PV.dep] at hy;omega
 | bl b1=>
  cases ru
  cases hyy:ry with
  | non=>
   cases rv
   rw[eqB_ne (by simp[PV.norm])];exact SeqAt.RcAt.bool_none _
  | bl b2=>
   cases rv
   rw[eqB_bb];exact SeqAt.RcAt.bool_bool _ _
  | int b2=>
   obtain⟨t2,rfl⟩:=rv
   rw[eqB_bi];exact SeqAt.RcAt.bool_int _ _ _
  | str b2=>
   obtain⟨t2,rfl⟩:=rv
   rw[eqB_ne (by simp[PV.norm])];exact SeqAt.RcAt.bool_str _ _ _
  | @lst b vs' ys g' e' l' h'=>
   cases rv
   rw[eqB_ne (by simp[PV.norm])];obtain⟨i2,v2,hl2,_⟩:=I.listR e';exact SeqAt.RcAt.bool_list _  hl2 (by omega)
  | @tup b vs' ys e' l' h'=>
   cases rv
   rw[eqB_ne (by simp[PV.norm])];obtain⟨i2,v2,hl2,_⟩:=I.tuple (d7.of e');exact SeqAt.RcAt.bool_tuple _  hl2 (by omega)
  |ty z=>rw[PV.dep] at hy;omega
  |set z=>rw[PV.dep] at hy;omega
  |dic z1 z2 z3 z4 z5=>rw[PV.dep] at hy;omega
 | int b1=>
  obtain⟨t1,rfl⟩:=ru
  cases hyy:ry with
  | non=>
   cases rv
   rw[eqB_ne (by simp[PV.norm])];exact SeqAt.RcAt.int_none _ _
  | bl b2=>
   cases rv
   rw[eqB_ib];exact SeqAt.RcAt.int_bool _ _ _
  | int b2=>
   obtain⟨t2,rfl⟩:=rv
   rw[eqB_ii];exact SeqAt.RcAt.int_int _ _ _ _
  | str b2=>
   obtain⟨t2,rfl⟩:=rv
   rw[eqB_ne (by simp[PV.norm])];exact SeqAt.RcAt.int_str _ _ _ _
  | @lst b vs' ys g' e' l' h'=>
   cases rv
   rw[eqB_ne (by simp[PV.norm])];obtain⟨i2,v2,hl2,_⟩:=I.listR e';exact SeqAt.RcAt.int_list _ _  hl2 (by omega)
  | @tup b vs' ys e' l' h'=>
   cases rv
   rw[eqB_ne (by simp[PV.norm])];obtain⟨i2,v2,hl2,_⟩:=I.tuple (d7.of e');exact SeqAt.RcAt.int_tuple _ _  hl2 (by omega)
  |ty z=>rw[PV.dep] at hy;omega
  |set z=>rw[PV.dep] at hy;omega
  |dic z1 z2 z3 z4 z5=>rw[PV.dep] at hy;omega
 | str b1=>
  obtain⟨t1,rfl⟩:=ru
  cases hyy:ry with
  | non=>
   cases rv
   rw[eqB_ne (by simp[PV.norm])];exact SeqAt.RcAt.str_none _ _
  | bl b2=>
   cases rv
   rw[eqB_ne (by simp[PV.norm])];exact SeqAt.RcAt.str_bool _ _ _
  | int b2=>
   obtain⟨t2,rfl⟩:=rv
   rw[eqB_ne (by simp[PV.norm])];exact SeqAt.RcAt.str_int _ _ _ _
  | str b2=>
   obtain⟨t2,rfl⟩:=rv
   rw[eqB_ss];exact SeqAt.RcAt.str_str _ _ _ _
  | @lst b vs' ys g' e' l' h'=>
   cases rv
   rw[eqB_ne (by simp[PV.norm])];obtain⟨i2,v2,hl2,_⟩:=I.listR e';exact SeqAt.RcAt.str_list _ _  hl2 (by omega)
  | @tup b vs' ys e' l' h'=>
   cases rv
   rw[eqB_ne (by simp[PV.norm])];obtain⟨i2,v2,hl2,_⟩:=I.tuple (d7.of e');exact SeqAt.RcAt.str_tuple _ _  hl2 (by omega)
  |ty z=>rw[PV.dep] at hy;omega
  |set z=>rw[PV.dep] at hy;omega
  |dic z1 z2 z3 z4 z5=>rw[PV.dep] at hy;omega
 | @lst a vs xs g e l h=>
  cases ru
  cases hyy:ry with
  | non=>
   cases rv
   rw[eqB_ne (by simp[PV.norm])];obtain⟨i1,v1,hl1,_⟩:=I.listR e;exact SeqAt.RcAt.list_none   hl1 (by omega)
  | bl b2=>
   cases rv
   rw[eqB_ne (by simp[PV.norm])];obtain⟨i1,v1,hl1,_⟩:=I.listR e;exact SeqAt.RcAt.list_bool  _ hl1 (by omega)
  | int b2=>
   obtain⟨t2,rfl⟩:=rv
   rw[eqB_ne (by simp[PV.norm])];obtain⟨i1,v1,hl1,_⟩:=I.listR e;exact SeqAt.RcAt.list_int  _ _ hl1 (by omega)
  | str b2=>
   obtain⟨t2,rfl⟩:=rv
   rw[eqB_ne (by simp[PV.norm])];obtain⟨i1,v1,hl1,_⟩:=I.listR e;exact SeqAt.RcAt.list_str  _ _ hl1 (by omega)
  | @lst b vs' ys g' e' l' h'=>
   cases rv
   obtain⟨i1,v1,hl1,_⟩:=I.listR e
   obtain⟨i2,v2,hl2,_⟩:=I.listR e'
   have n1:=v1.length
   have n2:=v2.length
   by_cases hlen:xs.length=ys.length
   ·rw [eqB_lists (n:=i1.toArray.size) (by simp;omega) (by simp;omega)]
    exact SeqAt.RcAt.lists hl1 hl2 (by simp;omega) (by omega) (λj h1 h2=>by
      have j1:j<i1.length:=by simpa using h1
      have j2:j<i2.length:=by simpa using h2
      obtain⟨u1,eu,ru1⟩:=v1.get (a0a (l:=vs) (i:=j) (by omega))
      obtain⟨u2,ev,ru2⟩:=v2.get (a0a (l:=vs') (i:=j) (by omega))
      rw[toArr_get eu h1,toArr_get ev h2,a0c,a0c,a0a (l:=xs) (by omega),a0a (l:=ys) (by omega)]
      refine eqAt_rep I 59 (by omega) (A:=A.in1) (h j _ _ (a0a (by omega)) (a0a (by omega))) (h' j _ _ (a0a (by omega)) (a0a (by omega))) ru1 ru2 ?_ (by show A.units+1+59<cLine;omega) ?_
      ·rw[PV.dep] at hd
       exact Nat.le_trans (PV.deps_le (List.getElem_mem _)) (by omega)
      ·rw[PV.dep] at hy
       exact Nat.lt_of_le_of_lt (PV.deps_le (List.getElem_mem _)) (by omega))
   ·rw[eqB_len hlen]
    exact SeqAt.RcAt.lists_lengths hl1 hl2 (by simp;omega) (by omega)
  | @tup b vs' ys e' l' h'=>
   cases rv
   rw[eqB_ne (by simp[PV.norm])];obtain⟨i1,v1,hl1,_⟩:=I.listR e;obtain⟨i2,v2,hl2,_⟩:=I.tuple (d7.of e');exact SeqAt.RcAt.list_tuple hl1 hl2 (by omega)
  |ty z=>rw[PV.dep] at hy;omega
  |set z=>rw[PV.dep] at hy;omega
  |dic z1 z2 z3 z4 z5=>rw[PV.dep] at hy;omega
 | @tup a vs xs e l h=>
  cases ru
  cases hyy:ry with
  | non=>
   cases rv
   rw[eqB_ne (by simp[PV.norm])];obtain⟨i1,v1,hl1,_⟩:=I.tuple (d7.of e);exact SeqAt.RcAt.tuple_none   hl1 (by omega)
  | bl b2=>
   cases rv
   rw[eqB_ne (by simp[PV.norm])];obtain⟨i1,v1,hl1,_⟩:=I.tuple (d7.of e);exact SeqAt.RcAt.tuple_bool  _ hl1 (by omega)
  | int b2=>
   obtain⟨t2,rfl⟩:=rv
   rw[eqB_ne (by simp[PV.norm])];obtain⟨i1,v1,hl1,_⟩:=I.tuple (d7.of e);exact SeqAt.RcAt.tuple_int  _ _ hl1 (by omega)
  | str b2=>
   obtain⟨t2,rfl⟩:=rv
   rw[eqB_ne (by simp[PV.norm])];obtain⟨i1,v1,hl1,_⟩:=I.tuple (d7.of e);exact SeqAt.RcAt.tuple_str  _ _ hl1 (by omega)
  | @lst b vs' ys g' e' l' h'=>
   cases rv
   rw[eqB_ne (by simp[PV.norm])];obtain⟨i1,v1,hl1,_⟩:=I.tuple (d7.of e);obtain⟨i2,v2,hl2,_⟩:=I.listR e';exact SeqAt.RcAt.tuple_list hl1 hl2 (by omega)
  | @tup b vs' ys e' l' h'=>
   cases rv
   obtain⟨i1,v1,hl1,_⟩:=I.tuple (d7.of e)
   obtain⟨i2,v2,hl2,_⟩:=I.tuple (d7.of e')
   have n1:=v1.length
   have n2:=v2.length
   have go:=SeqAt.RcAt.tuples (A:=A) (e:=λj=>(xs.getD j .non).eqB (ys.getD j .non)) hl1 hl2 (by omega) (λj h1 h2=>by
    have j1:j<i1.length:=by simpa using h1
    have j2:j<i2.length:=by simpa using h2
    obtain⟨u1,eu,ru1⟩:=v1.get (a0a (l:=vs) (i:=j) (by omega))
    obtain⟨u2,ev,ru2⟩:=v2.get (a0a (l:=vs') (i:=j) (by omega))
    rw[toArr_get eu h1,toArr_get ev h2,a0c,a0c,a0a (l:=xs) (by omega),a0a (l:=ys) (by omega)]
    refine eqAt_rep I 59 (by omega) (A:=A.in1) (h j _ _ (a0a (by omega)) (a0a (by omega))) (h' j _ _ (a0a (by omega)) (a0a (by omega))) ru1 ru2 ?_ (by show A.units+1+59<cLine;omega) ?_
    ·rw[PV.dep] at hd
     exact Nat.le_trans (PV.deps_le (List.getElem_mem _)) (by omega)
    ·rw[PV.dep] at hy
     exact Nat.lt_of_le_of_lt (PV.deps_le (List.getElem_mem _)) (by omega))
   rw[eqB_tup_lst]
   by_cases hlen:xs.length=ys.length
   ·rw[eqB_lists (n:=i1.toArray.size) (by simp;omega) (by simp;omega)]
    rw[show min i1.toArray.size i2.toArray.size=i1.toArray.size by simp;omega,show (i1.toArray.size==i2.toArray.size)=true by simp;omega,Bool.and_true] at go
    exact go
   ·rw[eqB_len hlen]
    rw[show (i1.toArray.size==i2.toArray.size)=false by simp;omega,Bool.and_false] at go
    exact go
  |ty z=>rw[PV.dep] at hy;omega
  |set z=>rw[PV.dep] at hy;omega
  |dic z1 z2 z3 z4 z5=>rw[PV.dep] at hy;omega
 |ty z=>rw[PV.dep] at hd;omega
 |set z=>rw[PV.dep] at hd;omega
 |dic z1 z2 z3 z4 z5=>rw[PV.dep] at hd;omega
theorem MV (I:Inv X pins σ H s) {A:Around} {G G':Addr->Prop} {x y:V} {u v:Value} {px py:PV} (rx:Rep G H x px) (ry:Rep G' H y py) (ru:bA x u) (rv:bA y v) (hd:px.dep<=60) (hu:A.units+60<cLine) (hy:py.dep<1000):SeqAt.RcNeAt A s u v (!(px.eqB py)):=by
 cases hx:rx with
 | non=>
  cases ru
  cases hyy:ry with
  | non=>
   cases rv
   rw[eqB_self];exact SeqAt.RcNeAt.none_none
  | bl b2=>
   cases rv
   rw[eqB_ne (by simp[PV.norm])];exact SeqAt.RcNeAt.none_bool  _
  | int b2=>
   obtain⟨t2,rfl⟩:=rv
   rw[eqB_ne (by simp[PV.norm])];exact SeqAt.RcNeAt.none_int  _ _
  | str b2=>
   obtain⟨t2,rfl⟩:=rv
   rw[eqB_ne (by simp[PV.norm])];exact SeqAt.RcNeAt.none_str  _ _
  | @lst b vs' ys g' e' l' h'=>
   cases rv
   rw[eqB_ne (by simp[PV.norm])];obtain⟨i2,v2,hl2,_⟩:=I.listR e';exact SeqAt.RcNeAt.none_list   hl2 (by omega)
  | @tup b vs' ys e' l' h'=>
   cases rv
   rw[eqB_ne (by simp[PV.norm])];obtain⟨i2,v2,hl2,_⟩:=I.tuple (d7.of e');exact SeqAt.RcNeAt.none_tuple   hl2 (by omega)
  |ty z=>rw[PV.dep] at hy;omega
  |set z=>rw[PV.dep] at hy;omega
  |dic z1 z2 z3 z4 z5=>rw[PV.dep] at hy;omega
 | bl b1=>
  cases ru
  cases hyy:ry with
  | non=>
   cases rv
   rw[eqB_ne (by simp[PV.norm])];exact SeqAt.RcNeAt.bool_none _
  | bl b2=>
   cases rv
   rw[eqB_bb];exact SeqAt.RcNeAt.bool_bool _ _
  | int b2=>
   obtain⟨t2,rfl⟩:=rv
   rw[eqB_bi];exact SeqAt.RcNeAt.bool_int _ _ _
  | str b2=>
   obtain⟨t2,rfl⟩:=rv
   rw[eqB_ne (by simp[PV.norm])];exact SeqAt.RcNeAt.bool_str _ _ _
  | @lst b vs' ys g' e' l' h'=>
   cases rv
   rw[eqB_ne (by simp[PV.norm])];obtain⟨i2,v2,hl2,_⟩:=I.listR e';exact SeqAt.RcNeAt.bool_list _  hl2 (by omega)
  | @tup b vs' ys e' l' h'=>
   cases rv
   rw[eqB_ne (by simp[PV.norm])];obtain⟨i2,v2,hl2,_⟩:=I.tuple (d7.of e');exact SeqAt.RcNeAt.bool_tuple _  hl2 (by omega)
  |ty z=>rw[PV.dep] at hy;omega
  |set z=>rw[PV.dep] at hy;omega
  |dic z1 z2 z3 z4 z5=>rw[PV.dep] at hy;omega
 | int b1=>
  obtain⟨t1,rfl⟩:=ru
  cases hyy:ry with
  | non=>
   cases rv
   rw[eqB_ne (by simp[PV.norm])];exact SeqAt.RcNeAt.int_none _ _
  | bl b2=>
   cases rv
   rw[eqB_ib];exact SeqAt.RcNeAt.int_bool _ _ _
  | int b2=>
   obtain⟨t2,rfl⟩:=rv
   rw[eqB_ii];exact SeqAt.RcNeAt.int_int _ _ _ _
  | str b2=>
   obtain⟨t2,rfl⟩:=rv
   rw[eqB_ne (by simp[PV.norm])];exact SeqAt.RcNeAt.int_str _ _ _ _
  | @lst b vs' ys g' e' l' h'=>
   cases rv
   rw[eqB_ne (by simp[PV.norm])];obtain⟨i2,v2,hl2,_⟩:=I.listR e';exact SeqAt.RcNeAt.int_list _ _  hl2 (by omega)
  | @tup b vs' ys e' l' h'=>
   cases rv
   rw[eqB_ne (by simp[PV.norm])];obtain⟨i2,v2,hl2,_⟩:=I.tuple (d7.of e');exact SeqAt.RcNeAt.int_tuple _ _  hl2 (by omega)
  |ty z=>rw[PV.dep] at hy;omega
  |set z=>rw[PV.dep] at hy;omega
  |dic z1 z2 z3 z4 z5=>rw[PV.dep] at hy;omega
 | str b1=>
  obtain⟨t1,rfl⟩:=ru
  cases hyy:ry with
  | non=>
   cases rv
   rw[eqB_ne (by simp[PV.norm])];exact SeqAt.RcNeAt.str_none _ _
  | bl b2=>
   cases rv
   rw[eqB_ne (by simp[PV.norm])];exact SeqAt.RcNeAt.str_bool _ _ _
  | int b2=>
   obtain⟨t2,rfl⟩:=rv
   rw[eqB_ne (by simp[PV.norm])];exact SeqAt.RcNeAt.str_int _ _ _ _
  | str b2=>
   obtain⟨t2,rfl⟩:=rv
   rw[eqB_ss];exact SeqAt.RcNeAt.str_str _ _ _ _
  | @lst b vs' ys g' e' l' h'=>
   cases rv
   rw[eqB_ne (by simp[PV.norm])];obtain⟨i2,v2,hl2,_⟩:=I.listR e';exact SeqAt.RcNeAt.str_list _ _  hl2 (by omega)
  | @tup b vs' ys e' l' h'=>
   cases rv
   rw[eqB_ne (by simp[PV.norm])];obtain⟨i2,v2,hl2,_⟩:=I.tuple (d7.of e');exact SeqAt.RcNeAt.str_tuple _ _  hl2 (by omega)
  |ty z=>rw[PV.dep] at hy;omega
  |set z=>rw[PV.dep] at hy;omega
  |dic z1 z2 z3 z4 z5=>rw[PV.dep] at hy;omega
 | @lst a vs xs g e l h=>
  cases ru
  cases hyy:ry with
  | non=>
   cases rv
   rw[eqB_ne (by simp[PV.norm])];obtain⟨i1,v1,hl1,_⟩:=I.listR e;exact SeqAt.RcNeAt.list_none   hl1 (by omega)
  | bl b2=>
   cases rv
   rw[eqB_ne (by simp[PV.norm])];obtain⟨i1,v1,hl1,_⟩:=I.listR e;exact SeqAt.RcNeAt.list_bool  _ hl1 (by omega)
  | int b2=>
   obtain⟨t2,rfl⟩:=rv
   rw[eqB_ne (by simp[PV.norm])];obtain⟨i1,v1,hl1,_⟩:=I.listR e;exact SeqAt.RcNeAt.list_int  _ _ hl1 (by omega)
  | str b2=>
   obtain⟨t2,rfl⟩:=rv
   rw[eqB_ne (by simp[PV.norm])];obtain⟨i1,v1,hl1,_⟩:=I.listR e;exact SeqAt.RcNeAt.list_str  _ _ hl1 (by omega)
  | @lst b vs' ys g' e' l' h'=>
   cases rv
   obtain⟨i1,v1,hl1,_⟩:=I.listR e
   obtain⟨i2,v2,hl2,_⟩:=I.listR e'
   have n1:=v1.length
   have n2:=v2.length
   by_cases hlen:xs.length=ys.length
   ·rw [eqB_lists (n:=i1.toArray.size) (by simp;omega) (by simp;omega)]
    exact SeqAt.RcNeAt.lists hl1 hl2 (by simp;omega) (by omega) (λj h1 h2=>by
      have j1:j<i1.length:=by simpa using h1
      have j2:j<i2.length:=by simpa using h2
      obtain⟨u1,eu,ru1⟩:=v1.get (a0a (l:=vs) (i:=j) (by omega))
      obtain⟨u2,ev,ru2⟩:=v2.get (a0a (l:=vs') (i:=j) (by omega))
      rw[toArr_get eu h1,toArr_get ev h2,a0c,a0c,a0a (l:=xs) (by omega),a0a (l:=ys) (by omega)]
      refine eqAt_rep I 59 (by omega) (A:=A.in1) (h j _ _ (a0a (by omega)) (a0a (by omega))) (h' j _ _ (a0a (by omega)) (a0a (by omega))) ru1 ru2 ?_ (by show A.units+1+59<cLine;omega) ?_
      ·rw[PV.dep] at hd
       exact Nat.le_trans (PV.deps_le (List.getElem_mem _)) (by omega)
      ·rw[PV.dep] at hy
       exact Nat.lt_of_le_of_lt (PV.deps_le (List.getElem_mem _)) (by omega))
   ·rw[eqB_len hlen]
    exact SeqAt.RcNeAt.lists_lengths hl1 hl2 (by simp;omega) (by omega)
  | @tup b vs' ys e' l' h'=>
   cases rv
   rw[eqB_ne (by simp[PV.norm])];obtain⟨i1,v1,hl1,_⟩:=I.listR e;obtain⟨i2,v2,hl2,_⟩:=I.tuple (d7.of e');exact SeqAt.RcNeAt.list_tuple hl1 hl2 (by omega)
  |ty z=>rw[PV.dep] at hy;omega
  |set z=>rw[PV.dep] at hy;omega
  |dic z1 z2 z3 z4 z5=>rw[PV.dep] at hy;omega
 | @tup a vs xs e l h=>
  cases ru
  cases hyy:ry with
  | non=>
   cases rv
   rw[eqB_ne (by simp[PV.norm])];obtain⟨i1,v1,hl1,_⟩:=I.tuple (d7.of e);exact SeqAt.RcNeAt.tuple_none   hl1 (by omega)
  | bl b2=>
   cases rv
   rw[eqB_ne (by simp[PV.norm])];obtain⟨i1,v1,hl1,_⟩:=I.tuple (d7.of e);exact SeqAt.RcNeAt.tuple_bool  _ hl1 (by omega)
  | int b2=>
   obtain⟨t2,rfl⟩:=rv
   rw[eqB_ne (by simp[PV.norm])];obtain⟨i1,v1,hl1,_⟩:=I.tuple (d7.of e);exact SeqAt.RcNeAt.tuple_int  _ _ hl1 (by omega)
  | str b2=>
   obtain⟨t2,rfl⟩:=rv
   rw[eqB_ne (by simp[PV.norm])];obtain⟨i1,v1,hl1,_⟩:=I.tuple (d7.of e);exact SeqAt.RcNeAt.tuple_str  _ _ hl1 (by omega)
  | @lst b vs' ys g' e' l' h'=>
   cases rv
   rw[eqB_ne (by simp[PV.norm])];obtain⟨i1,v1,hl1,_⟩:=I.tuple (d7.of e);obtain⟨i2,v2,hl2,_⟩:=I.listR e';exact SeqAt.RcNeAt.tuple_list hl1 hl2 (by omega)
  | @tup b vs' ys e' l' h'=>
   cases rv
   obtain⟨i1,v1,hl1,_⟩:=I.tuple (d7.of e)
   obtain⟨i2,v2,hl2,_⟩:=I.tuple (d7.of e')
   have n1:=v1.length
   have n2:=v2.length
   have go:=SeqAt.RcNeAt.tuples (A:=A) (e:=λj=>(xs.getD j .non).eqB (ys.getD j .non)) hl1 hl2 (by omega) (λj h1 h2=>by
    have j1:j<i1.length:=by simpa using h1
    have j2:j<i2.length:=by simpa using h2
    obtain⟨u1,eu,ru1⟩:=v1.get (a0a (l:=vs) (i:=j) (by omega))
    obtain⟨u2,ev,ru2⟩:=v2.get (a0a (l:=vs') (i:=j) (by omega))
    rw[toArr_get eu h1,toArr_get ev h2,a0c,a0c,a0a (l:=xs) (by omega),a0a (l:=ys) (by omega)]
    refine eqAt_rep I 59 (by omega) (A:=A.in1) (h j _ _ (a0a (by omega)) (a0a (by omega))) (h' j _ _ (a0a (by omega)) (a0a (by omega))) ru1 ru2 ?_ (by show A.units+1+59<cLine;omega) ?_
    ·rw[PV.dep] at hd
     exact Nat.le_trans (PV.deps_le (List.getElem_mem _)) (by omega)
    ·rw[PV.dep] at hy
     exact Nat.lt_of_le_of_lt (PV.deps_le (List.getElem_mem _)) (by omega))
   rw[eqB_tup_lst]
   by_cases hlen:xs.length=ys.length
   ·rw[eqB_lists (n:=i1.toArray.size) (by simp;omega) (by simp;omega)]
    rw[show min i1.toArray.size i2.toArray.size=i1.toArray.size by simp;omega,show (i1.toArray.size==i2.toArray.size)=true by simp;omega,Bool.and_true] at go
    exact go
   ·rw[eqB_len hlen]
    rw[show (i1.toArray.size==i2.toArray.size)=false by simp;omega,Bool.and_false] at go
    exact go
  |ty z=>rw[PV.dep] at hy;omega
  |set z=>rw[PV.dep] at hy;omega
  |dic z1 z2 z3 z4 z5=>rw[PV.dep] at hy;omega
 |ty z=>rw[PV.dep] at hd;omega
 |set z=>rw[PV.dep] at hd;omega
 |dic z1 z2 z3 z4 z5=>rw[PV.dep] at hd;omega
def XT:R2:=λx y H Q=>∃G G' px py,Rep G H x px/\Rep G' H y py/\px.dep<=60/\py.dep<1000/\Q (.bl (px.eqB py)) H
def Y0:R2:=λx y H Q=>∃G G' px py,Rep G H x px/\Rep G' H y py/\px.dep<=60/\py.dep<1000/\Q (.bl (!px.eqB py)) H
theorem WN(hu:X.A.units+60<cLine):m8 X (compareOp .Eq) XT:=by
 intro pins s σ H x y v u Q I rx ry h
 obtain⟨G,G',px,py,r1,r2,d1,d2,q⟩:=h
 exact PySem.W.cmp_ofEq (MU I r1 r2 rx ry d1 hu d2 X.prog X.w X.xe _ ⟨.bl _,H,I,rfl,q⟩)
theorem WS(hu:X.A.units+60<cLine):m8 X (compareOp .NotEq) Y0:=by
 intro pins s σ H x y v u Q I rx ry h
 obtain⟨G,G',px,py,r1,r2,d1,d2,q⟩:=h
 exact PySem.W.cmp_ofNotEq (MV I r1 r2 rx ry d1 hu d2 X.prog X.w X.xe _ ⟨.bl _,H,I,rfl,q⟩)
def XU(neg:Bool):R2:=λx y H Q=>∃G G' px ys,Rep G H x px/\(Rep G' H y (.lst ys)\/Rep G' H y (.tup ys))/\px.dep<1000/\PV.deps ys<=60/\Q (.bl (if neg then !ys.any (λz=>z.eqB px) else ys.any λz=>z.eqB px)) H
theorem O9 {vs:List V} {its:List Value} {ys:List PV} {px:PV} {G:Addr->Prop} (v:aV vs its) (r:Reps G H vs ys) {e:Value->Bool} (he:∀(j:Nat) (y:PV) (u:Value),ys[j]? =some y->its[j]? =some u->e u=y.eqB px):its.toArray.any e=ys.any λz=>z.eqB px:=by
 have n1:=v.length
 have n2:=r.len
 rw[List.any_toArray]
 rw[Bool.eq_iff_iff,List.any_eq_true,List.any_eq_true]
 constructor
 ·rintro⟨u,hu,h⟩
  obtain⟨j,hj,rfl⟩:=List.getElem_of_mem hu
  refine⟨ys[j]'(by omega),List.getElem_mem _,?_⟩
  rw[<- he j _ _ (a0a (by omega)) (a0a hj)];exact h
 ·rintro⟨y,hy,h⟩
  obtain⟨j,hj,rfl⟩:=List.getElem_of_mem hy
  refine⟨its[j]'(by omega),List.getElem_mem _,?_⟩
  rw[he j _ _ (a0a hj) (a0a (by omega))];exact h
open Classical in
theorem SY {A:Around} {G G':Addr->Prop} {vs:List V} {its:List Value} {ys:List PV} {px:PV} {x:V} {u:Value} (I:Inv X pins σ H s) (v:aV vs its) (r:Reps G H vs ys) (rx:Rep G' H x px) (ru:bA x u) (hd:px.dep<1000) (hds:PV.deps ys<=60) (hu:A.units+60<cLine) :
  ∃e:Value->Bool,(∀y,y∈its.toArray->SeqAt.EqAt A s y u (e y))/\its.toArray.any e=ys.any λz=>z.eqB px:=by
 have n1:=v.length
 have n2:=r.len
 have ex:∀w,w∈its->∃b,SeqAt.EqAt A s w u b/\∀(j:Nat) (y:PV),ys[j]? =some y->its[j]? =some w->b=y.eqB px:=by
  intro w hw
  obtain⟨j,hj,rfl⟩:=List.getElem_of_mem hw
  obtain⟨w1,e1,r1⟩:=v.get (a0a (l:=vs) (i:=j) (by omega))
  rw[a0a hj] at e1;cases e1
  have ry:=r.at_ j _ _ (a0a (by omega)) (a0a (l:=ys) (by omega))
  refine⟨(ys[j]'(by omega)).eqB px,eqAt_rep I 60 (by omega) ry rx r1 ru (Nat.le_trans (PV.deps_le (List.getElem_mem _)) hds) hu hd,λk y e1 e2=>?_⟩
  obtain⟨w2,e3,r3⟩:=v.get (a0a (l:=vs) (i:=k) (by have:=(List.getElem?_eq_some_iff.mp e1).1;omega))
  rw[e2] at e3;cases e3
  have:=r1.inj r3
  have rk:=r.at_ k _ _ (a0a (by have:=(List.getElem?_eq_some_iff.mp e1).1;omega)) e1
  rw[<- this] at rk
  rw[ry.inj rk]
 refine⟨λw=>if h:w∈its then (ex w h).choose else false,λy hy=>?_,O9 v r λj y w e1 e2=>?_⟩
 ·have hy':y∈its:=by simpa using hy
  dsimp only
  rw[dif_pos hy']
  exact (ex y hy').choose_spec.1
 ·have hw:=List.mem_of_getElem? e2
  rw[dif_pos hw]
  exact (ex w hw).choose_spec.2 j y e1 e2
theorem WO (hu:X.A.units+61<cLine):m8 X (compareOp .In) (XU false):=by
 intro pins s σ H x y v u Q I rx ry h
 obtain⟨G,G',px,ys,r1,r2,d1,d2,q⟩:=h
 rw[if_neg (by decide)] at q
 rcases r2 with r2|r2
 ·obtain⟨a,vs,rfl,g,e,rs⟩:=r2.ofList
  cases ry
  obtain⟨its,vv,hl,_⟩:=I.listR e
  obtain⟨f,h1,h2⟩:=SY (A:=X.A.in1) I vv rs r1 rx d1 d2 (by show X.A.units+1+60<cLine;omega)
  exact SeqAt.in_listAt f hl h1 (by rw[h2];exact⟨.bl _,H,I,rfl,q⟩)
 ·obtain⟨a,vs,rfl,e,rs⟩:=r2.ofTup
  cases ry
  obtain⟨its,vv,hl,_⟩:=I.tuple (d7.of e)
  obtain⟨f,h1,h2⟩:=SY (A:=X.A.in1) I vv rs r1 rx d1 d2 (by show X.A.units+1+60<cLine;omega)
  exact SeqAt.in_tupleAt f hl h1 (by rw[h2];exact⟨.bl _,H,I,rfl,q⟩)
end
theorem RK{X:Cx}(hu:X.A.units+64<cLine):QOp X (compareOp .Eq) XT:=⟨WN (by omega)⟩
theorem RM{X:Cx}(hu:X.A.units+64<cLine):QOp X (compareOp .NotEq) Y0:=⟨WS (by omega)⟩
theorem F9{X:Cx}(hu:X.A.units+64<cLine):QOp X (compareOp .In) (XU false):=⟨WO (by omega)⟩
abbrev lR{α:Type}:List α->Nat->Option α
 |[],_=>none
 |a::_,0=>some a
 |_::l,n+1=>lR l n
theorem iO{α:Type}:∀(l:List α) (i:Nat),lR l i=l[i]?
 |[],_=>by simp[lR]
 |a::l,0=>by simp[lR]
 |a::l,i+1=>by simp[lR,iO l i]
abbrev dO{α:Type}:List α->Nat->α->List α
 |[],_,_=>[]
 |_::l,0,b=>b::l
 |a::l,n+1,b=>a::dO l n b
theorem dD{α:Type}:∀(l:List α) (i:Nat) (b:α),dO l i b=l.set i b
 |[],_,_=>by simp[dO]
 |a::l,0,b=>by simp[dO]
 |a::l,i+1,b=>by simp[dO,dD l i b]
abbrev aR:=b5->(PV->Prop)->Prop
abbrev eS:=b5->(Bool->Prop)->Prop
abbrev l6:=b5->(List PV->Prop)->Prop
abbrev P2:=PV->PV->(PV->Prop)->Prop
abbrev PN:=List PV->(PV->Prop)->Prop
def Br(b:Bool)(x y:Prop):Prop:=match b with
 |true=>x
 |false=>y
theorem U3{b:Bool}{x y:Prop}(h1:b=true->x)(h2:b=false->y):Br b x y:=by
 cases b with
 |true=>exact h1 rfl
 |false=>exact h2 rfl
def pC(x:PV):aR:=λ_ Q=>Q x
def a9(i:Nat):aR:=λenv Q=>match lR env i with
 |some (some x)=>Q x
 |_=>False
def b9(r:P2)(a b:aR):aR:=λenv Q=>a env λx=>b env λy=>r x y Q
def LZ(r:PV->(PV->Prop)->Prop)(a:aR):aR:=λenv Q=>a env λx=>r x Q
def aG:l6:=λ_ Q=>Q []
def a8(a:aR)(r:l6):l6:=λenv Q=>a env λx=>r env λxs=>Q (x::xs)
def c8(r:PN)(a:l6):aR:=λenv Q=>a env λxs=>r xs Q
def mZ(a:aR):eS:=λenv Q=>a env λx=>match x with
 |.bl b=>Q b
 |_=>False
def sH(a b:aR):aR:=λenv Q=>a env λx=>match x with
 |.bl k=>Br k (b env Q) (Q (.bl false))
 |_=>False
def AV(a:aR):aR:=λenv Q=>a env λx=>match x with
 |.bl k=>Q (.bl (!k))
 |_=>False
def HV(a b:eS):eS:=λenv Q=>a env λk=>Br k (b env Q) (Q false)
def Z5(a b:eS):eS:=λenv Q=>a env λk=>Br k (Q true) (b env Q)
def DA(a:eS):eS:=λenv Q=>a env λk=>Q (!k)
def mJ(r r':P2)(a b c:aR):aR:=λenv Q=>a env λx=>b env λy=>r x y λz=>match z with
 |.bl k=>Br k (c env λw=>r' y w Q) (Q (.bl false))
 |_=>False
def lT(a:aR):aR:=λenv Q=>a env λx=>x.flat=true/\Q x
def jB(B:Hp)(W:Wd)(H:Hp)(m:Md)(Q:PV->Prop)(K:VK):Prop:=∀(x:PV) (v:V) (W':Wd) (H':Hp),Go W H W' H'->ResE B H W' H' m v x->Q x->K v H'
def eK(K':Aa)(md:List Md)(m:Md)(p:aR):TE:=λσ H K=>∃(env:b5) (W0:Wd) (H0:Hp) (W:Wd) (Q:PV->Prop),Rl K' md W0 H0 W σ env H/\p env Q/\jB H0 W H m Q K
def pN(K':Aa)(md:List Md)(p:eS):TT:=λσ H K=>∃(env:b5) (W0:Wd) (H0:Hp) (W:Wd) (Q:Bool->Prop),Rl K' md W0 H0 W σ env H/\p env Q/\∀(b:Bool) (W':Wd) (H':Hp),Go W H W' H'->Q b->K b H'
inductive ResEs(B H:Hp)(W':Wd)(H':Hp):List Md->List V->List PV->Prop where
 |nil:ResEs B H W' H' [] [] []
 |cons {m:Md} {v:V} {x:PV} {ms:List Md} {vs:List V} {xs:List PV}:ResE B H W' H' m v x->ResEs B H W' H' ms vs xs->ResEs B H W' H' (m::ms) (v::vs) (x::xs)
def Z8(B:Hp)(W:Wd)(H:Hp)(ms:List Md)(Q:List PV->Prop)(K:List V->Hp->Prop):Prop:=∀(xs:List PV) (vs:List V) (W':Wd) (H':Hp),Go W H W' H'->ResEs B H W' H' ms vs xs->Q xs->K vs H'
def T3(K':Aa)(md:List Md)(ms:List Md)(p:l6):TA:=λσ H K=>∃(env:b5) (W0:Wd) (H0:Hp) (W:Wd) (Q:List PV->Prop),Rl K' md W0 H0 W σ env H/\p env Q/\Z8 H0 W H ms Q K
structure VE(X:Cx)(md:List Md)(e:Expr)(m:Md)(p:aR):Prop where
 h:PE X e (eK X.K md m p)
structure VT(X:Cx)(md:List Md)(e:Expr)(p:eS):Prop where
 h:PT X e (pN X.K md p)
structure VW(X:Cx)(md:List Md)(e:Expr)(p:eS):Prop where
 h:PW X e (pN X.K md p)
structure VA(X:Cx)(md:List Md)(es:List Expr)(ms:List Md)(p:l6):Prop where
 h:PA X es (T3 X.K md ms p)
section
variable{X:Cx}{e:Expr}{es:List Expr}{t t':TE}
theorem PE.imp(h:PE X e t)(k:∀σ H K,t' σ H K->t σ H K):PE X e t':=λpins s σ H Q I q=>h pins s σ H Q I (k σ H Q q)
theorem PT.imp{t t':TT}(h:PT X e t)(k:∀σ H K,t' σ H K->t σ H K):PT X e t':=λpins s σ H Q I q=>h pins s σ H Q I (k σ H Q q)
theorem PW.imp{t t':TT}(h:PW X e t)(k:∀σ H K,t' σ H K->t σ H K):PW X e t':=λwh pins s σ H Q I q=>h wh pins s σ H Q I (k σ H Q q)
theorem PA.imp{t t':TA}(h:PA X es t)(k:∀σ H K,t' σ H K->t σ H K):PA X es t':=λpos pins s σ H Q I q=>h pos pins s σ H Q I (k σ H Q q)
end
section
variable{W W1 W2:Wd}{B H H1 H2:Hp}{m:Md}{el:El}{Q:PV->Prop}{K:VK}
theorem jB.after(k:jB B W H m Q K)(g:Go W H W1 H1):jB B W1 H1 m Q K:=λx v W' H' g' r q=>k x v W' H' (g.trans g') (ResE.base g r) q
theorem ResEs.base{ms:List Md}{vs:List V}{xs:List PV}(g:Go W H W1 H1)(r:ResEs B H1 W2 H2 ms vs xs):ResEs B H W2 H2 ms vs xs:=by
 induction r with
 |nil=>exact .nil
 |cons h _ ih=>exact .cons (ResE.base g h) ih
theorem ResEs.go{ms:List Md}{vs:List V}{xs:List PV}(r:ResEs B H W1 H1 ms vs xs)(w:Wok W1 H1)(g:Go W1 H1 W2 H2):ResEs B H W2 H2 ms vs xs:=by
 induction r with
 |nil=>exact .nil
 |cons h _ ih=>exact .cons (h.go w g) ih
theorem jB.atom(k:jB B W H (.v .fl) Q K)(w:Wok W H){v:V}{x:PV}(r:Rep (λ_=>False) H v x)(q:Q x):K v H:=k x v W H (Go.refl w) r q
theorem jB.val(k:jB B W H (.v el) Q K)(w:Wok W H){v:V}{x:PV}(r:Rep (el.G W.F B) H v x)(q:Q x):K v H:=k x v W H (Go.refl w) r q
theorem Go.laid (w:Wok W H) {p:Addr} {o:HO} (h:H p=none):Go W H W (b7 H p o) where
 lF:=λ_ h=>h
 lS:=λ_ h=>h
 nF:=λ_ h=>.inl h
 nS:=λ_ h=>.inl h
 kp:=λa u e _=>by rw[aD (bR e h)];exact e
 ok:=⟨λa f=>by obtain⟨u,e⟩:=w.fF a f;exact⟨u,by rw[aD (bR e h)];exact e⟩,λa f=>by
  obtain⟨x1,x2,x3,e,z⟩:=w.sS a f
  exact⟨x1,x2,x3,by rw[aD (bR e h)];exact e,z⟩,w.dj,λa f=>by obtain⟨u,e⟩:=w.zZ a f;exact⟨u,by rw[aD (bR e h)];exact e⟩,w.zF,w.zS⟩
 kk:=rfl
 kl:=rfl
 lZ:=λ_ h=>h
 nZ:=λ_ h=>.inl h
theorem Wok.offF(w:Wok W H){p:Addr}(h:H p=none)(f:W.F p):False:=by
 obtain⟨o,e⟩:=w.fF p f
 rw[h] at e;cases e
theorem Wok.offS(w:Wok W H){p:Addr}(h:H p=none)(f:W.S p):False:=by
 obtain⟨_,_,_,e,_⟩:=w.sS p f
 rw[h] at e;cases e
theorem Wok.offZ(w:Wok W H){p:Addr}(h:H p=none)(f:W.Z p):False:=by
 obtain⟨o,e⟩:=w.zZ p f
 rw[h] at e;cases e
theorem jB.newB(k:jB B W H (.o el) Q K)(w:Wok W H){o:HO}{x:PV}{p:Addr}(h:H p=none)(r:Body (el.G W.F B) H o x)(q:Q x):K (.ref p) (b7 H p o):=
 k x (.ref p) W _ (Go.laid w h) ⟨p,o,rfl,h,λf=>w.offF h f,λf=>w.offS h f,aU,(Go.laid w h).body w (λ_ g=>El.nS w g) (λ_ g=>g) r,λf=>w.offZ h f⟩ q
theorem jB.newL(k:jB B W H (.o el) Q K)(w:Wok W H){vs:List V}{xs:List PV}{p:Ac}(h:H p=none)(r:Reps (el.G W.F B) H vs xs)(q:Q (.lst xs)):K (.ref p) (b7 H p (.lst vs)):=k.newB w h (.lst r) q
theorem jB.newT(k:jB B W H (.v el) Q K)(w:Wok W H){vs:List V}{xs:List PV}{p:Addr}(h:H p=none)(r:Reps (el.G W.F B) H vs xs)(q:Q (.tup xs)):K (.ref p) (b7 H p (.tup vs)):=
 k (.tup xs) (.ref p) W _ (Go.laid w h) (.tup aU r.len ((Go.laid w h).reps w (λ_ g=>El.nS w g) (λ_ g=>g) r).at_) q
end
section
variable{X:Cx}{md:List Md}{a b c e:Expr}{es:List Expr}{pa pb pc pe:aR}{m:Md}{el:El}{pos p:Pos}
theorem eG{n:Md}(h:VE X md e m pe)(hm:m.le n=true):VE X md e n pe:=⟨h.h.imp λσ H K=>by
 rintro⟨env,W0,H0,W,Q,R,q,k⟩
 exact⟨env,W0,H0,W,Q,R,q,λx v W' H' g r z=>k x v W' H' g (r.le g.ok hm) z⟩⟩
theorem z7(h:VE X md e (.o el) pe):VE X md e (.z el) pe:=⟨h.h.imp λσ H K=>by
 rintro⟨env,W0,H0,W,Q,R,q,k⟩
 refine⟨env,W0,H0,W,Q,R,q,λx v W' H' g r z=>?_⟩
 obtain⟨W2,g2,r2⟩:=R.go.freeze g r
 exact k x v W2 H' g2 r2 z⟩
theorem oI(h:VE X md e .bw pe):VE X md e (.v .fl) (lT pe):=⟨h.h.imp λσ H K=>by
 rintro⟨env,W0,H0,W,Q,R,q,k⟩
 exact⟨env,W0,H0,W,λx=>x.flat=true/\Q x,R,q,λx v W' H' g r z=>k x v W' H' g (Rep.flat r z.1) z.2⟩⟩
def fS(a:aR):aR:=λenv Q=>a env λx=>match x with
 |.lst xs=>PV.flats xs=true/\Q (.lst xs)
 |_=>False
theorem l0 (h:VE X md e (.o el) pe):VE X md e (.o .fl) (fS pe):=⟨h.h.imp λσ H K=>by
 rintro⟨env,W0,H0,W,Q,R,q,k⟩
 refine⟨env,W0,H0,W,_,R,q,λx v W' H' g r z=>?_⟩
 cases x with
 | lst xs=>
  obtain⟨a,o,rfl,h1,h2,h3,h4,h5,h6⟩:=r
  cases h5 with
  |lst h5=>exact k _ _ W' H' g ⟨a,_,rfl,h1,h2,h3,h4,.lst (flats_reps h5 z.1),h6⟩ z.2
 |_=>exact z.elim⟩
theorem jQ{v:V}{x:PV}(h:QE X e (tC v))(hr:∀H,Rep (λ_=>False) H v x):VE X md e (.v .fl) (pC x):=⟨h.h.imp λσ H K=>by
 rintro⟨env,W0,H0,W,Q,R,q,k⟩
 exact k.atom R.ok (hr H) q⟩
theorem aE{i j pos}:VE X md (.Constant (.int i) j pos) (.v .fl) (pC (.int i)):=jQ aZ λ_=>.int _
theorem lY{b j pos}:VE X md (.Constant (.bool b) j pos) (.v .fl) (pC (.bl b)):=jQ a0T λ_=>.bl _
theorem jR{j pos}:VE X md (.Constant .none j pos) (.v .fl) (pC .non):=jQ XN λ_=>.non
theorem zA{x j pos}:VE X md (.Constant (.str x) j pos) (.v .fl) (pC (.str x)):=jQ XO λ_=>.str _
theorem bS {i:Nat} (h:QE X e (eH i)) (hm:(md.getD i .no)=m) (hl:m.own=false):VE X md e m (a9 i):=⟨h.h.imp λσ H K=>by
 rintro⟨env,W0,H0,W,Q,R,q,k⟩
 unfold a9 at q
 rw[iO] at q
 cases e:env[i]? with
 |none=>rw[e] at q;exact q.elim
 | some o=>
  cases o with
  |none=>rw[e] at q;exact q.elim
  | some x=>
   rw[e] at q
   obtain⟨v,s,r⟩:=R.slot i x e
   rw[hm] at r
   refine⟨v,s,k x v W H (Go.refl R.ok) ?_ q⟩
   cases m<;>first|exact r|cases hl⟩
theorem z9 {i:Nat} (h:QE X e (eH i)) (hm:md.getD i .no= .o el):VE X md e (.p el) (a9 i):=⟨h.h.imp λσ H K=>by
 rintro⟨env,W0,H0,W,Q,R,q,k⟩
 unfold a9 at q
 rw[iO] at q
 cases e:env[i]? with
 |none=>rw[e] at q;exact q.elim
 | some o=>
  cases o with
  |none=>rw[e] at q;exact q.elim
  | some x=>
   rw[e] at q
   obtain⟨v,s,r⟩:=R.slot i x e
   rw[hm] at r
   refine⟨v,s,k x v W H (Go.refl R.ok) ?_ q⟩
   obtain⟨a,o,rfl,h1⟩:=r
   exact .inr ⟨a,o,rfl,h1.nS,h1.at_,h1.its⟩⟩
structure SimOp(r:R2)(m:Md)(pr:P2):Prop where
 h:∀(B:Hp) (W:Wd) (H:Hp) (x y:V) (px py:PV) (Q:PV->Prop) (K:VK),Wok W H->Rep (λa=>¬W.S a) H x px->Rep (λa=>¬W.S a) H y py->pr px py Q->jB B W H m Q K->r x y H K
theorem L8{K':PySem.W.Frag}{r:R2}{pr:P2}(hs:SimOp r m pr){σ:St}{H:Hp}{K:VK}(h:eK K' md m (b9 pr pa pb) σ H K):NC r (eK K' md .bw pa) (eK K' md .bw pb) σ H K:=by
 obtain⟨env,W0,H0,W,Q,R,q,k⟩:=h
 refine⟨env,W0,H0,W,_,R,q,λx v W1 H1 g1 r1 q1=>⟨env,W0,H0,W1,_,R.step g1,q1,λy u W2 H2 g2 r2 q2=>?_⟩⟩
 exact hs.h H0 W2 H2 v u x y Q K g2.ok (g2.bw g1.ok r1) r2 q2 (k.after (g1.trans g2))
theorem c7{op:Operator}{r:R2}{pr:P2}(ho:QOp X (binaryOp op) r)(hs:SimOp r m pr)(ha:VE X md a .bw pa)(hb:VE X md b .bw pb):VE X md (.BinOp a op b pos) m (b9 pr pa pb):=
 ⟨(AZ ho.h ha.h hb.h).imp λ_ _ _ h=>L8 hs h⟩
theorem YS{op:CmpOp}{r:R2}{pr:P2}(ho:QOp X (compareOp op) r)(hs:SimOp r m pr)(ha:VE X md a .bw pa)(hb:VE X md b .bw pb)(hm:behindInMarks op b=false):VE X md (.Compare a [op] [b] pos) m (b9 pr pa pb):=
 ⟨(EY ho.h ha.h hb.h hm).imp λ_ _ _ h=>L8 hs h⟩
theorem d5 {op:CmpOp} {r:R2} {pr:P2} (ho:QOp X (compareOp op) r) (hs:SimOp r (.v .fl) pr) (ha:VE X md a .bw pa) (hb:VE X md b .bw pb) (hm:behindInMarks op b=false):VT X md (.Compare a [op] [b] pos) (mZ (b9 pr pa pb)):=
 ⟨(F6 ho.h ha.h hb.h hm).imp λσ H K=>by
  rintro⟨env,W0,H0,W,Q,R,q,k⟩
  refine L8 (K:=λx H'=>∃c,x= .bl c/\K c H') hs ⟨env,W0,H0,W,_,R,q,λx v W' H' g r z=>?_⟩
  cases x with
  |bl c=>exact⟨c,Rep.ofBl r,k c W' H' g z⟩
  |_=>exact z.elim⟩
theorem a05 {K':PySem.W.Frag} {r r':R2} {pr pr':P2} (hs:SimOp r (.v .fl) pr) (hs':SimOp r' (.v .fl) pr') {σ:St} {H:Hp} {K:VK} (h:eK K' md (.v .fl) (mJ pr pr' pa pb pc) σ H K):N8 r r' (eK K' md .bw pa) (eK K' md .bw pb) (eK K' md .bw pc) σ H K:=by
 obtain⟨env,W0,H0,W,Q,R,q,k⟩:=h
 refine⟨env,W0,H0,W,_,R,q,λx v W1 H1 g1 r1 q1=>⟨env,W0,H0,W1,_,R.step g1,q1,λy u W2 H2 g2 r2 q2=>?_⟩⟩
 refine hs.h H0 W2 H2 v u x y _ _ g2.ok (g2.bw g1.ok r1) r2 q2 λz w W3 H3 g3 r3 q3=>?_
 cases z with
 | bl c=>
  refine⟨c,Rep.ofBl r3,?_⟩
  cases c with
  | true=>
   rw[if_pos rfl]
   refine⟨env,W0,H0,W3,_,(R.step g1).step (g2.trans g3),q3,λz' w' W4 H4 g4 r4 q4=>?_⟩
   exact hs'.h H0 W4 H4 u w' y z' Q K g4.ok (g4.bw g3.ok (g3.bw g2.ok r2)) r4 q4 (k.after (((g1.trans g2).trans g3).trans g4))
  | false=>
   rw[if_neg Bool.false_ne_true]
   exact (k.after ((g1.trans g2).trans g3)).atom g3.ok (.bl false) q3
 |_=>exact q3.elim
theorem BN {op op':CmpOp} {r r':R2} {pr pr':P2} (ho:QOp X (compareOp op) r) (ho':QOp X (compareOp op') r') (hs:SimOp r (.v .fl) pr) (hs':SimOp r' (.v .fl) pr') (ha:VE X md a .bw pa) (hb:VE X md b .bw pb) (hc:VE X md c .bw pc) (hm:lastMarks [op,op'] [b,c]=false:=by with_unfolding_all rfl) :
  VE X md (.Compare a [op,op'] [b,c] pos) (.v .fl) (mJ pr pr' pa pb pc):=⟨(M3 ho.h ho'.h ha.h hb.h hc.h hm).imp λ_ _ _ h=>a05 hs hs' h⟩
theorem a1O {op:UnaryOp} {r:V->Hp->VK->Prop} {pr:PV->(PV->Prop)->Prop} (ho:QUn X (unaryOp op) r) (hs:∀(B:Hp) (W:Wd) (H:Hp) (x:V) (px:PV) (Q:PV->Prop) (K:VK),Wok W H->Rep (λa=>¬W.S a) H x px->pr px Q->jB B W H m Q K->r x H K) (ha:VE X md a .bw pa) :
  VE X md (.UnaryOp op a pos) m (LZ pr pa):=⟨(TB ho.h ha.h).imp λσ H K=>by
 rintro⟨env,W0,H0,W,Q,R,q,k⟩
 exact⟨env,W0,H0,W,_,R,q,λx v W1 H1 g1 r1 q1=>hs H0 W1 H1 v x Q K g1.ok r1 q1 (k.after g1)⟩⟩
theorem z8{op}(h:VE X md a m pe):VE X md (.BoolOp op [a] pos) m pe:=⟨X2 h.h⟩
theorem DV {rest:List Expr} (ha:VE X md a .bw pa) (hb:VE X md (.BoolOp .And (b::rest) pos) (.v .fl) pb):VE X md (.BoolOp .And (a::b::rest) pos) (.v .fl) (sH pa pb):=⟨(WX ha.h hb.h).imp λσ H K=>by
 rintro⟨env,W0,H0,W,Q,R,q,k⟩
 refine⟨env,W0,H0,W,_,R,q,λx v W1 H1 g1 r1 q1=>?_⟩
 cases x with
 | bl c=>
  refine⟨c,Rep.ofBl r1,?_⟩
  cases c with
  |true=>rw[if_pos rfl];exact⟨env,W0,H0,W1,Q,R.step g1,q1,k.after g1⟩
  |false=>rw[if_neg Bool.false_ne_true];exact (k.after g1).atom g1.ok (.bl false) q1
 |_=>exact q1.elim⟩
theorem YT(ha:VE X md a .bw pa):VE X md (.UnaryOp .Not a pos) (.v .fl) (AV pa):=⟨(X1 ha.h).imp λσ H K=>by
 rintro⟨env,W0,H0,W,Q,R,q,k⟩
 refine⟨env,W0,H0,W,_,R,q,λx v W1 H1 g1 r1 q1=>?_⟩
 cases x with
 |bl c=>exact⟨c,Rep.ofBl r1,(k.after g1).atom g1.ok (.bl _) q1⟩
 |_=>exact q1.elim⟩
theorem mY(h:VE X md e .bw pe)(he:∀whole,isTrue e X.env whole=(do let v <- whole;standAt e.pos;holding [v] (truthy v)):=by intro _;rfl):VT X md e (mZ pe):=⟨(XF h.h he).imp λσ H K=>by
 rintro⟨env,W0,H0,W,Q,R,q,k⟩
 refine⟨env,W0,H0,W,_,R,q,λx v W1 H1 g1 r1 q1=>?_⟩
 cases x with
 |bl c=>exact⟨c,Rep.ofBl r1,k c W1 H1 g1 q1⟩
 |_=>exact q1.elim⟩
theorem DZ{ptt:eS}(ha:VT X md a ptt):VT X md (.UnaryOp .Not a pos) (DA ptt):=⟨(XE ha.h).imp λσ H K=>by
 rintro⟨env,W0,H0,W,Q,R,q,k⟩
 exact⟨env,W0,H0,W,_,R,q,λc W1 H1 g1 q1=>k _ W1 H1 g1 q1⟩⟩
theorem FR{ptt:eS}(h:VW X md e ptt):VT X md e ptt:=⟨h.h.pt⟩
theorem FQ{ptt:eS}(ha:VT X md a ptt):VW X md (.BoolOp .And [a] pos) ptt:=⟨RG ha.h⟩
theorem NT{ptt:eS}(ha:VT X md a ptt):VW X md (.BoolOp .Or [a] pos) ptt:=⟨XH ha.h⟩
theorem NS{rest:List Expr}{pt pu:eS}(ha:VT X md a pt)(hb:VW X md (.BoolOp .And (b::rest) pos) pu):VW X md (.BoolOp .And (a::b::rest) pos) (HV pt pu):=⟨(XG ha.h hb.h).imp λσ H K=>by
 rintro⟨env,W0,H0,W,Q,R,q,k⟩
 refine⟨env,W0,H0,W,_,R,q,λc W1 H1 g1 q1=>?_⟩
 cases c with
 |true=>rw[if_pos rfl];exact⟨env,W0,H0,W1,Q,R.step g1,q1,λb W2 H2 g2 q2=>k b W2 H2 (g1.trans g2) q2⟩
 |false=>rw[if_neg Bool.false_ne_true];exact k _ W1 H1 g1 q1⟩
theorem TU{rest:List Expr}{pt pu:eS}(ha:VT X md a pt)(hb:VW X md (.BoolOp .Or (b::rest) pos) pu):VW X md (.BoolOp .Or (a::b::rest) pos) (Z5 pt pu):=⟨(a0Q ha.h hb.h).imp λσ H K=>by
 rintro⟨env,W0,H0,W,Q,R,q,k⟩
 refine⟨env,W0,H0,W,_,R,q,λc W1 H1 g1 q1=>?_⟩
 cases c with
 |true=>rw[if_pos rfl];exact k _ W1 H1 g1 q1
 |false=>rw[if_neg Bool.false_ne_true];exact⟨env,W0,H0,W1,Q,R.step g1,q1,λb W2 H2 g2 q2=>k b W2 H2 (g1.trans g2) q2⟩⟩
theorem aC:VA X md [] [] aG:=⟨gR.imp λσ H K=>by
 rintro⟨env,W0,H0,W,Q,R,q,k⟩
 exact k [] [] W H (Go.refl R.ok) .nil q⟩
theorem a7{ms:List Md}{pr:l6}(ha:VE X md e m pe)(hr:VA X md es ms pr)(hs:starEach (e::es) X.env=(false,eval e X.env)::starEach es X.env:=by rfl):VA X md (e::es) (m::ms) (a8 pe pr):=⟨(dP ha.h hr.h hs).imp λσ H K=>by
 rintro⟨env,W0,H0,W,Q,R,q,k⟩
 refine⟨env,W0,H0,W,_,R,q,λx v W1 H1 g1 r1 q1=>⟨env,W0,H0,W1,_,R.step g1,q1,λxs vs W2 H2 g2 r2 q2=>?_⟩⟩
 exact k (x::xs) (v::vs) W2 H2 (g1.trans g2) (.cons (r1.go g1.ok g2) (ResEs.base g1 r2)) q2⟩
theorem ResEs.reps{G:Addr->Prop}{B H H':Hp}{W':Wd}{ms:List Md}{vs:List V}{xs:List PV}(r:ResEs B H W' H' ms vs xs)(h:∀(m:Md) (v:V) (x:PV),m∈ms->ResE B H W' H' m v x->Rep G H' v x):Reps G H' vs xs:=by
 induction r with
 |nil=>exact .nil
 |cons h1 _ ih=>exact .cons (h _ _ _ List.mem_cons_self h1) (ih λm v x hm=>h m v x (List.mem_cons_of_mem _ hm))
theorem ResEs.vs{B H H':Hp}{W':Wd}{ms:List Md}{vs:List V}{xs:List PV}(w:Wok W' H')(r:ResEs B H W' H' ms vs xs)(hm:ms.all (λm=>m.le (.v el))=true):Reps (el.G W'.F B) H' vs xs:=r.reps λm v x h q=>ResE.le q w (n:=.v el) (List.all_eq_true.mp hm m h)
theorem ResEs.len{B H H':Hp}{W':Wd}{ms:List Md}{vs:List V}{xs:List PV}(r:ResEs B H W' H' ms vs xs):vs.length=xs.length/\ms.length=xs.length:=by
 induction r with
 |nil=>exact⟨rfl,rfl⟩
 |cons _ _ ih=>simp[ih]
def gY(a:l6):aR:=λenv Q=>a env λxs=>Q (.lst xs)
def jK(a:l6):aR:=λenv Q=>a env λxs=>Q (.tup xs)
theorem tV{ms:List Md}{vs:List V}{xs:List PV}{B H H':Hp}{W':Wd}(r:ResEs B H W' H' ms vs xs)(hl:ms.length<=1000):vs.length<=sizeLine:=by
 have:=r.len
 exact Nat.le_trans (by omega:vs.length<=1000) (by decide)
theorem dH{ms:List Md}{pr:l6}(el:El)(h:VA X md es ms pr)(hm:ms.all (λm=>m.le (.v el))=true)(hl:ms.length<=1000:=by decide):VE X md (.List es pos) (.o el) (gY pr):=⟨(DC h.h).imp λσ H K=>by
 rintro⟨env,W0,H0,W,Q,R,q,k⟩
 exact⟨env,W0,H0,W,_,R,q,λxs vs W1 H1 g1 r1 q1=>⟨tV r1 hl,λp hp=>(k.after g1).newL g1.ok hp (r1.vs g1.ok hm) q1⟩⟩⟩
theorem eR{ms:List Md}{pr:l6}{x1}(el:El)(h:VA X md es ms pr)(hm:ms.all (λm=>m.le (.v el))=true)(hl:ms.length<=1000:=by decide):VE X md (.Tuple es x1 pos) (.v el) (jK pr):=⟨(X6 h.h).imp λσ H K=>by
 rintro⟨env,W0,H0,W,Q,R,q,k⟩
 exact⟨env,W0,H0,W,_,R,q,λxs vs W1 H1 g1 r1 q1=>⟨tV r1 hl,λp hp=>(k.after g1).newT g1.ok hp (r1.vs g1.ok hm) q1⟩⟩⟩
end
def pI(C:Int->Int->Prop)(f:Int->Int->PV):P2:=λx y Q=>match x,y with
 |.int i,.int j=>C i j/\Q (f i j)
 |_,_=>False
def AR(f:Int->Int->PV):P2:=λx y Q=>match x,y with
 |.int i,.int j=>Q (f i j)
 |_,_=>False
def pU(f:Int->PV):PV->(PV->Prop)->Prop:=λx Q=>match x with
 |.int i=>Q (f i)
 |_=>False
theorem TL {C:Int->Int->Prop} {f:Int->Int->Int}:SimOp (rI C λi j=>.int (f i j)) (.v .fl) (pI C λi j=>.int (f i j)):=⟨λB W H x y px py Q K w rx ry q k=>by
 cases px with
 | int i=>cases py with
  |int j=>exact⟨i,j,rx.ofInt,ry.ofInt,q.1,k.atom w (.int _) q.2⟩
  |_=>exact q.elim
 |_=>exact q.elim⟩
theorem MZ {f:Int->Int->Int}:SimOp (uP λi j=>.int (f i j)) (.v .fl) (AR λi j=>.int (f i j)):=⟨λB W H x y px py Q K w rx ry q k=>by
 cases px with
 | int i=>cases py with
  |int j=>exact⟨i,j,rx.ofInt,ry.ofInt,k.atom w (.int _) q⟩
  |_=>exact q.elim
 |_=>exact q.elim⟩
theorem DP {f:Int->Int->Bool}:SimOp (uP λi j=>.bl (f i j)) (.v .fl) (AR λi j=>.bl (f i j)):=⟨λB W H x y px py Q K w rx ry q k=>by
 cases px with
 | int i=>cases py with
  |int j=>exact⟨i,j,rx.ofInt,ry.ofInt,k.atom w (.bl _) q⟩
  |_=>exact q.elim
 |_=>exact q.elim⟩
def sG:P2:=λx y Q=>match x,y with
 |.str i,.str j=>i.length+j.length<=sizeLine/\Q (.str (i++j))
 |_,_=>False
theorem tS:SimOp ML (.v .fl) sG:=⟨λB W H x y px py Q K w rx ry q k=>by
 cases px with
 | str i=>cases py with
  |str j=>exact⟨i,j,rx.ofStr,ry.ofStr,q.1,k.atom w (.str _) q.2⟩
  |_=>exact q.elim
 |_=>exact q.elim⟩
def a3N:P2:=λx y Q=>x.dep<=60/\y.dep<1000/\Q (.bl (x.eqB y))
def a3O:P2:=λx y Q=>x.dep<=60/\y.dep<1000/\Q (.bl (!x.eqB y))
theorem Y7:SimOp XT (.v .fl) a3N:=⟨λB W H x y px py Q K w rx ry q k=>⟨_,_,px,py,rx,ry,q.1,q.2.1,k.atom w (.bl _) q.2.2⟩⟩
theorem Y8:SimOp Y0 (.v .fl) a3O:=⟨λB W H x y px py Q K w rx ry q k=>⟨_,_,px,py,rx,ry,q.1,q.2.1,k.atom w (.bl _) q.2.2⟩⟩
def a1X:P2:=λx y Q=>match y with
 |.lst ys=>x.dep<1000/\PV.deps ys<=60/\Q (.bl (ys.any λz=>z.eqB x))
 |.tup ys=>x.dep<1000/\PV.deps ys<=60/\Q (.bl (ys.any λz=>z.eqB x))
 |_=>False
theorem N0:SimOp (XU false) (.v .fl) a1X:=⟨λB W H x y px py Q K w rx ry q k=>by
 cases py with
 |lst ys=>exact⟨_,_,px,ys,rx,.inl ry,q.1,q.2.1,k.atom w (.bl _) q.2.2⟩
 |tup ys=>exact⟨_,_,px,ys,rx,.inr ry,q.1,q.2.1,k.atom w (.bl _) q.2.2⟩
 |_=>exact q.elim⟩
def PV.isNon:PV->Bool
 |.non=>true
 |_=>false
def LP:P2:=λx y Q=>match y with
 |.non=>Q (.bl x.isNon)
 |_=>False
def sN:P2:=λx y Q=>match y with
 |.non=>Q (.bl (!x.isNon))
 |_=>False
theorem EL{G:Addr->Prop}{H:Hp}{x:V}{px:PV}(r:Rep G H x px):decide (x= .non)=px.isNon:=by
 cases r<;>first|rfl|exact decide_eq_false (by intro z;cases z)
theorem RT:SimOp XW (.v .fl) LP:=⟨λB W H x y px py Q K w rx ry q k=>by
 cases py with
 |non=>exact⟨ry.ofNon,by rw[EL rx];exact k.atom w (.bl _) q⟩
 |_=>exact q.elim⟩
theorem tU:SimOp MQ (.v .fl) sN:=⟨λB W H x y px py Q K w rx ry q k=>by
 cases py with
 |non=>exact⟨ry.ofNon,by rw[EL rx];exact k.atom w (.bl _) q⟩
 |_=>exact q.elim⟩
def dJ:P2:=λx y Q=>match x,y with
 | .lst xs,.int i=>(match iU xs i with
  |some z=>Q z
  |none=>False)
 | .tup xs,.int i=>(match iU xs i with
  |some z=>Q z
  |none=>False)
 | .str s,.int i=>(match iU s.cps.toList i with
  |some c=>s.length<=sizeLine/\Q (.str ⟨#[c]⟩)
  |none=>False)
 |_,_=>False
theorem cE{xs:List PV}{i:Int}{z:PV}{Q:PV->Prop}(h:iU xs i=some z)(q:Q z):dJ (.lst xs) (.int i) Q:=by unfold dJ;simp only[h];exact q
theorem i7{xs:List PV}{i:Int}{z:PV}{Q:PV->Prop}(h:iU xs i=some z)(q:Q z):dJ (.tup xs) (.int i) Q:=by unfold dJ;simp only[h];exact q
theorem T7{s:Str}{i:Int}{c:Nat}{Q:PV->Prop}(h:iU s.cps.toList i=some c)(hl:s.length<=sizeLine)(q:Q (.str ⟨#[c]⟩)):dJ (.str s) (.int i) Q:=by unfold dJ;simp only[h];exact⟨hl,q⟩
theorem n8{G:Addr->Prop}{H:Hp}{vs:List V}{xs:List PV}(r:Reps G H vs xs){i:Int}{z:PV}(e:iU xs i=some z):∃v,iU vs i=some v/\Rep G H v z:=by
 unfold iU at e ⊢
 rw[r.len]
 cases h:rZ xs.length i with
 |none=>rw[h] at e;cases e
 |some j=>rw[h] at e;exact r.get e
theorem RepP.ofList {G S:Addr->Prop} {H:Hp} {v:V} {xs:List PV} (r:RepP G S H v (.lst xs)):∃a vs,v= .ref a/\H a=some (.lst vs)/\Reps G H vs xs:=by
 rcases r with r|⟨a,o,rfl,_,e,b⟩
 ·obtain⟨a,vs,e1,_,e2,r⟩:=r.ofList;exact⟨a,vs,e1,e2,r⟩
 ·cases b with
  |lst h=>exact⟨a,_,rfl,e,h⟩
theorem RepP.ofTup{G S:Addr->Prop}{H:Hp}{v:V}{xs:List PV}(r:RepP G S H v (.tup xs)):∃a vs,v= .ref a/\H a=some (.tup vs)/\Reps G H vs xs:=by
 rcases r with r|⟨a,o,rfl,_,e,b⟩
 ·exact r.ofTup
 ·cases b
theorem RepP.ofDic {G S:Addr->Prop} {H:Hp} {v:V} {ks:List cI} {xs:List PV} (r:RepP G S H v (.dic ks xs)):∃a vs,v= .ref a/\H a=some (.dK (ks.zip vs))/\ks.length=vs.length/\Reps G H vs xs:=by
 rcases r with r|⟨a,o,rfl,_,e,b⟩
 ·obtain⟨a,vs,e1,_,e2,e3,r⟩:=r.ofDic;exact⟨a,vs,e1,e2,e3,r⟩
 ·cases b with
  |dic l h=>exact⟨a,_,rfl,e,l,h⟩
theorem RepP.ofStr{G S:Addr->Prop}{H:Hp}{v:V}{s:Str}(r:RepP G S H v (.str s)):v= .str s:=by
 rcases r with r|⟨a,o,rfl,_,e,b⟩
 ·exact r.ofStr
 ·cases b
section
variable{X:Cx}{md:List Md}{a b c e:Expr}{es:List Expr}{pa pb pc pe:aR}{m:Md}{el:El}{pos p:Pos}
theorem aJ (ha:VE X md a (.p el) pa) (hb:VE X md b .bw pb) (hp:∀o i,subscripted b false o i=operate [o,i] (getItem o i)):VE X md (.Subscript a b pos) (.v el) (b9 dJ pa pb):=
 ⟨(EZ CQ ha.h hb.h hp).imp λσ H K=>by
  rintro⟨env,W0,H0,W,Q,R,q,k⟩
  refine⟨env,W0,H0,W,_,R,q,λx v W1 H1 g1 r1 q1=>⟨env,W0,H0,W1,_,R.step g1,q1,λy u W2 H2 g2 r2 q2=>?_⟩⟩
  have r1':RepP (el.G W2.F H0) W2.S H2 v x:=ResE.go (m:=.p el) r1 g1.ok g2
  have k2:=k.after (g1.trans g2)
  unfold dJ at q2
  cases y with
  | int i=>
   have hy:=Rep.ofInt r2
   subst hy
   cases x with
   | lst xs=>
    dsimp only at q2
    obtain⟨a,vs,rfl,e,r⟩:=r1'.ofList
    cases h:iU xs i with
    |none=>rw[h] at q2;exact q2.elim
    | some z=>
     rw[h] at q2
     obtain⟨w,e1,e2⟩:=n8 r h
     exact .inl ⟨a,vs,i,w,rfl,rfl,cS.of e,e1,k2.val g2.ok e2 q2⟩
   | tup xs=>
    dsimp only at q2
    obtain⟨a,vs,rfl,e,r⟩:=r1'.ofTup
    cases h:iU xs i with
    |none=>rw[h] at q2;exact q2.elim
    | some z=>
     rw[h] at q2
     obtain⟨w,e1,e2⟩:=n8 r h
     exact .inr (.inl ⟨a,vs,i,w,rfl,rfl,d7.of e,e1,k2.val g2.ok e2 q2⟩)
   | str s=>
    dsimp only at q2
    cases h:iU s.cps.toList i with
    |none=>rw[h] at q2;exact q2.elim
    | some c=>
     rw[h] at q2
     exact .inr (.inr ⟨s,i,c,r1'.ofStr,rfl,q2.1,h,k2.val g2.ok (.str _) q2.2⟩)
   |_=>exact q2.elim
  |_=>cases x<;>exact q2.elim⟩
abbrev IS:=b5->(Option Int->Prop)->Prop
def a06(K':Aa)(md:List Md)(p:IS):TO:=λσ H K=>∃(env:b5) (W0:Wd) (H0:Hp) (W:Wd) (Q:Option Int->Prop),Rl K' md W0 H0 W σ env H/\p env Q/\∀(o:Option Int) (W':Wd) (H':Hp),Go W H W' H'->Q o->K o H'
structure VO(X:Cx)(md:List Md)(e:Option Expr)(p:IS):Prop where
 h:PO X e (a06 X.K md p)
def lC:IS:=λ_ Q=>Q none
def pQ(a:aR):IS:=λenv Q=>a env λx=>match x with
 |.int i=>Q (some i)
 |_=>False
theorem PO.imp{eo:Option Expr}{t t':TO}(h:PO X eo t)(k:∀σ H K,t' σ H K->t σ H K):PO X eo t':=λpins s σ H Q I q=>h pins s σ H Q I (k σ H Q q)
theorem FO:VO X md none lC:=⟨R9.imp λσ H K=>by
 rintro⟨env,W0,H0,W,Q,R,q,k⟩
 exact k none W H (Go.refl R.ok) q⟩
theorem rB(h:VE X md e .bw pe):VO X md (some e) (pQ pe):=⟨(RA h.h).imp λσ H K=>by
 rintro⟨env,W0,H0,W,Q,R,q,k⟩
 refine⟨env,W0,H0,W,_,R,q,λx v W1 H1 g1 r1 q1=>?_⟩
 cases x with
 |int i=>exact⟨i,Rep.ofInt r1,k _ W1 H1 g1 q1⟩
 |_=>exact q1.elim⟩
def zY{α:Type}(xs:List α)(lo hi:Option Int):List α:=(xs.drop (HT.sIx xs.length 0 lo)).take (HT.sIx xs.length xs.length hi-HT.sIx xs.length 0 lo)
theorem Reps.cut{G:Addr->Prop}{H:Hp}{vs:List V}{xs:List PV}(r:Reps G H vs xs)(lo hi:Option Int):Reps G H (A0 vs lo hi) (zY xs lo hi):=by
 unfold A0 zY
 rw[r.len]
 exact (r.drop _).take _
def LW(x:PV)(lo hi:Option Int)(Q:PV->Prop):Prop:=match x with
 |.lst xs=>Q (.lst (zY xs lo hi))
 |_=>False
def LY(x:PV)(lo hi:Option Int)(Q:PV->Prop):Prop:=match x with
 |.tup xs=>¬(HT.sIx xs.length 0 lo=0/\HT.sIx xs.length xs.length hi=xs.length)/\Q (.tup (zY xs lo hi))
 |_=>False
def iP(r:PV->Option Int->Option Int->(PV->Prop)->Prop)(a:aR)(lo hi:IS):aR:=λenv Q=>a env λx=>lo env λl=>hi env λh=>r x l h Q
theorem mV {m1:Md} {r:V->Option Int->Option Int->Hp->VK->Prop} {pr:PV->Option Int->Option Int->(PV->Prop)->Prop} {lo hi:Option Expr} {pl ph:IS} {p2:Pos} (hr:QL X r) (he:VE X md e m1 pe) (hl:VO X md lo pl) (hu:VO X md hi ph)
  (hs:∀(B H0:Hp) (W:Wd) (H:Hp) (v:V) (x:PV) (l h:Option Int) (Q:PV->Prop) (K:VK),Wok W H->ResE B H0 W H m1 v x->pr x l h Q->jB B W H m Q K->r v l h H K):VE X md (.Subscript e (.Slice lo hi none p2) pos) m (iP pr pe pl ph):=
 ⟨(M4 hr.h he.h hl.h hu.h).imp λσ H K=>by
  rintro⟨env,W0,H0,W,Q,R,q,k⟩
  refine⟨env,W0,H0,W,_,R,q,λx v W1 H1 g1 r1 q1=>⟨env,W0,H0,W1,_,R.step g1,q1,λl W2 H2 g2 q2=>⟨env,W0,H0,W2,_,(R.step g1).step g2,q2,λh W3 H3 g3 q3=>?_⟩⟩⟩
  exact hs H0 H W3 H3 v x l h Q K g3.ok ((r1.go g1.ok g2).go g2.ok g3) q3 (k.after ((g1.trans g2).trans g3))⟩
theorem YW {lo hi:Option Expr} {pl ph:IS} {p2:Pos} (he:VE X md e (.p el) pe) (hl:VO X md lo pl) (hu:VO X md hi ph):VE X md (.Subscript e (.Slice lo hi none p2) pos) (.o el) (iP LW pe pl ph):=
 mV RJ he hl hu λB H0 W H v x l h Q K w r q k=>by
  cases x with
  | lst xs=>
   obtain⟨a,vs,rfl,e,rs⟩:=RepP.ofList r
   exact⟨a,vs,rfl,cS.of e,λp hp=>k.newL w hp (rs.cut l h) q⟩
  |_=>exact q.elim
theorem YY {lo hi:Option Expr} {pl ph:IS} {p2:Pos} (he:VE X md e (.p el) pe) (hl:VO X md lo pl) (hu:VO X md hi ph):VE X md (.Subscript e (.Slice lo hi none p2) pos) (.v el) (iP LY pe pl ph):=
 mV XR he hl hu λB H0 W H v x l h Q K w r q k=>by
  cases x with
  | tup xs=>
   obtain⟨a,vs,rfl,e,rs⟩:=RepP.ofTup r
   exact⟨a,vs,rfl,d7.of e,by rw[rs.len];exact q.1,λp hp=>k.newT w hp (rs.cut l h) q.2⟩
  |_=>exact q.elim
def y9:P2:=λx y Q=>match x,y with
 |.lst xs,.lst ys=>xs.length+ys.length<=sizeLine/\Q (.lst (xs++ys))
 |_,_=>False
theorem u0 (ha:VE X md a (.p el) pa) (hb:VE X md b (.p el) pb):VE X md (.BinOp a .Add b pos) (.o el) (b9 y9 pa pb):=
 ⟨(AZ WM ha.h hb.h).imp λσ H K=>by
  rintro⟨env,W0,H0,W,Q,R,q,k⟩
  refine⟨env,W0,H0,W,_,R,q,λx v W1 H1 g1 r1 q1=>⟨env,W0,H0,W1,_,R.step g1,q1,λy u W2 H2 g2 r2 q2=>?_⟩⟩
  have k2:=k.after (g1.trans g2)
  have r1':RepP (el.G W2.F H0) W2.S H2 v x:=ResE.go (m:=.p el) r1 g1.ok g2
  cases x with
  | lst xs=>cases y with
   | lst ys=>
    obtain⟨a,vs,rfl,e,rs⟩:=r1'.ofList
    obtain⟨b,us,rfl,e',rs'⟩:=RepP.ofList r2
    exact⟨a,b,vs,us,rfl,rfl,e,e',by rw[rs.len,rs'.len];exact q2.1,λp hp=>k2.newL g2.ok hp (rs.append rs') q2.2⟩
   |_=>exact q2.elim
  |_=>exact q2.elim⟩
def DB:P2:=λx y Q=>match x,y with
 |.lst xs,.int k=>-(2^63)<=k/\k<2^63/\xs.length*k.toNat<=sizeLine/\Q (.lst (List.replicate k.toNat xs).flatten)
 |_,_=>False
theorem DW (ha:VE X md a (.p el) pa) (hb:VE X md b .bw pb):VE X md (.BinOp a .Mult b pos) (.o el) (b9 DB pa pb):=
 ⟨(AZ WU ha.h hb.h).imp λσ H K=>by
  rintro⟨env,W0,H0,W,Q,R,q,k⟩
  refine⟨env,W0,H0,W,_,R,q,λx v W1 H1 g1 r1 q1=>⟨env,W0,H0,W1,_,R.step g1,q1,λy u W2 H2 g2 r2 q2=>?_⟩⟩
  have k2:=k.after (g1.trans g2)
  have r1':RepP (el.G W2.F H0) W2.S H2 v x:=ResE.go (m:=.p el) r1 g1.ok g2
  cases x with
  | lst xs=>cases y with
   | int n=>
    obtain⟨a,vs,rfl,e,rs⟩:=r1'.ofList
    have hu:=Rep.ofInt r2
    subst hu
    exact⟨a,n,vs,rfl,rfl,e,q2.1,q2.2.1,by rw[rs.len];exact q2.2.2.1,λp hp=>k2.newL g2.ok hp (rs.rep _) q2.2.2.2⟩
   |_=>exact q2.elim
  |_=>exact q2.elim⟩
structure SimC(r:List V->Hp->VK->Prop)(ms:List Md)(m:Md)(pr:PN):Prop where
 h:∀(B H0:Hp) (W:Wd) (H:Hp) (vs:List V) (xs:List PV) (Q:PV->Prop) (K:VK),Wok W H->ResEs B H0 W H ms vs xs->pr xs Q->jB B W H m Q K->r vs H K
theorem ET{K':PySem.W.Frag}{r:List V->Hp->VK->Prop}{ms:List Md}{pr:PN}{pt:l6}(hs:SimC r ms m pr){σ:St}{H:Hp}{K:VK}(h:eK K' md m (c8 pr pt) σ H K):TN r (T3 K' md ms pt) σ H K:=by
 obtain⟨env,W0,H0,W,Q,R,q,k⟩:=h
 exact⟨env,W0,H0,W,_,R,q,λxs vs W1 H1 g1 r1 q1=>hs.h H0 H W1 H1 vs xs Q K g1.ok r1 q1 (k.after g1)⟩
theorem b6 {id:String} {x:Str} {r:List V->Hp->VK->Prop} {ms:List Md} {pr:PN} {pt:l6} (hc:QC X (.builtin id) r) (hs:SimC r ms m pr) (hg:X.env.scope.names.lookup x=some .globalImplicit) (hm:X.mg x=none) (hv:bootBuiltins x=some (.builtin id)) (ha:VA X md (e::es) ms pt) (hn:x≠ "__name__") (hdb:(x==("__debug__" : Str))=false)
  (he:starEach (e::es) X.env=(false,eval e X.env)::starEach es X.env:=by rfl) (hpl:(backTo pos (starEach es X.env)).any (·.1)=false:=by rfl):VE X md (.Call (.Name x p) (e::es) [] pos) m (c8 pr pt):=⟨(kN hc.h hg hm hv ha.h hn hdb he hpl).imp λ_ _ _ h=>ET hs h⟩
theorem wM {T:String} {x:Str} {r:List V->Hp->VK->Prop} {ms:List Md} {pr:PN} {pt:l6} (hc:QC X (.type T) r) (hs:SimC r ms m pr) (hg:X.env.scope.names.lookup x=some .globalImplicit) (hm:X.mg x=none) (hv:bootBuiltins x=some (.type T)) (ha:VA X md (e::es) ms pt) (hn:x≠ "__name__") (hdb:(x==("__debug__" : Str))=false)
  (he:starEach (e::es) X.env=(false,eval e X.env)::starEach es X.env:=by rfl) (hpl:(backTo pos (starEach es X.env)).any (·.1)=false:=by rfl):VE X md (.Call (.Name x p) (e::es) [] pos) m (c8 pr pt):=⟨(gF hc.h hg hm hv ha.h hn hdb he hpl).imp λ_ _ _ h=>ET hs h⟩
theorem ResEs.one{B H H':Hp}{W:Wd}{m:Md}{vs:List V}{xs:List PV}(r:ResEs B H W H' [m] vs xs):∃v x,vs=[v]/\xs=[x]/\ResE B H W H' m v x:=by
 cases r with
 |cons h t=>cases t;exact⟨_,_,rfl,rfl,h⟩
theorem ResEs.two{B H H':Hp}{W:Wd}{m n:Md}{vs:List V}{xs:List PV}(r:ResEs B H W H' [m,n] vs xs):∃v x u y,vs=[v,u]/\xs=[x,y]/\ResE B H W H' m v x/\ResE B H W H' n u y:=by
 cases r with
 |cons h t=>obtain⟨u,y,rfl,rfl,h2⟩:=t.one;exact⟨_,_,_,_,rfl,rfl,h,h2⟩
def mL:PN:=λxs Q=>match xs with
 |[.lst ys]=>Q (.int ys.length)
 |[.tup ys]=>Q (.int ys.length)
 |[.str s]=>s.length<=sizeLine/\Q (.int s.length)
 |_=>False
def TH(K':Aa):List V->Hp->VK->Prop:=λxs H Q=>∃x n,xs=[x]/\Z9 K' x H n/\Q (.int n) H
theorem eN:QC X (.builtin "len") (TH X.K):=⟨JR⟩
theorem fN {K':PySem.W.Frag}:SimC (TH K') [.bw] (.v .fl) mL:=⟨λB H0 W H vs xs Q K w r q k=>by
 obtain⟨v,x,rfl,rfl,r1⟩:=r.one
 clear r
 have r:Rep (λa=>¬W.S a) H v x:=r1
 unfold mL at q
 cases x with
 | lst ys=>
  obtain⟨a,vs,rfl,_,e,rs⟩:=r.ofList
  exact⟨.ref a,vs.length,rfl,.inl ⟨vs,cS.of e,rfl⟩,by rw[rs.len];exact k.atom w (.int _) q⟩
 | tup ys=>
  obtain⟨a,vs,rfl,e,rs⟩:=r.ofTup
  exact⟨.ref a,vs.length,rfl,.inr ⟨vs,d7.of e,rfl⟩,by rw[rs.len];exact k.atom w (.int _) q⟩
 |str s=>exact⟨v,s.length,rfl,by rw[r.ofStr];exact⟨q.1,rfl⟩,k.atom w (.int _) q.2⟩
 |_=>exact q.elim⟩
def nU:PN:=λxs Q=>match xs with
 |[.scr ns]=>Q (.int ns.length)
 |_=>False
theorem IG {pt:l6} (hg:X.env.scope.names.lookup ("len" : Str)=some .globalImplicit) (hm:X.mg "len"=none) (hv:bootBuiltins "len"=some (.builtin "len")) (ha:VA X md [e] [.scr] pt)
  (he:starEach [e] X.env=(false,eval e X.env)::starEach [] X.env:=by rfl) (hpl:(backTo pos (starEach [] X.env)).any (·.1)=false:=by rfl):VE X md (.Call (.Name "len" p) [e] [] pos) (.v .fl) (c8 nU pt):=⟨(kN (eN).h hg hm hv ha.h (by decide) (by decide) he hpl).imp λσ H K h=>by
 obtain⟨env,W0,H0,W,Q,R,q,k⟩:=h
 refine⟨env,W0,H0,W,_,R,q,λxs vs W1 H1 g1 r1 q1=>?_⟩
 obtain⟨v,x,rfl,rfl,r⟩:=r1.one
 obtain⟨a,ns,rfl,rfl,sc⟩:=r
 refine⟨.ref a,ns.length,rfl,.inl ⟨ns.map V.int,by have:=sc.sq;rw[(R.step g1).kk] at this;exact this,by simp⟩,(k.after g1).atom g1.ok (.int _) q1⟩⟩
def vP:PN:=λxs Q=>match xs with
 |[.int i,.int j]=>Q (.int (max i j))
 |_=>False
def vQ:PN:=λxs Q=>match xs with
 |[.int i,.int j]=>Q (.int (min i j))
 |_=>False
theorem BE:SimC B7 [.bw,.bw] (.v .fl) vP:=⟨λB H0 W H vs xs Q K w r q k=>by
 obtain⟨v,x,u,y,rfl,rfl,r1,r2⟩:=r.two
 cases x with
 | int i=>cases y with
  | int j=>
   refine⟨i,j,by rw[Rep.ofInt r1,Rep.ofInt r2],?_⟩
   have:(if j>i then j else i)=max i j:=by rw[Int.max_def];split<;>split<;>omega
   rw[this];exact k.atom w (.int _) q
  |_=>exact q.elim
 |_=>exact q.elim⟩
theorem BF:SimC MP [.bw,.bw] (.v .fl) vQ:=⟨λB H0 W H vs xs Q K w r q k=>by
 obtain⟨v,x,u,y,rfl,rfl,r1,r2⟩:=r.two
 cases x with
 | int i=>cases y with
  | int j=>
   refine⟨i,j,by rw[Rep.ofInt r1,Rep.ofInt r2],?_⟩
   have:(if j<i then j else i)=min i j:=by rw[Int.min_def];split<;>split<;>omega
   rw[this];exact k.atom w (.int _) q
  |_=>exact q.elim
 |_=>exact q.elim⟩
def lB:PN:=λxs Q=>match xs with
 |[.lst ys]=>Q (.lst ys)
 |[.tup ys]=>Q (.lst ys)
 |_=>False
theorem tT {K':PySem.W.Frag}:SimC (yM K') [.p el] (.o el) lB:=⟨λB H0 W H vs xs Q K w r q k=>by
 obtain⟨v,x,rfl,rfl,r1⟩:=r.one
 clear r
 have r:RepP (el.G W.F B) W.S H v x:=r1
 cases x with
 | lst ys=>
  obtain⟨a,vs,rfl,e,rs⟩:=r.ofList
  exact⟨a,vs,rfl,.inl (cS.of e),λl hl=>k.newL w hl rs q⟩
 | tup ys=>
  obtain⟨a,vs,rfl,e,rs⟩:=r.ofTup
  exact⟨a,vs,rfl,.inr (d7.of e),λl hl=>k.newL w hl rs q⟩
 |_=>exact q.elim⟩
def PV.kind:PV->Option String
 |.non=>some "NoneType"
 |.bl _=>some "bool"
 |.int _=>some "int"
 |.str _=>some "str"
 |.lst _=>some "list"
 |.tup _=>some "tuple"
 |.dic _ _=>some "dict"
 |_=>none
def uN:PN:=λxs Q=>match xs with
 | [x,.ty n]=>(match x.kind with
  | some t=>(match CT t n with
   |some b=>Q (.bl b)
   |none=>False)
  |none=>False)
 |_=>False
theorem Q4{K':PySem.W.Frag}{G:Addr->Prop}{H:Hp}{v:V}{x:PV}{t:String}(r:Rep G H v x)(h:x.kind=some t):TyOf K' H v (.type t):=by
 cases r with
 |non=>cases h;exact .non
 |bl b=>cases h;exact .bl _
 |int i=>cases h;exact .int _
 |str y=>cases h;exact .str _
 |lst g e l _=>cases h;exact .lst e
 |tup e l _=>cases h;exact .tup e
 |dic g e l1 l _=>cases h;exact .dK e
 |ty n=>cases h
 |set e=>cases h
theorem yR {K':PySem.W.Frag}:SimC (XX K') [.bw,.bw] (.v .fl) uN:=⟨λB H0 W H vs xs Q K w r q k=>by
 obtain⟨v,x,u,y,rfl,rfl,r1,r2⟩:=r.two
 unfold uN at q
 cases y with
 | ty n=>
  dsimp only at q
  cases h:x.kind with
  |none=>rw[h] at q;exact q.elim
  | some t=>
   rw[h] at q
   dsimp only at q
   cases h2:CT t n with
   |none=>rw[h2] at q;exact q.elim
   | some b=>
    rw[h2] at q
    exact⟨v,n,.type t,b,by rw[Rep.ofTy r2],Q4 r1 h,(W8 _ _ _).trans h2,k.atom w (.bl _) q⟩
 |_=>exact q.elim⟩
def PV.ints:List PV->Option (List Int)
 |[]=>some []
 |.int i::xs=>(PV.ints xs).map (i::·)
 |_=>none
theorem PV.ints_map:∀(ns:List Int),PV.ints (ns.map PV.int)=some ns
 |[]=>rfl
 |n::ns=>by rw[List.map_cons,PV.ints,PV.ints_map ns];rfl
theorem PV.ints_of:∀ {xs:List PV} {ns:List Int},PV.ints xs=some ns->xs=ns.map PV.int
 |[],ns,h=>by cases h;rfl
 | .int i::xs,ns,h=>by
  rw[PV.ints] at h
  cases h2:PV.ints xs with
  |none=>rw[h2] at h;cases h
  |some ms=>rw[h2] at h;cases h;rw[PV.ints_of h2];rfl
 |.non::_,_,h=>by cases h
 |.bl _::_,_,h=>by cases h
 |.str _::_,_,h=>by cases h
 |.ty _::_,_,h=>by cases h
 |.st::_,_,h=>by cases h
 |.scr _::_,_,h=>by cases h
 |.set _ _::_,_,h=>by cases h
 |.lst _::_,_,h=>by cases h
 |.tup _::_,_,h=>by cases h
 |.dic _ _::_,_,h=>by cases h
theorem Reps.ints {G:Addr->Prop} {H:Hp} {vs:List V} {ns:List Int} (r:Reps G H vs (ns.map PV.int)):vs=ns.map V.int:=by
 refine List.ext_getElem? λi=>?_
 cases h:vs[i]? with
 | none=>
  rw[List.getElem?_map,List.getElem?_eq_none];rfl
  have:=List.getElem?_eq_none_iff.mp h
  have:=r.len
  simp at this;omega
 | some v=>
  obtain⟨x,e,rx⟩:=r.getV h
  rw[List.getElem?_map] at e ⊢
  cases h2:ns[i]? with
  |none=>rw[h2] at e;cases e
  |some n=>rw[h2] at e;cases e;rw[rx.ofInt];rfl
def AW:PN:=λxs Q=>match xs with
 | [.lst ys]=>(match PV.ints ys with
  |some ns=>Q (.int ns.sum)
  |none=>False)
 |_=>False
theorem yB{ns:List Int}{Q:PV->Prop}(q:Q (.int ns.sum)):AW [.lst (ns.map PV.int)] Q:=by unfold AW;simp only[PV.ints_map];exact q
theorem qZ:SimC Y1 [.bw] (.v .fl) AW:=⟨λB H0 W H vs xs Q K w r q k=>by
 obtain⟨v,x,rfl,rfl,r1⟩:=r.one
 clear r
 have r:=r1
 unfold AW at q
 cases x with
 | lst ys=>
  dsimp only at q
  cases h:PV.ints ys with
  |none=>rw[h] at q;exact q.elim
  | some ns=>
   rw[h] at q
   rw[PV.ints_of h] at r
   obtain⟨a,vs,rfl,_,e,rs⟩:=Rep.ofList r
   rw[rs.ints] at e
   exact⟨a,ns,rfl,e,k.atom w (.int _) q⟩
 |_=>exact q.elim⟩
def KR:List Int->List Int:=λns=>ns.mergeSort (λa b=>decide (a<=b))
theorem mC(ns:List Int):(KR ns).Perm ns:=List.mergeSort_perm _ _
theorem xQ(ns:List Int):(KR ns).Pairwise (·<=·):=by
 have:=List.pairwise_mergeSort (le:=λ(a b:Int)=>decide (a<=b)) (λa b c=>by simp;omega) (λa b=>by simp;omega) ns
 exact this.imp λh=>by simpa using h
theorem uT:∀ {as bs:List Int},as.Perm bs->as.Pairwise (·<=·)->bs.Pairwise (·<=·)->as=bs:=λh1 h2 h3=>h1.eq_of_pairwise (λa b _ _ h1 h2=>Int.le_antisymm h1 h2) h2 h3
theorem p3{G:Addr->Prop}{H:Hp}(ns:List Int):Reps G H (ns.map V.int) (ns.map PV.int):=⟨by simp,λi v x e1 e2=>by
 rw[List.getElem?_map] at e1 e2
 cases h:ns[i]? with
 |none=>rw[h] at e1;cases e1
 |some n=>rw[h] at e1 e2;cases e1;cases e2;exact .int _⟩
end
structure PEnds where
 nx:b5->Prop
 rt:PV->Prop
 bk:b5->Prop:=λ_=>False
 ct:b5->Prop:=λ_=>False
abbrev bD:=PEnds->b5->Prop
structure Ex(W:Wd)(H:Hp)(W':Wd)(H':Hp):Prop where
 lF:∀a,W.F a->W'.F a
 kp:∀a o,W.F a->H a=some o->H' a=some o
 im:∀a o,o.imm=true->H a=some o->H' a=some o
section
variable{W W' W1 W2:Wd}{H H' H1 H2:Hp}
theorem Ex.refl:Ex W H W H:=⟨λ_ h=>h,λ_ _ _ h=>h,λ_ _ _ h=>h⟩
theorem Ex.trans(a:Ex W H W1 H1)(b:Ex W1 H1 W2 H2):Ex W H W2 H2:=⟨λx h=>b.lF x (a.lF x h),λx o h e=>b.kp x o (a.lF x h) (a.kp x o h e),λx o i e=>b.im x o i (a.im x o i e)⟩
theorem Go.ex(g:Go W H W' H')(w:Wok W H):Ex W H W' H':=⟨g.lF,λa o f e=>g.kp a o e (w.dj a f),λa o i e=>g.kp a o e (w.imm e i)⟩
theorem Ex.rep(x:Ex W H W' H'){G G':Ac->Prop}(hF:∀a,G a->W.F a)(hG:∀a,G a->G' a){v:V}{p:PV}(r:Rep G H v p):Rep G' H' v p:=r.mono hG λa o h e=>h.elim (λg=>x.kp a o (hF a g) e) λi=>x.im a o i e
end
structure Lnk(K:PySem.W.Frag)(mn lm:List Md)(rm:Md)(W0:Wd)(H0:Hp)(W:Wd)(H:Hp)(E:PEnds)(D:Ends):Prop where
 nx:∀(env:b5) (W':Wd) (σ:St) (H':Hp),Rl K mn W0 H0 W' σ env H'->Ex W H W' H'->E.nx env->D.nx σ H'
 rt:∀(x:PV) (v:V) (W':Wd) (H':Hp),Go W0 H0 W' H'->ResE H0 H0 W' H' rm v x->E.rt x->D.rt v H'
 bk:∀(env:b5) (W':Wd) (σ:St) (H':Hp),Rl K lm W0 H0 W' σ env H'->Ex W H W' H'->E.bk env->D.bk σ H'
 ct:∀(env:b5) (W':Wd) (σ:St) (H':Hp),Rl K lm W0 H0 W' σ env H'->Ex W H W' H'->E.ct env->D.ct σ H'
theorem Lnk.after{K:PySem.W.Frag}{mn lm:List Md}{rm:Md}{W0 W W1:Wd}{H0 H H1:Hp}{E:PEnds}{D:Ends}(l:Lnk K mn lm rm W0 H0 W H E D)(x:Ex W H W1 H1):Lnk K mn lm rm W0 H0 W1 H1 E D:=
 ⟨λe W' s H' r y=>l.nx e W' s H' r (x.trans y),l.rt,λe W' s H' r y=>l.bk e W' s H' r (x.trans y),λe W' s H' r y=>l.ct e W' s H' r (x.trans y)⟩
def ES(K:Aa)(md mn lm:List Md)(rm:Md)(p:bD):TS:=λD σ H=>∃(env:b5) (W0:Wd) (H0:Hp) (W:Wd) (E:PEnds),Rl K md W0 H0 W σ env H/\p E env/\Lnk K mn lm rm W0 H0 W H E D
structure VS(X:Cx)(md mn lm:List Md)(rm:Md)(s:Stmt)(p:bD):Prop where
 h:PS X s (ES X.K md mn lm rm p)
structure VSs(X:Cx)(md mn lm:List Md)(rm:Md)(s:List Stmt)(p:bD):Prop where
 h:uX X s (ES X.K md mn lm rm p)
theorem PS.imp{X:Cx}{s:Stmt}{t t':TS}(h:PS X s t)(k:∀D σ H,t' D σ H->t D σ H):PS X s t':=λpins s σ H D I q=>h pins s σ H D I (k D σ H q)
theorem uX.imp{X:Cx}{s:List Stmt}{t t':TS}(h:uX X s t)(k:∀D σ H,t' D σ H->t D σ H):uX X s t':=λpins s σ H D I q=>h pins s σ H D I (k D σ H q)
def bK:bD:=λE env=>E.nx env
def aO(p q:bD):bD:=λE env=>p {E with nx:=q E} env
def mK(c:eS)(a b:bD):bD:=λE env=>c env λk=>Br k (a E env) (b E env)
def c6(a:aR):bD:=λE env=>a env E.rt
def bN(i:Nat)(a:aR):bD:=λE env=>a env λx=>E.nx (dO env i (some x))
section
variable{X:Cx}{md m1 mn lm:List Md}{rm m:Md}{el:El}{s:Stmt}{ss th el':List Stmt}{p q:bD}{e c:Expr}{pe:aR}{pc:eS}{pos:Pos}{i:Nat}
theorem aW:VSs X md md lm rm [] bK:=⟨F4.imp λD σ H=>by
 rintro⟨env,W0,H0,W,E,R,q,l⟩
 exact l.nx env W σ H R .refl q⟩
theorem aB(h1:VS X md m1 lm rm s p)(h2:VSs X m1 mn lm rm ss q):VSs X md mn lm rm (s::ss) (aO p q):=⟨(B2 h1.h h2.h).imp λD σ H=>by
 rintro⟨env,W0,H0,W,E,R,q,l⟩
 exact⟨env,W0,H0,W,_,R,q,λe W' s H' r x z=>⟨e,W0,H0,W',E,r,z,l.after x⟩,l.rt,l.bk,l.ct⟩⟩
theorem aK(h1:VS X md mn lm rm s p):VSs X md mn lm rm [s] p:=⟨F5 h1.h⟩
theorem l4(hc:VT X md c pc)(ha:VSs X md mn lm rm th p)(hb:VSs X md mn lm rm el' q):VS X md mn lm rm (.If c th el' pos) (mK pc p q):=⟨(TC hc.h ha.h hb.h).imp λD σ H=>by
 rintro⟨env,W0,H0,W,E,R,q,l⟩
 refine⟨env,W0,H0,W,_,R,q,λk W1 H1 g1 q1=>?_⟩
 cases k with
 |true=>rw[if_pos rfl];exact⟨env,W0,H0,W1,E,R.step g1,q1,l.after (g1.ex R.ok)⟩
 |false=>rw[if_neg Bool.false_ne_true];exact⟨env,W0,H0,W1,E,R.step g1,q1,l.after (g1.ex R.ok)⟩⟩
theorem b8(he:VE X md e m pe)(hm:m.le rm=true):VS X md mn lm rm (.Return (some e) pos) (c6 pe):=⟨(DF he.h).imp λD σ H=>by
 rintro⟨env,W0,H0,W,E,R,q,l⟩
 exact⟨env,W0,H0,W,_,R,q,λx v W1 H1 g1 r1 q1=>l.rt x v W1 H1 (R.go.trans g1) ((ResE.base R.go r1).le g1.ok hm) q1⟩⟩
theorem lI {x:Str} {p:Pos} (he:QE X (.Name x p) (eH i)) (hi:md.getD i .no= .o el) (hm:(Md.o el).le rm=true):VS X md mn lm rm (.Return (some (.Name x p)) pos) (c6 (a9 i)):=⟨(DF he.h).imp λD σ H=>by
 rintro⟨env,W0,H0,W,E,R,q,l⟩
 unfold c6 a9 at q
 rw[iO] at q
 cases e:env[i]? with
 |none=>rw[e] at q;exact q.elim
 | some o=>
  cases o with
  |none=>rw[e] at q;exact q.elim
  | some x=>
   rw[e] at q
   obtain⟨v,s,r⟩:=R.slot i x e
   rw[hi] at r
   exact⟨v,s,l.rt x v W H R.go (r.le R.ok hm) q⟩⟩
theorem Z1 {x:Str} {pos':Pos} (hN:X.N.Nodup) (hi:X.N[i]? =some x) (hx:FV X.env.scope x) (hs:swapsWith e (some (.Name x pos')) pos.line X.env=pure false) (hf:X.fn x=true\/X.env.scope.names.lookup x=some .local)
  (he:VE X md e m pe) (hm:fG (md.set i m)=true) (hl:i<md.length):VS X md (md.set i m) lm rm (.Assign [.Name x pos'] e pos) (bN i pe):=⟨(MB hN hi hx he.h hs hf).imp λD σ H=>by
 rintro⟨env,W0,H0,W,E,R,q,l⟩
 refine⟨env,W0,H0,W,_,R,q,λx v W1 H1 g1 r1 q1=>?_⟩
 rw[dD] at q1
 exact l.nx _ W1 _ H1 (R.set g1 r1 hm hl) (g1.ex R.ok) q1⟩
theorem yN {K:PySem.W.Frag} {W0 W:Wd} {H0 H:Hp} {σ:St} {env:b5} (R:Rl K md W0 H0 W σ env H) (hm:md.getD i .no= .o el):∃W2,Rl K (md.set i (.z el)) W0 H0 W2 σ env H/\Ex W H W2 H:=by
 have hil:i<md.length:=by
  refine Nat.lt_of_not_le λh=>?_
  rw[a0c,List.getElem?_eq_none h] at hm
  cases hm
 by_cases hx:∃x,env[i]? =some (some x)
 ·obtain ⟨x,ev⟩:=hx
  obtain⟨a,o,sv,q⟩:=R.ownAt hm ev
  obtain⟨W2,R2⟩:=R.freeze hm
  obtain⟨w,r'⟩:=mI R.ok q q.new
  refine⟨{W with F:=λb=>W.F b\/b=a},⟨R.ok0,⟨λb hb=>.inl (R.go.lF b hb),R.go.lS,λb hb=>?_,R.go.nS,R.go.kp,w,R.go.kk,R.go.kl,R.go.lZ,R.go.nZ⟩,R.len,λj y ej=>?_,R2.sep,R2.bws,R.kk⟩,⟨λb h=>.inl h,λ_ _ _ e=>e,λ_ _ _ e=>e⟩⟩
  ·rcases hb with hb|rfl
   ·exact R.go.nF b hb
   ·exact .inr q.new
  ·by_cases hij:i=j
   ·subst hij
    rw[ev] at ej;cases ej
    refine⟨_,sv,?_⟩
    rw[cO,if_pos ⟨rfl,hil⟩]
    exact⟨a,o,rfl,r'⟩
   ·obtain ⟨u,su,ru⟩:=R.slot j y ej
    refine⟨u,su,?_⟩
    rw[cO,if_neg (λz=>hij z.1)]
    cases hmd:md.getD j .no with
    |no=>trivial
    |bw=>have:=fZ R.bws (i:=i) (j:=j) (by rw[hm];rfl);rw[hmd] at this;cases this
    |p e'=>have:=fZ R.bws (i:=i) (j:=j) (by rw[hm];rfl);rw[hmd] at this;cases this
    |c e'=>have:=fZ R.bws (i:=i) (j:=j) (by rw[hm];rfl);rw[hmd] at this;cases this
    |v e'=>rw[hmd] at ru;exact Rep.weak ru λ_ g=>El.up (λ_ h=>.inl h) (λ_ z=>z) g
    |st=>rw[hmd] at ru;exact ru
    |scr=>rw[hmd] at ru;exact ru
    |n=>rw[hmd] at ru;exact ru
    | o e'=>
     rw[hmd] at ru
     obtain⟨b,ob,z1,qb⟩:=ru
     refine⟨b,ob,z1,qb.new,λz=>?_,qb.nS,qb.at_,qb.its.mono (λ_ g=>El.up (λ_ h=>.inl h) (λ_ z=>z) g) (λ_ _ _ e=>e),qb.nZ⟩
     rcases z with z|z
     ·exact qb.nF z
     ·subst z z1
      exact R.sep i j _ _ _ hij (by rw[hm];rfl) (by rw[hmd];rfl) ev ej sv su
    | z e'=>
     rw[hmd] at ru
     obtain⟨b,ob,z1,qb⟩:=ru
     exact⟨b,ob,z1,qb.new,.inl qb.F,qb.at_,qb.its.mono (λ_ g=>El.up (λ_ h=>.inl h) (λ_ z=>z) g) λ_ _ _ e=>e⟩
 ·obtain⟨W2,R2⟩:=R.freeze hm
  refine⟨W,⟨R.ok0,R.go,R.len,λj y ej=>?_,R2.sep,R2.bws,R.kk⟩,.refl⟩
  have hij:¬i=j:=λz=>by subst z;exact hx ⟨y,ej⟩
  rw[cO,if_neg (λz=>hij z.1)]
  exact R.slot j y ej
theorem u7(i:Nat)(el:El)(hi:md.getD i .no= .o el)(h:VS X (md.set i (.z el)) mn lm rm s p):VS X md mn lm rm s p:=⟨h.h.imp λD σ H=>by
 rintro⟨env,W0,H0,W,E,R,q,l⟩
 obtain⟨W2,R2,x⟩:=yN R hi
 exact⟨env,W0,H0,W2,E,R2,q,l.after x⟩⟩
def iN(a b:List Md):Bool:=decide (a.length=b.length)&&(a.zip b).all (λp=>p.1.le p.2&&(!p.2.own||p.1.own))&&fG b
theorem xW {a b:List Md} (h:iN a b=true):(∀i,(a.getD i .no).le (b.getD i .no)=true)/\(∀i,(b.getD i .no).own=true->(a.getD i .no).own=true)/\fG b=true:=by
 unfold iN at h
 rw[Bool.and_eq_true,Bool.and_eq_true,List.all_eq_true] at h
 have hl:a.length=b.length:=of_decide_eq_true h.1.1
 have key:∀i,(hi:i<a.length)->(a.getD i .no).le (b.getD i .no)=true/\((b.getD i .no).own=true->(a.getD i .no).own=true):=λi hi=>by
  have hb:i<b.length:=by omega
  have:=h.1.2 (a[i],b[i]) (by
   have e:(a.zip b)[i]? =some (a[i],b[i]):=by
    rw[List.getElem?_zip_eq_some]
    exact⟨a0a hi,a0a hb⟩
   exact List.mem_of_getElem? e)
  rw[Bool.and_eq_true,Bool.or_eq_true] at this
  rw[a0c,a0c,a0a hi,a0a hb]
  refine⟨this.1,λz=>?_⟩
  rcases this.2 with q|q
  ·simp at q z;rw[z] at q;cases q
  ·exact q
 refine⟨λi=>?_,λi=>?_,h.2⟩
 ·by_cases hi:i<a.length
  ·exact (key i hi).1
  ·rw[a0c,a0c,List.getElem?_eq_none (by omega),List.getElem?_eq_none (by omega)];rfl
 ·by_cases hi:i<a.length
  ·exact (key i hi).2
  ·rw[a0c,a0c,List.getElem?_eq_none (by omega),List.getElem?_eq_none (by omega)];intro z;exact z
theorem Rl.less{K:Aa}{W0 W:Wd}{H0 H:Hp}{σ:St}{env:b5}(R:Rl K md W0 H0 W σ env H)(h:iN md m1=true):Rl K m1 W0 H0 W σ env H:=R.le (xW h).1 (xW h).2.1 (xW h).2.2
theorem gU(h:iN md m1=true)(hs:VSs X m1 mn lm rm ss p):VSs X md mn lm rm ss p:=⟨hs.h.imp λD σ H=>by
 rintro⟨env,W0,H0,W,E,R,q,l⟩
 exact⟨env,W0,H0,W,E,R.less h,q,l⟩⟩
theorem a1Q(h:iN md m1=true)(hs:VS X m1 mn lm rm s p):VS X md mn lm rm s p:=⟨hs.h.imp λD σ H=>by
 rintro⟨env,W0,H0,W,E,R,q,l⟩
 exact⟨env,W0,H0,W,E,R.less h,q,l⟩⟩
end
abbrev hW:=PV->b5->(b5->Prop)->Prop
abbrev qG:=List PV->b5->(b5->Prop)->Prop
def sD(K:Aa)(md mn:List Md)(el:El)(g:hW):TG:=λv σ H Q=>∃(env:b5) (W0:Wd) (H0:Hp) (W:Wd) (x:PV) (R:b5->Prop),Rl K md W0 H0 W σ env H/\Rep (el.G W.F H0) H v x/\g x env R/\∀env' σ',Rl K mn W0 H0 W σ' env' H->R env'->Q σ' H
def WE(K:Aa)(md mn:List Md)(el:El)(g:qG):O6:=λvs σ H Q=>∃(env:b5) (W0:Wd) (H0:Hp) (W:Wd) (xs:List PV) (R:b5->Prop),Rl K md W0 H0 W σ env H/\Reps (el.G W.F H0) H vs xs/\g xs env R/\∀env' σ',Rl K mn W0 H0 W σ' env' H->R env'->Q σ' H
structure VG(X:Cx)(md mn:List Md)(el:El)(tg:Expr)(g:hW):Prop where
 h:PG X tg (sD X.K md mn el g)
structure VGs(X:Cx)(md mn:List Md)(el:El)(tg:List Expr)(g:qG):Prop where
 h:SR X tg (WE X.K md mn el g)
theorem PG.imp{X:Cx}{e:Expr}{t t':TG}(h:PG X e t)(k:∀v σ H Q,t' v σ H Q->t v σ H Q):PG X e t':=λpins s σ H v u Q I r q=>h pins s σ H v u Q I r (k v σ H Q q)
theorem SR.imp{X:Cx}{e:List Expr}{t t':O6}(h:SR X e t)(k:∀v σ H Q,t' v σ H Q->t v σ H Q):SR X e t':=λpins s σ H v u Q I r q=>h pins s σ H v u Q I r (k v σ H Q q)
def aF(i:Nat):hW:=λx env R=>R (dO env i (some x))
def eL:qG:=λxs env R=>match xs with
 |[]=>R env
 |_=>False
def aQ(g:hW)(u:qG):qG:=λxs env R=>match xs with
 |x::r=>g x env λenv'=>u r env' R
 |[]=>False
def cW(n:Nat)(g:qG):hW:=λx env R=>match x with
 |.tup xs=>xs.length=n/\g xs env R
 |_=>False
section
variable{X:Cx}{md m1 mn:List Md}{el:El}{e:Expr}{es:List Expr}{pos:Pos}{i:Nat}
theorem SJ{x:Str}(hN:X.N.Nodup)(hi:X.N[i]? =some x)(hx:FV X.env.scope x)(hf:X.fn x=true\/X.env.scope.names.lookup x=some .local)(hm:fG (md.set i (.v el))=true)(hl:i<md.length):VG X md (md.set i (.v el)) el (.Name x pos) (aF i):=⟨(qV hN hi hx hf).imp λv σ H Q=>by
 rintro⟨env,W0,H0,W,x,R,Rr,r,q,k⟩
 unfold aF at q
 rw[dD] at q
 exact k _ _ (Rr.set (Go.refl Rr.ok) (m:=.v el) r hm hl) q⟩
theorem cM:VGs X md md el [] eL:=⟨F0.imp λvs σ H Q=>by
 rintro⟨env,W0,H0,W,xs,R,Rr,r,q,k⟩
 cases xs with
 | nil=>
  have:vs=[]:=List.length_eq_zero_iff.mp r.len
  exact⟨this,k env σ Rr q⟩
 |cons _ _=>exact q.elim⟩
theorem aI {g:hW} {u:qG} (h1:VG X md m1 el e g) (h2:VGs X m1 mn el es u) (hs:(assignEach (e::es) X.env).map (·.2)=assign e X.env::(assignEach es X.env).map (·.2):=by rfl):VGs X md mn el (e::es) (aQ g u):=⟨(sX h1.h h2.h hs).imp λvs σ H Q=>by
 rintro⟨env,W0,H0,W,xs,R,Rr,r,q,k⟩
 cases xs with
 |nil=>exact q.elim
 | cons x xr=>
  cases vs with
  |nil=>have:=r.len;simp at this
  | cons v vr=>
   exact⟨v,vr,rfl,env,W0,H0,W,x,_,Rr,r.at_ 0 v x rfl rfl,q,λenv' σ' R' z=>⟨env',W0,H0,W,xr,R,R',⟨by have:=r.len;simpa using this,λi w y e1 e2=>r.at_ (i+1) w y (by simpa using e1) (by simpa using e2)⟩,z,k⟩⟩⟩
theorem dY {k:Nat} {g:qG} {n:Nat} (hc:X.calm=true) (h:VGs X md mn el es g) (hn:(assignEach es X.env).length=n:=by rfl) (hst:(assignEach es X.env).findIdx? (·.1)=none:=by rfl):VG X md mn el (.Tuple es k pos) (cW n g):=⟨(M5 hc h.h hn hst).imp λv σ H Q=>by
 rintro⟨env,W0,H0,W,x,R,Rr,r,q,k⟩
 cases x with
 | tup xs=>
  obtain⟨a,vs,rfl,e,rs⟩:=r.ofTup
  exact⟨a,vs,rfl,d7.of e,by rw[rs.len];exact q.1,env,W0,H0,W,xs,R,Rr,rs,q.2,k⟩
 |_=>exact q.elim⟩
def uL(a:aR)(g:hW):bD:=λE env=>a env λx=>g x env E.nx
theorem pG {lm:List Md} {rm:Md} {pe:aR} {g:hW} {tg:Expr} (he:VE X md e (.v el) pe) (hg:VG X md mn el tg g) (hs:swapsWithSole [tg] e pos.line X.env=pure false:=by rfl) (hw:swappedStores [tg] e X.env=pure none:=by rfl)
  (h1:(assignEach [tg] X.env).map (·.2)=[assign tg X.env]:=by rfl):VS X md mn lm rm (.Assign [tg] e pos) (uL pe g):=⟨(yF he.h hg.h hs hw h1).imp λD σ H=>by
 rintro⟨env,W0,H0,W,E,R,q,l⟩
 refine⟨env,W0,H0,W,_,R,q,λx v W1 H1 g1 r1 q1=>?_⟩
 exact⟨env,W0,H0,W1,x,E.nx,R.step g1,r1,q1,λenv' σ' R' z=>l.nx env' W1 σ' H1 R' (g1.ex R.ok) z⟩⟩
end
structure Src(J:It)(el:El)(B:Hp)(W:Wd)(H:Hp)(items:List PV):Prop where
 go:∀(i:Nat) (W2:Wd) (H2:Hp),Ex W H W2 H2->i<items.length->J.go i H2
 stop:∀(W2:Wd) (H2:Hp),Ex W H W2 H2->J.stop items.length H2
 yld:∀(i:Nat) (W2:Wd) (H2:Hp) (v:V) (H3:Hp),Ex W H W2 H2->Wok W2 H2->i<items.length->J.yld i H2 v H3->Go W2 H2 W2 H3/\∃x,items[i]? =some x/\Rep (el.G W2.F B) H3 v x
abbrev lM:=b5->(List PV->Prop)->Prop
def vN(K:Aa)(md:List Md)(el:El)(p:lM):TI:=λσ H R=>∃(env:b5) (W0:Wd) (H0:Hp) (W:Wd) (Q:List PV->Prop),Rl K md W0 H0 W σ env H/\p env Q/\∀(items:List PV) (W':Wd) (H':Hp) (J:It),Go W H W' H'->Src J el H0 W' H' items->Q items->R J H'
structure VI(X:Cx)(md:List Md)(el:El)(tg iter:Expr)(p:lM):Prop where
 h:PI X tg iter (vN X.K md el p)
theorem PI.imp{X:Cx}{tg iter:Expr}{t t':TI}(h:PI X tg iter t)(k:∀σ H R,t' σ H R->t σ H R):PI X tg iter t':=λpins s σ H R I q=>h pins s σ H R I (k σ H R q)
def eF(a:aR):lM:=λenv Q=>a env λx=>match x with
 |.lst xs=>Q xs
 |_=>False
def B0(a:aR):lM:=λenv Q=>a env λx=>match x with
 |.tup xs=>Q xs
 |_=>False
def c4(lo:Int)(n:Nat):List PV:=(List.range n).map λ(i:Nat)=>PV.int (lo+i)
theorem bE(lo:Int)(n:Nat):(c4 lo n).length=n:=by simp[c4]
theorem vI{lo:Int}{n i:Nat}(h:i<n):(c4 lo n)[i]? =some (.int (lo+i)):=by simp[c4,h]
def fT(a:aR):lM:=λenv Q=>a env λx=>match x with
 |.int j=>-(2^62)<=j/\j<2^62/\Q (c4 0 j.toNat)
 |_=>False
section
variable{X:Cx}{md:List Md}{el:El}{a b e tg:Expr}{pa pb pe:aR}{p pos:Pos}
theorem BH {K:PySem.W.Frag} {B:Hp} {W:Wd} {H:Hp} {l:Addr} {vs:List V} {xs:List PV} (hF:W.F l) (e:H l=some (.lst vs)) (r:Reps (el.G W.F B) H vs xs):Src (a22 K l) el B W H xs where
 go:=λi W2 H2 x hi=>⟨vs,vs[i]'(by rw[r.len];exact hi),cS.of (x.kp l _ hF e),a0a _⟩
 stop:=λW2 H2 x=>⟨vs,cS.of (x.kp l _ hF e),by rw[r.len];exact Nat.le_refl _⟩
 yld:=λi W2 H2 v H3 x w hi y=>by
  obtain⟨rfl,y⟩:=y
  have:=y vs (cS.of (x.kp l _ hF e))
  obtain⟨z,ez,rz⟩:=r.getV this
  exact⟨Go.refl w,z,ez,x.rep (λ_ g=>El.GF g) (λ_ g=>El.up x.lF (λ_ h=>h) g) rz⟩
theorem RX {K:PySem.W.Frag} {B:Hp} {W:Wd} {H:Hp} {l:Addr} {vs:List V} {xs:List PV} (e:H l=some (.tup vs)) (r:Reps (el.G W.F B) H vs xs):Src (a23 K l) el B W H xs where
 go:=λi W2 H2 x hi=>⟨vs,vs[i]'(by rw[r.len];exact hi),d7.of (x.im l _ rfl e),a0a _⟩
 stop:=λW2 H2 x=>⟨vs,d7.of (x.im l _ rfl e),by rw[r.len];exact Nat.le_refl _⟩
 yld:=λi W2 H2 v H3 x w hi y=>by
  obtain⟨rfl,y⟩:=y
  have:=y vs (d7.of (x.im l _ rfl e))
  obtain⟨z,ez,rz⟩:=r.getV this
  exact⟨Go.refl w,z,ez,x.rep (λ_ g=>El.GF g) (λ_ g=>El.up x.lF (λ_ h=>h) g) rz⟩
theorem RW {B:Hp} {W:Wd} {H:Hp} {lo:Int} {n:Nat}:Src (O2 lo n) el B W H (c4 lo n) where
 go:=λi W2 H2 x hi=>by rw[bE] at hi;exact hi
 stop:=λW2 H2 x=>by rw[bE];exact Nat.le_refl n
 yld:=λi W2 H2 v H3 x w hi y=>by
  obtain⟨rfl,rfl⟩:=y
  rw[bE] at hi
  exact⟨Go.refl w,_,vI hi,.int _⟩
theorem dR (h:VE X md e (.v el) pe):VI X md el tg e (eF pe):=⟨(F1 h.h).imp λσ H R=>by
 rintro⟨env,W0,H0,W,Q,Rr,q,k⟩
 refine⟨env,W0,H0,W,_,Rr,q,λx v W1 H1 g1 r1 q1=>?_⟩
 cases x with
 | lst xs=>
  obtain⟨a,vs,rfl,g,e,rs⟩:=Rep.ofList r1
  exact⟨a,rfl,⟨vs,cS.of e⟩,k xs W1 H1 _ g1 (BH (El.GF g) e rs) q1⟩
 |_=>exact q1.elim⟩
theorem u6 (h:VE X md e (.z el) pe):VI X md el tg e (eF pe):=⟨(F1 h.h).imp λσ H R=>by
 rintro⟨env,W0,H0,W,Q,Rr,q,k⟩
 refine⟨env,W0,H0,W,_,Rr,q,λx v W1 H1 g1 r1 q1=>?_⟩
 cases x with
 | lst xs=>
  obtain⟨a,o,rfl,z⟩:=r1
  have z2:=z.its
  have z3:=z.at_
  cases z2 with
  |lst rs=>exact⟨a,rfl,⟨_,cS.of z3⟩,k xs W1 H1 _ g1 (BH z.F z3 rs) q1⟩
 |_=>exact q1.elim⟩
theorem YZ (h:VE X md e (.v el) pe):VI X md el tg e (B0 pe):=⟨(X9 h.h).imp λσ H R=>by
 rintro⟨env,W0,H0,W,Q,Rr,q,k⟩
 refine⟨env,W0,H0,W,_,Rr,q,λx v W1 H1 g1 r1 q1=>?_⟩
 cases x with
 | tup xs=>
  obtain⟨a,vs,rfl,e,rs⟩:=Rep.ofTup r1
  exact⟨a,rfl,⟨vs,d7.of e⟩,k xs W1 H1 _ g1 (RX e rs) q1⟩
 |_=>exact q1.elim⟩
theorem fJ (hg:X.env.scope.names.lookup (Str.ofString "range")=some NameKind.globalImplicit) (hm:X.mg "range"=none) (ha:VE X md a .bw pa) (hs:starEach [a] X.env=[(false,eval a X.env)]:=by rfl):VI X md .fl tg (.Call (.Name "range" p) [a] [] pos) (fT pa):=
 ⟨(w4 hg hm (a7 ha aC hs).h hs).imp λσ H R=>by
 rintro⟨env,W0,H0,W,Q,Rr,q,k⟩
 refine⟨env,W0,H0,W,λxs=>match xs with|[.int j]=>-(2^62)<=j/\j<2^62/\Q (c4 0 j.toNat)|_=>False,Rr,?_,λxs vs W1 H1 g1 r1 q1=>?_⟩
 ·show pa env _
  unfold fT at q
  refine (iff_of_eq (congrArg (pa env) (funext λx=>?_))).mp q
  cases x<;>rfl
 ·obtain⟨v,x,rfl,rfl,r⟩:=r1.one
  cases x with
  |int j=>exact⟨j,by rw[Rep.ofInt r],q1.1,q1.2.1,k _ W1 H1 _ g1 RW q1.2.2⟩
  |_=>exact q1.elim⟩
end
def nT(g:hW)(b:bD)(E:PEnds):List PV->b5->Prop
 |[],env=>E.nx env
 |x::xs,env=>g x env λenv1=>b {E with nx:=nT g b E xs,ct:=nT g b E xs,bk:=E.nx} env1
def nR(s:lM)(g:hW)(b:bD):bD:=λE env=>s env λitems=>nT g b E items env
def yC(c:eS)(b:bD):bD:=λE env=>∃I:Nat->b5->Prop,(∃m,I m env)/\∀m env,I m env->
 c env λk=>Br k (∃N:b5->Prop,(∀env',N env'->∃m',m'<m/\I m' env')/\b {E with nx:=N,ct:=N,bk:=E.nx} env) (E.nx env)
section
variable{X:Cx}{md m1 mn lm l2:List Md}{rm:Md}{el:El}{tg iter c:Expr}{body:List Stmt}{s:lM}{g:hW}{b:bD}{pc:eS}{pos:Pos}
theorem KI {K:PySem.W.Frag} (hlm:fG lm=true) {wi:TI} {σ:St} {H:Hp} {D:Ends} (h:ES K lm lm l2 rm (nR s g b) D σ H):NA (vN K lm el s) (sD K lm m1 el g) (ES K m1 lm lm rm b) D σ H:=by
 obtain⟨env,W0,H0,W,E,R,q,l⟩:=h
 refine⟨env,W0,H0,W,_,R,q,λitems W1 H1 J g1 sr q1=>?_⟩
 refine⟨λi m σ H=>m=items.length-i/\i<=items.length/\∃env W',Rl K lm W0 H0 W' σ env H/\Ex W1 H1 W' H/\nT g b E (items.drop i) env,⟨items.length,by simp,Nat.zero_le _,env,W1,R.step g1,.refl,by simpa using q1⟩,?_⟩
 rintro i m σ2 H2 ⟨rfl,hi,env2,W2,R2,x2,q2⟩
 by_cases hlt:i<items.length
 ·rw[List.drop_eq_getElem_cons hlt] at q2
  refine .inr ⟨sr.go i W2 H2 x2 hlt,λσ' H'=>i+1<=items.length/\∃env W',Rl K lm W0 H0 W' σ' env H'/\Ex W1 H1 W' H'/\nT g b E (items.drop (i+1)) env,λσ' H' z=>⟨items.length-(i+1),by omega,rfl,z.1,z.2⟩,λv H3 y=>?_⟩
  obtain⟨g3,x,ex,rx⟩:=sr.yld i W2 H2 v H3 x2 R2.ok hlt y
  rw[a0a hlt] at ex
  cases ex
  refine⟨env2,W0,H0,W2,_,_,R2.step g3,rx,q2,λenv' σ' R' z=>⟨env',W0,H0,W2,_,R',z,?_,l.rt,?_,?_⟩⟩
  ·exact λenv4 W4 σ4 H4 R4 x4 z4=>⟨hlt,env4,W4,R4,(x2.trans (g3.ex R2.ok)).trans x4,z4⟩
  ·exact λenv4 W4 σ4 H4 R4 x4 z4=>l.nx env4 W4 σ4 H4 R4 ((((g1.ex R.ok).trans x2).trans (g3.ex R2.ok)).trans x4) z4
  ·exact λenv4 W4 σ4 H4 R4 x4 z4=>⟨hlt,env4,W4,R4,(x2.trans (g3.ex R2.ok)).trans x4,z4⟩
 ·have e:i=items.length:=by omega
  subst e
  rw[List.drop_length] at q2
  exact .inl ⟨sr.stop W2 H2 x2,l.nx env2 W2 σ2 H2 R2 ((g1.ex R.ok).trans x2) q2⟩
theorem jS (hp:PassesOwn (model X.prog X.w) X.A X.env X.xe) (hc:X.calm=true) (hlm:fG lm=true) (hi:VI X lm el tg iter s) (hg:VG X lm m1 el tg g) (hb:VSs X m1 lm lm rm body b)
  (hs:∀x,foldedSetIterable iter X.env x=pure x:=by intro _;rfl):VS X lm lm l2 rm (.For tg iter body [] pos) (nR s g b):=⟨(MA hp hc hi.h hg.h hb.h hs).imp λD σ H h=>KI (wi:=vN X.K lm el s) hlm h⟩
theorem u9 (hp:PassesOwn (model X.prog X.w) X.A X.env X.xe) (hc:VT X lm c pc) (hb:VSs X lm lm lm rm body b):VS X lm lm l2 rm (.While c body [] pos) (yC pc b):=⟨(MC hp hc.h hb.h).imp λD σ H h=>by
 obtain⟨env,W0,H0,W,E,R,⟨I,⟨m,i0⟩,turn⟩,l⟩:=h
 refine⟨λm σ2 H2=>∃env W',Rl X.K lm W0 H0 W' σ2 env H2/\Ex W H W' H2/\I m env,⟨m,env,W,R,.refl,i0⟩,?_⟩
 rintro m σ2 H2 ⟨env2,W2,R2,x2,i2⟩
 refine⟨env2,W0,H0,W2,_,R2,turn m env2 i2,λk W3 H3 g3 q3=>?_⟩
 cases k with
 | true=>
  rw[if_pos rfl]
  obtain⟨N,hN,q3⟩:=q3
  refine⟨λσ' H'=>∃env W',Rl X.K lm W0 H0 W' σ' env H'/\Ex W H W' H'/\N env,λσ' H' z=>?_,env2,W0,H0,W3,_,R2.step g3,q3,?_,l.rt,?_,?_⟩
  ·obtain⟨env',W',R',x',n'⟩:=z
   obtain⟨m',hm,i'⟩:=hN env' n'
   exact⟨m',hm,env',W',R',x',i'⟩
  ·exact λenv4 W4 σ4 H4 R4 x4 z4=>⟨env4,W4,R4,(x2.trans (g3.ex R2.ok)).trans x4,z4⟩
  ·exact λenv4 W4 σ4 H4 R4 x4 z4=>l.nx env4 W4 σ4 H4 R4 ((x2.trans (g3.ex R2.ok)).trans x4) z4
  ·exact λenv4 W4 σ4 H4 R4 x4 z4=>⟨env4,W4,R4,(x2.trans (g3.ex R2.ok)).trans x4,z4⟩
 | false=>
  rw[if_neg Bool.false_ne_true]
  exact l.nx env2 W3 σ2 H3 (R2.step g3) (x2.trans (g3.ex R2.ok)) q3⟩
end
def a3P:Md->Md
 |.bw=>.v .sh
 |m=>m
def lN:Md->Bool
 |.bw=>true
 |.st=>true
 |.scr=>true
 |_=>false
def oA:Md->Bool
 |.v .fl=>true
 |.v .sn=>true
 |.o .fl=>true
 |.o .sn=>true
 |.z .fl=>true
 |.z .sn=>true
 |.st=>true
 |_=>false
def NR(K:PySem.W.Frag)(ms:List Md)(rm:Md)(p:PN):Sp:=λvs H Q _=>∃(xs:List PV) (W:Wd) (R:PV->Prop),W.K=K/\Wok W H/\ResEs H H W H ms vs xs/\p xs R/\
 ∀(x:PV) (v:V) (W':Wd) (H':Hp),Go W H W' H'->ResE H H W' H' rm v x->R x->Q v H'
def cY(N:List Str)(xs:List PV):b5:=xs.map some++List.replicate (N.length-xs.length) none
def fR(N:List Str)(ms:List Md):List Md:=ms.map a3P++List.replicate (N.length-ms.length) .no
def iZ(rm:Md)(R:PV->Prop):Prop:=match rm with
 |.v _=>R .non
 |_=>False
theorem ResEs.at {B H0 H:Hp} {W:Wd} {ms:List Md} {vs:List V} {xs:List PV} (r:ResEs B H0 W H ms vs xs) {i:Nat} {x:PV} (e:xs[i]? =some x):∃m v,ms[i]? =some m/\vs[i]? =some v/\ResE B H0 W H m v x:=by
 induction r generalizing i with
 |nil=>simp at e
 | cons h _ ih=>
  cases i with
  |zero=>simp at e;subst e;exact⟨_,_,rfl,rfl,h⟩
  |succ i=>simp at e;obtain⟨m,v,e1,e2,q⟩:=ih e;exact⟨m,v,by simpa using e1,by simpa using e2,q⟩
theorem ResE.arg{B H0 H B' H0':Hp}{W:Wd}{m:Md}{v:V}{x:PV}(r:ResE B H0 W H m v x)(h:lN m=true):ResE B' H0' W H m v x:=by
 cases m<;>first|exact r|cases h
theorem ResEs.arg {B H0 H B' H0':Hp} {W:Wd} {ms:List Md} {vs:List V} {xs:List PV} (r:ResEs B H0 W H ms vs xs) (h:ms.all lN=true):ResEs B' H0' W H ms vs xs:=by
 induction r with
 |nil=>exact .nil
 | cons q _ ih=>
  rw[List.all_cons,Bool.and_eq_true] at h
  exact .cons (q.arg h.1) (ih h.2)
def C7(W:Wd)(H:Hp):Wd:={W with F:=λa=>(∃o,H a=some o)/\¬W.S a,Z:=λ_=>False}
theorem E8{W:Wd}{H:Hp}(w:Wok W H):Wok (C7 W H) H:=⟨λ_ h=>h.1,w.sS,λ_ h=>h.2,λ_ h=>h.elim,λ_ h=>h.elim,λ_ h=>h.elim⟩
theorem Rep.alloc{W:Wd}{H:Hp}{v:V}{x:PV}(r:Rep (λa=>¬W.S a) H v x):Rep (C7 W H).F H v x:=by
 induction r with
 |non=>exact .non
 |bl b=>exact .bl b
 |int i=>exact .int i
 |str x=>exact .str x
 |ty n=>exact .ty n
 |set e=>exact .set e
 |lst g e l _ ih=>exact .lst ⟨⟨_,e⟩,g⟩ e l ih
 |tup e l _ ih=>exact .tup e l ih
 |dic g e l1 l _ ih=>exact .dic ⟨⟨_,e⟩,g⟩ e l1 l ih
theorem MX {K:PySem.W.Frag} {N:List Str} {ms:List Md} {vs:List V} {xs:List PV} {W:Wd} {H:Hp} (hk:W.K=K) (w:Wok W H) (r:ResEs H H W H ms vs xs) (hm:ms.all lN=true):Rl K (fR N ms) (C7 W H) H (C7 W H) (start N vs) (cY N xs) H:=by
 have hlen:=r.len
 have getm:∀i m,ms[i]? =some m->(fR N ms).getD i .no=a3P m:=λi m e=>by
  have hi:=(List.getElem?_eq_some_iff.mp e).1
  unfold fR
  rw[a0c,List.getElem?_append_left (by simpa using hi),List.getElem?_map,e];rfl
 have none_:∀i,ms.length<=i->(fR N ms).getD i .no= .no:=λi hi=>by
  unfold fR
  rw[a0c,List.getElem?_append_right (by simpa using hi),List.getElem?_replicate]
  split<;>rfl
 have nown:∀i,((fR N ms).getD i .no).own=false:=λi=>by
  cases e:ms[i]? with
  |none=>rw[none_ i (List.getElem?_eq_none_iff.mp e)];rfl
  | some m=>
   rw[getm i m e]
   have:=List.all_eq_true.mp hm m (List.mem_of_getElem? e)
   cases m<;>first|rfl|cases this
 refine⟨E8 w,Go.refl (E8 w),?_,λi x e=>?_,λi j x y a hij oi=>(by rw[nown i] at oi;cases oi),?_,hk⟩
 ·simp[start,cY,hlen.1]
 ·unfold cY at e
  by_cases hi:i<xs.length
  ·rw [List.getElem?_append_left (by simpa using hi),List.getElem?_map] at e
   cases ex:xs[i]? with
   |none=>rw[ex] at e;cases e
   | some y=>
    rw[ex] at e
    cases e
    obtain⟨m,v,e1,e2,q⟩:=r.at ex
    refine⟨v,?_,?_⟩
    ·unfold start
     rw[List.getElem?_append_left (by simpa[hlen.1] using hi),List.getElem?_map,e2];rfl
    ·rw[getm i m e1]
     have:=List.all_eq_true.mp hm m (List.mem_of_getElem? e1)
     cases m with
     |bw=>exact Rep.alloc q
     |st=>exact q
     |scr=>exact q
     |_=>cases this
  ·rw[List.getElem?_append_right (by simpa using hi),List.getElem?_replicate] at e
   split at e<;>cases e
 ·unfold fG
  rw[Bool.or_eq_true,List.all_eq_true,List.all_eq_true]
  refine .inr λm h=>?_
  unfold fR at h
  rcases List.mem_append.mp h with z|z
  ·obtain⟨m',h1,rfl⟩:=List.mem_map.mp z
   have:=List.all_eq_true.mp hm m' h1
   cases m'<;>first|rfl|cases this
  ·rw[(List.mem_replicate.mp z).2];rfl
theorem BC {W W1:Wd} {H H1:Hp} {rm:Md} {v:V} {x:PV} (w:Wok W H) (hr:oA rm=true) (g:Go (C7 W H) H W1 H1) (r:ResE H H W1 H1 rm v x) :
  ∃W',Go W H W' H1/\ResE H H W' H1 rm v x:=by
 have nw:∀ {a:Ac},W.Z a->H a≠none:=λz e=>w.offZ e z
 refine⟨{W1 with F:=λa=>W.F a\/(W1.F a/\H a=none),Z:=W.Z},⟨λ_ h=>.inl h,g.lS,λa h=>h.elim .inl λz=>.inr z.2,g.nS,g.kp,⟨λa h=>?_,g.ok.sS,λa h=>?_,λa z=>by obtain⟨o,e⟩:=w.zZ a z;exact⟨o,g.kp a o e (w.zS a z)⟩,λa z f=>f.elim (w.zF a z) λq=>nw z q.2,λa z=>by obtain⟨o,e⟩:=w.zZ a z;exact g.nSS e (w.zS a z)⟩,g.kk,g.kl,λ_ h=>h,λ_ h=>.inl h⟩,?_⟩
 ·rcases h with h|h
  ·obtain⟨o,e⟩:=w.fF a h
   exact⟨o,g.kp a o e (w.dj a h)⟩
  ·exact g.ok.fF a h.1
 ·rcases h with h|h
  ·obtain⟨o,e⟩:=w.fF a h
   exact g.nSS e (w.dj a h)
  ·exact g.ok.dj a h.1
 ·have up:∀ {e:El} {a:Addr},e≠ .sh->e.G W1.F H a->e.G (λa=>W.F a\/(W1.F a/\H a=none)) H a:=fun {e a} he q=>by
   cases e with
   |fl=>exact q
   |sn=>exact⟨.inr q,q.2⟩
   |sh=>exact absurd rfl he
  have own:∀ {e:El},e≠ .sh->ResE H H W1 H1 (.o e) v x->ResE H H {W1 with F:=λa=>W.F a\/(W1.F a/\H a=none),Z:=W.Z} H1 (.o e) v x:=λhe q=>by
   obtain⟨a,o,rfl,q⟩:=q
   exact⟨a,o,rfl,q.new,λz=>z.elim (λz=>w.offF q.new z) λz=>q.nF z.1,q.nS,q.at_,q.its.mono (λ_ g=>up he g) (λ_ _ _ e=>e),λz=>w.offZ q.new z⟩
  have frz:∀ {e:El},e≠ .sh->ResE H H W1 H1 (.z e) v x->ResE H H {W1 with F:=λa=>W.F a\/(W1.F a/\H a=none),Z:=W.Z} H1 (.z e) v x:=λhe q=>by
   obtain⟨a,o,rfl,q⟩:=q
   exact⟨a,o,rfl,q.new,.inr ⟨q.F,q.new⟩,q.at_,q.its.mono (λ_ g=>up he g) λ_ _ _ e=>e⟩
  cases rm with
  | v e=>
   cases e with
   |fl=>exact r
   |sn=>exact Rep.weak r λ_ g=>up (by intro z;cases z) g
   |sh=>cases hr
  | o e=>
   cases e with
   |fl=>exact own (by intro z;cases z) r
   |sn=>exact own (by intro z;cases z) r
   |sh=>cases hr
  | z e=>
   cases e with
   |fl=>exact frz (by intro z;cases z) r
   |sn=>exact frz (by intro z;cases z) r
   |sh=>cases hr
  |st=>exact r
  |_=>cases hr
theorem SH {P:Program} {w:World} {K:PySem.W.Frag} {mg:Str->Option Value} {base:Heap} {x:Str} {st:Stmt} {N ps:List Str} {k:Nat} {ms mn:List Md} {rm:Md} {p:bD} {d:PN} (hd:∀xs R,d xs R->p {nx:=λ_=>iZ rm R,rt:=R} (cY N xs)) (D:Df K mg x st) (S:FnScope N ps (aA st))
  (hb:∀(kV doc pm:Value) (an:Option Ac) (cdv ct:Value) (us:List Value),us.length=ps.length->bindArgs (PySem.W.fnOf x x (cV st) (bG st) (aA st) .none kV doc pm an cdv ct) ⟨us,[]⟩=pure (ps.zip us))
  (hm:ms.all lN=true) (hr:oA rm=true)
  (hlen:ms.length=ps.length) (hbody:∀(f:Addr) (cdv:Value) (A:Around) (outer:List Env) (s:Shared) (H:Hp) (E:XK),Room k (A.deeper (envOfC x (aA st) s.heap.objs.size f cdv))->
   VSs (cT jA P w K mg base N x (aA st) f cdv A outer s H E).nox (fR N ms) mn [] rm (bG st) p) :
  Cal P w K mg base (k+1) x ps (NR K ms rm d):=by
 refine D.ok S hb (λvs H Q E h=>?_) (λf cdv A outer s H vs Q E hr' h=>?_)
 ·obtain⟨xs,W,R,_,_,r,_⟩:=h
  have:=r.len
  omega
 ·obtain ⟨xs,W,R,hk,wk,r,q,kk⟩:=h
  have q:=hd xs R q
  refine⟨_,(hbody f cdv A outer s H E hr').h,cY N xs,C7 W H,H,C7 W H,{nx:=λ_=>iZ rm R,rt:=R},MX hk wk r hm,q,?_,?_,λ_ _ _ _ _ _ z=>z.elim,λ_ _ _ _ _ _ z=>z.elim⟩
  ·intro env W' σ H' Rr _ z
   have z':iZ rm R:=z
   unfold iZ at z'
   cases rm with
   | v e=>
    obtain⟨W2,g2,r2⟩:=BC (rm:=.v e) wk hr Rr.go (v:=.non) (x:=.non) .non
    exact kk .non .non W2 H' g2 r2 z'
   |_=>exact z'.elim
  ·intro y v W' H' g r1 z
   obtain⟨W2,g2,r2⟩:=BC wk hr g r1
   exact kk y v W2 H' g2 r2 z
theorem ResE.ret{B H1 H2:Hp}{W0 W1 W2:Wd}{rm:Md}{v:V}{x:PV}(g:Go W0 B W1 H1)(hr:oA rm=true)(r:ResE H1 H1 W2 H2 rm v x):ResE B H1 W2 H2 rm v x:=by
 have up:∀ {e:El} {a:Ac},e.G W2.F H1 a->e.G W2.F B a:=λq=>El.up (λ_ h=>h) (λ_ z=>g.free z) q
 cases rm with
 |v e=>exact Rep.weak r λ_ q=>up q
 |o e=>obtain⟨a,o,rfl,q⟩:=r;exact⟨a,o,rfl,q.new,q.nF,q.nS,q.at_,q.its.mono (λ_ q=>up q) (λ_ _ _ e=>e),q.nZ⟩
 |z e=>obtain⟨a,o,rfl,q⟩:=r;exact⟨a,o,rfl,g.free q.new,q.F,q.at_,q.its.mono (λ_ q=>up q) λ_ _ _ e=>e⟩
 |st=>exact r
 |_=>cases hr
section
variable{X:Cx}{md:List Md}{e:Expr}{es:List Expr}{pt:l6}{p pos:Pos}{k:Nat}{x:Str}{ps:List Str}{ms:List Md}{rm:Md}{pn:PN}
theorem YR (C:Cal X.prog X.w X.K X.mg X.base k x ps (NR X.K ms rm pn)) (hr:Room k X.A) (hm:ms.all lN=true) (hrm:oA rm=true) (ha:VA X md (e::es) ms pt) (hg:X.env.scope.names.lookup x=some .globalImplicit)
  (hdb:(x==("__debug__" : Str))=false) (he:starEach (e::es) X.env=(false,eval e X.env)::starEach es X.env:=by rfl) (hpl:(backTo pos (starEach es X.env)).any (·.1)=false:=by rfl) :
  VE X md (.Call (.Name x p) (e::es) [] pos) rm (c8 pn pt):=⟨(WY C hr ha.h hg hdb he hpl).imp λσ H K=>by
 rintro⟨env,W0,H0,W,Q,R,q,k⟩
 refine⟨env,W0,H0,W,_,R,q,λxs vs W1 H1 g1 r1 q1=>?_⟩
 refine⟨xs,W1,Q,g1.kk.trans R.kk,g1.ok,by rw[List.append_nil];exact r1.arg hm,q1,λy v W2 H2 g2 r2 q2=>?_⟩
 exact k y v W2 H2 (g1.trans g2) (ResE.base g1 (ResE.ret (R.go.trans g1) hrm r2)) q2⟩
end
structure SimM (r:V->List V->Hp->VK->Prop) (ms:List Md) (el:El) (pm:PV->List PV->(PV->Prop)->Prop):Prop where
 h:∀(B Hs:Hp) (W:Wd) (H:Hp) (a:Addr) (o:HO) (x:PV) (vs:List V) (ys:List PV) (R:PV->Prop) (K:VK),Wok W H->H a=some o->¬W.F a->¬W.S a->Body (el.G W.F B) H o x->ResEs B Hs W H ms vs ys->pm x ys R->
  (∀(o':HO) (x':PV) (v:V),o'.imm=false->Body (el.G W.F B) H o' x'->R x'->K v (b7 H a o'))->r (.ref a) vs H K
theorem yG{K:PySem.W.Frag}{md:List Md}{W0 W:Wd}{H0 H:Hp}{σ:St}{env:b5}{i:Nat}{el:El}{a:Addr}{o o':HO}{x:PV}(q:OwnL el H0 H0 W H a o x):Ex W H W (b7 H a o'):=⟨λ_ h=>h,λb u f e=>by rw[aD (λz=>by subst z;exact q.nF f)];exact e,λb u im e=>by
 rw[aD (λz=>?_)];exact e
 subst z
 have:=q.its
 rw[q.at_] at e;cases e
 cases this<;>cases im⟩
section
variable{X:Cx}{md lm:List Md}{rm:Md}{e o:Expr}{es:List Expr}{pt:l6}{pe pj:aR}{el:El}{i:Nat}{T id:String}{r:V->List V->Hp->VK->Prop}{ms:List Md}{pm:PV->List PV->(PV->Prop)->Prop}{name:Str}{apos cpos pos p:Pos}
theorem LN {K:PySem.W.Frag} {H:Hp} {a:Addr} {o:HO} {x:PV} {G:Addr->Prop} (b:Body G H o x) (e:H a=some o) (hT:(∃xs,x= .lst xs/\T="list")\/∃ks xs,x= .dic ks xs/\T="dict"):a3F K T (.ref a) H:=by
 rcases hT with ⟨xs,rfl,rfl⟩|⟨ks,xs,rfl,rfl⟩
 ·cases b with
  |lst h=>exact .inl ⟨rfl,_,cS.of e⟩
 ·cases b with
  |dic l h=>exact .inr (.inr (.inl ⟨rfl,.inl ⟨_,e⟩⟩))
def Z7(T:String)(x:PV):Prop:=match x with
 |.lst _=>T="list"
 |.dic _ _=>T="dict"
 |_=>False
def gQ(T:String)(i:Nat)(pm:PV->List PV->(PV->Prop)->Prop)(t:l6):bD:=λE env=>match lR env i with
 |some (some x)=>Z7 T x/\t env λys=>pm x ys λx'=>E.nx (dO env i (some x'))
 |_=>False
theorem YJ{x:PV}(h:Z7 T x):(∃xs,x= .lst xs/\T="list")\/∃ks xs,x= .dic ks xs/\T="dict":=by
 cases x<;>first|exact .inl ⟨_,rfl,h⟩|exact .inr ⟨_,_,rfl,h⟩|exact (show False from h).elim
theorem lH (pa:PlainAttrs T) (slot:Slot T name id) (hty:typeOf (.builtin id)=pure (.type "method_descriptor")) (hm:QM X id r) (hs:SimM r ms el pm) (ho:QE X o (eH i)) (hi:md.getD i .no= .o el) (ha:VA X md (e::es) ms pt)
  (hsw:swapsWith (.Call (.Attribute o name apos) (e::es) [] cpos) none pos.line X.env=pure false:=by rfl)
  (hbase:attributeBase o name X.env (eval o X.env)=eval o X.env:=by rfl)
  (hfew:((backTo cpos (starEach (e::es) X.env)).all (λx=>!x.1)&&(backToKw cpos (keywordEach [] X.env)).all (λx=>x.1.isSome)
   &&decide ((e::es).length+([]:List Keyword).length+(if ([]:List Keyword).isEmpty then 0 else 1)<30))=true:=by rfl)
  (hline:(apos.endLine==cpos.line)=true:=by rfl) (hse:starEach (e::es) X.env=(false,eval e X.env)::starEach es X.env:=by rfl) (hplain:(backTo cpos (starEach es X.env)).any (·.1)=false:=by rfl) :
  VS X md md lm rm (.Expr (.Call (.Attribute o name apos) (e::es) [] cpos) pos) (gQ T i pm pt):=⟨(F3 (M0 pa slot hty hm.h ho.h ha.h hbase hfew hline hse hplain) hsw).imp λD σ H=>by
 rintro⟨env,W0,H0,W,E,R,q,l⟩
 unfold gQ at q
 rw[iO] at q
 cases ev:env[i]? with
 |none=>rw[ev] at q;exact q.elim
 | some ox=>
  cases ox with
  |none=>rw[ev] at q;exact q.elim
  | some x=>
   rw[ev] at q
   obtain⟨a,ob,sv,oq⟩:=R.ownAt hi ev
   refine⟨.ref a,sv,LN oq.its oq.at_ (YJ q.1),env,W0,H0,W,_,R,q.2,λys vs W1 H1 g1 r1 q1=>?_⟩
   have R1:=R.step g1
   obtain⟨a1,o1,sv1,oq1⟩:=R1.ownAt hi ev
   rw[sv] at sv1;cases sv1
   refine hs.h H0 H W1 H1 a o1 x vs ys _ _ g1.ok oq1.at_ oq1.nF oq1.nS oq1.its r1 q1 λo' x' v im b z=>?_
   rw[dD] at z
   exact l.nx _ W1 σ _ (R1.put hi ev sv b im) ((g1.ex R.ok).trans (yG (K:=X.K) (md:=md) (W0:=W0) (σ:=σ) (env:=env) (i:=i) oq1)) z⟩
def dN:PV->List PV->(PV->Prop)->Prop:=λx ys R=>match x,ys with
 |.lst xs,[y]=>xs.length<sizeLine/\R (.lst (xs++[y]))
 |_,_=>False
theorem d3:SimM qX [.v el] el dN:=⟨λB Hs W H a o x vs ys R K w e nF nS b r q k=>by
 obtain⟨v,y,rfl,rfl,r1⟩:=r.one
 cases b with
 |lst h=>exact⟨a,_,v,rfl,rfl,e,by rw[h.len];exact q.1,k _ _ _ rfl (.lst (h.append (.cons r1 .nil))) q.2⟩
 |dic l h=>exact q.elim⟩
def LU (i:Nat) (pe pj:aR):bD:=λE env=>pe env λy=>match lR env i with
 | some (some (.lst xs))=>pj env λj=>(match j with
  | .int k=>(match rZ xs.length k with
   |some n=>E.nx (dO env i (some (.lst (xs.set n y))))
   |none=>False)
  |_=>False)
 |_=>False
theorem Z0 {j:Expr} (ho:QE X o (eH i)) (hi:md.getD i .no= .o el) (he:VE X md e (.v el) pe) (hj:VE X md j .bw pj)
  (ha:∀v,assign (.Subscript o j p) X.env v=(do
   let ov <- holding [v] (eval o X.env)
   let iv <- holding [v,ov] (eval j X.env)
   standAt p
   holding [v,ov,iv] (setItem ov iv v)
   release [v,ov,iv] []):=by intro _;rfl)
  (hs:swapsWithSole [.Subscript o j p] e pos.line X.env=pure false:=by rfl) (hw:swappedStores [.Subscript o j p] e X.env=pure none:=by rfl)
  (h1:(assignEach [.Subscript o j p] X.env).map (·.2)=[assign (.Subscript o j p) X.env]:=by rfl):VS X md md lm rm (.Assign [.Subscript o j p] e pos) (LU i pe pj):=⟨(yF he.h (yD ho.h hj.h oE ha) hs hw h1).imp λD σ H=>by
 rintro⟨env,W0,H0,W,E,R,q,l⟩
 refine⟨env,W0,H0,W,_,R,q,λy v W1 H1 g1 r1 q1=>?_⟩
 have R1:=R.step g1
 rw[iO] at q1
 cases ev:env[i]? with
 |none=>rw[ev] at q1;exact q1.elim
 | some ox=>
  cases ox with
  |none=>rw[ev] at q1;exact q1.elim
  | some x=>
   rw[ev] at q1
   cases x with
   | lst xs=>
    obtain⟨a,ob,sv,oq⟩:=R1.ownAt hi ev
    refine⟨.ref a,sv,env,W0,H0,W1,_,R1,q1,λjv u W2 H2 g2 r2 q2=>?_⟩
    have R2:=R1.step g2
    obtain⟨a2,o2,sv2,oq2⟩:=R2.ownAt hi ev
    rw[sv] at sv2;cases sv2
    cases jv with
    | int k=>
     dsimp only at q2
     cases hn:rZ xs.length k with
     |none=>rw[hn] at q2;exact q2.elim
     | some n=>
      rw[hn] at q2
      have b:=oq2.its
      have oq3:=oq2
      have hat:=oq2.at_
      generalize o2=oo at b hat oq3
      cases b with
      | @lst us _ h=>
       have r1':Rep (el.G W2.F H0) H2 v y:=ResE.go (m:=.v el) r1 g1.ok g2
       refine⟨a,us,k,n,rfl,Rep.ofInt r2,hat,by rw[h.len];exact hn,?_⟩
       have q2:E.nx (dO env i (some (PV.lst (xs.set n y)))):=q2
       rw[dD] at q2
       exact l.nx _ W2 σ _ (R2.put hi ev sv (.lst (h.set r1' n)) rfl) (((g1.trans g2).ex R.ok).trans (yG (K:=X.K) (md:=md) (W0:=W0) (σ:=σ) (env:=env) (i:=i) oq3)) q2
    |_=>exact q2.elim
   |_=>exact q1.elim⟩
end
def a2D:Md->Md
 |.o e=>.c e
 |.v e=>.v e
 |.z e=>.z e
 |.c e=>.c e
 |.st=>.st
 |.scr=>.scr
 |_=>.no
def fE(n:Nat)(cap:List Nat)(md:List Md):List Md:=List.replicate n .no++cap.map λi=>a2D (md.getD i .no)
abbrev jn:Option (Option PV)->Option PV
 |some o=>o
 |none=>none
def oW(n:Nat)(cap:List Nat)(env:b5):b5:=List.replicate n none++cap.map λi=>jn (lR env i)
def jT(md:List Md):Bool:=md.all λm=>match m with
 |.o _=>false
 |.bw=>false
 |.p _=>false
 |.n=>false
 |_=>true
theorem JD {md:List Md} (h:jT md=true) (i:Nat):(∀e,md.getD i .no≠ .o e)/\md.getD i .no≠ .bw/\(∀e,md.getD i .no≠ .p e)/\md.getD i .no≠ .n:=by
 unfold jT at h
 rw[List.all_eq_true] at h
 rw[a0c]
 cases e:md[i]? with
 |none=>exact⟨λ_ z=>(by cases z),λz=>(by cases z),λ_ z=>(by cases z),λz=>(by cases z)⟩
 | some m=>
  have:=h m (List.mem_of_getElem? e)
  cases m<;>first|(cases this;done)|exact⟨λ_ z=>(by cases z),λz=>(by cases z),λ_ z=>(by cases z),λz=>(by cases z)⟩
section
variable{K:Aa}{md:List Md}{W W0 W1 W2:Wd}{H H0 H1 H2:Hp}{σ:St}{env:b5}{a:Ac}
theorem Wok.tmp(w:Wok W H)(nF:¬W.F a)(nS:¬W.S a)(nZ:¬W.Z a){o':HO}:Wok W (b7 H a o'):=⟨λb hb=>by
 rw[aD (λz=>by subst z;exact nF hb)];exact w.fF b hb,λb hb=>by
 obtain⟨x1,x2,x3,e1,e2⟩:=w.sS b hb
 exact⟨x1,x2,x3,by rw[aD (λz=>by subst z;exact nS hb)];exact e1,e2⟩,w.dj,λb hb=>by
 rw[aD (λz=>by subst z;exact nZ hb)];exact w.zZ b hb,w.zF,w.zS⟩
theorem Go.tmp(g:Go W H W2 H2)(ha:H a=none)(nF:¬W2.F a)(nS:¬W2.S a)(nZ:¬W2.Z a){o':HO}:Go W H W2 (b7 H2 a o'):=
 ⟨g.lF,g.lS,g.nF,g.nS,λb o e s=>by rw[aD (λz=>by subst z;rw[ha] at e;cases e)];exact g.kp b o e s,g.ok.tmp nF nS nZ,g.kk,g.kl,g.lZ,g.nZ⟩
theorem Rl.tmp (R:Rl K md W0 H0 W σ env H) (hb:jT md=true) (h0:H0 a=none) (nF:¬W.F a) (nS:¬W.S a) (nL:¬W.L a) (nZ:¬W.Z a) {o o':HO} (e:H a=some o) (hi:o.imm=false) (hz:∀u q,o≠ .frz u q):Rl K md W0 H0 W σ env (b7 H a o'):=by
 have ni:∀b u,H b=some u->u.imm=true->b≠a:=λb u e2 hu z=>by subst z;rw[e] at e2;cases e2;rw[hi] at hu;cases hu
 have nf:∀b,W.F b->b≠a:=λb f z=>by subst z;exact nF f
 have keep:∀ {G:Addr->Prop} {u:V} {y:PV},(∀a,G a->W.F a)->Rep G H u y->Rep G (b7 H a o') u y:=λhG r=>r.mono (λ_ h=>h) λb u h e=>by
  rw[aD (h.elim (λg=>nf b (hG b g)) (ni b u e))];exact e
 have keepB:∀ {G:Addr->Prop} {u:HO} {y:PV},(∀a,G a->W.F a)->Body G H u y->Body G (b7 H a o') u y:=λhG r=>r.mono (λ_ h=>h) λb u h e=>by
  rw[aD (h.elim (λg=>nf b (hG b g)) (ni b u e))];exact e
 refine⟨R.ok0,R.go.tmp h0 nF nS nZ,R.len,λj y ej=>?_,R.sep,R.bws,R.kk⟩
 obtain⟨u,su,ru⟩:=R.slot j y ej
 refine⟨u,su,?_⟩
 obtain⟨b1,b2,b3,b4⟩:=JD hb j
 cases hmd:md.getD j .no with
 |no=>trivial
 |bw=>exact absurd hmd b2
 |n=>exact absurd hmd b4
 |p e'=>exact absurd hmd (b3 e')
 |o e'=>exact absurd hmd (b1 e')
 |v e'=>rw[hmd] at ru;exact keep (λ_ g=>El.GF g) ru
 |st=>rw[hmd] at ru;exact ru
 | scr=>
  rw[hmd] at ru
  obtain⟨b,ns,e1,e2,z⟩:=ru
  refine⟨b,ns,e1,e2,?_⟩
  rcases z with ⟨oo,z⟩|z
  ·refine .inl ⟨oo,?_⟩
   rw[aD (λy=>?_)];exact z
   subst y
   rw[e] at z;cases z;exact hz _ _ rfl
  ·exact .inr z
 | z e'=>
  rw[hmd] at ru;obtain⟨b,ob,z1,qb⟩:=ru
  exact⟨b,ob,z1,qb.new,qb.F,by rw[aD (nf b qb.F)];exact qb.at_,keepB (λ_ g=>El.GF g) qb.its⟩
 | c e'=>
  rw[hmd] at ru;obtain⟨b,ob,z1,l,s,h,bd⟩:=ru
  exact⟨b,ob,z1,l,s,by rw[aD (λz=>by subst z;exact nL l)];exact h,keepB (λ_ g=>El.GF g) bd⟩
end
theorem A8 {α:Type} (n:Nat) (cap:List Nat) (f:Nat->α) (d0 d:α) (i:Nat):(List.replicate n d0++cap.map f).getD i d=if i<n then d0 else match cap[i-n]? with|some c=>f c|none=>d:=by
 rw[a0c]
 by_cases h:i<n
 ·rw[if_pos h,List.getElem?_append_left (by simpa using h),List.getElem?_replicate,if_pos h];rfl
 ·rw[if_neg h,List.getElem?_append_right (by simpa using h),List.length_replicate,List.getElem?_map]
  cases cap[i-n]? <;>rfl
theorem DN {K:PySem.W.Frag} {md:List Md} {W0 W:Wd} {H0 H:Hp} {σ:St} {env:b5} {n:Nat} {cap:List Nat} (R:Rl K md W0 H0 W σ env H) (L:Addr->Prop) (hL:∀a o,H a=some o->L a):Rl K (fE n cap md) {W0 with L:=L} H0 {W with L:=L} (CU n cap σ) (oW n cap env) H:=by
 have nown:∀i,((fE n cap md).getD i .no).own=false:=λi=>by
  unfold fE
  rw[A8]
  split
  ·rfl
  ·cases cap[i-n]? with
   |none=>rfl
   |some c=>dsimp only;cases md.getD c .no<;>rfl
 refine⟨⟨R.ok0.fF,R.ok0.sS,R.ok0.dj,R.ok0.zZ,R.ok0.zF,R.ok0.zS⟩,⟨R.go.lF,R.go.lS,R.go.nF,R.go.nS,R.go.kp,⟨R.go.ok.fF,R.go.ok.sS,R.go.ok.dj,R.go.ok.zZ,R.go.ok.zF,R.go.ok.zS⟩,R.go.kk,rfl,R.go.lZ,R.go.nZ⟩,by simp[CU,oW],λi x e=>?_,λi j x y a hij oi=>(by rw[nown i] at oi;cases oi),?_,R.kk⟩
 ·unfold oW at e
  by_cases hi:i<n
  ·rw[List.getElem?_append_left (by simpa using hi),List.getElem?_replicate] at e
   split at e<;>cases e
  ·rw [List.getElem?_append_right (by simpa using hi),List.length_replicate,List.getElem?_map] at e
   cases hc:cap[i-n]? with
   |none=>rw[hc] at e;cases e
   | some c=>
    rw[hc] at e
    have e':jn (lR env c)=some x:=Option.some.inj e
    rw[iO] at e'
    have ev:env[c]? =some (some x):=by
     cases q:env[c]? with
     |none=>rw[q] at e';cases e'
     |some o=>rw[q] at e';exact congrArg some e'
    obtain⟨v,sv,r⟩:=R.slot c x ev
    refine⟨v,?_,?_⟩
    ·unfold CU
     rw[List.getElem?_append_right (by simpa using hi),List.length_replicate,List.getElem?_map,hc,Option.map_some,a0c,sv];rfl
    ·unfold fE
     rw[A8,if_neg hi,hc]
     dsimp only
     cases hm:md.getD c .no with
     |o e=>rw[hm] at r;obtain⟨a,o,rfl,q⟩:=r;exact⟨a,o,rfl,hL a o q.at_,q.nS,q.at_,q.its⟩
     |v e=>rw[hm] at r;exact r
     |z e=>rw[hm] at r;obtain⟨a,o,rfl,q⟩:=r;exact⟨a,o,rfl,q.new,q.F,q.at_,q.its⟩
     |c e=>rw[hm] at r;obtain⟨a,o,rfl,_,q2,q3,q4⟩:=r;exact⟨a,o,rfl,hL a o q3,q2,q3,q4⟩
     |st=>rw[hm] at r;exact r
     |scr=>rw[hm] at r;exact r
     |_=>trivial
 ·unfold fG
  rw[Bool.or_eq_true,List.all_eq_true,List.all_eq_true]
  refine .inr λm hm=>?_
  unfold fE at hm
  rcases List.mem_append.mp hm with z|z
  ·rw[(List.mem_replicate.mp z).2];rfl
  ·obtain⟨c,_,rfl⟩:=List.mem_map.mp z
   cases md.getD c .no<;>rfl
def jI(g:hW)(tt:eS)(te:aR)(Q:PV->Prop):List PV->List PV->b5->Prop
 |[],acc,_=>Q (.lst acc)
 |x::xs,acc,env=>g x env λenv1=>tt env1 λk=>Br k (te env1 λv=>jI g tt te Q xs (acc++[v]) env1) (jI g tt te Q xs acc env1)
def qU(s:lM)(g:hW)(tt:eS)(te:aR)(cp:b5->b5):aR:=λenv Q=>s env λitems=>items.length<=sizeLine/\jI g tt te Q items [] (cp env)
def dM:eS:=λ_ Q=>Q true
structure VTs(X:Cx)(md:List Md)(ifs:List Expr)(p:eS):Prop where
 h:IT X ifs (pN X.K md p)
theorem IT.imp{X:Cx}{e:List Expr}{t t':TT}(h:IT X e t)(k:∀σ H K,t' σ H K->t σ H K):IT X e t':=λpins s σ H Q I q=>h pins s σ H Q I (k σ H Q q)
theorem dE{X:Cx}{md:List Md}:VTs X md [] dM:=⟨RC.imp λσ H K=>by
 rintro⟨env,W0,H0,W,Q,R,q,k⟩
 exact k true W H (Go.refl R.ok) q⟩
theorem lJ{X:Cx}{md:List Md}{c:Expr}{p:eS}(h:VT X md c p):VTs X md [c] p:=⟨RE h.h⟩
theorem EN {K:PySem.W.Frag} {md mb:List Md} {el eli:El} {s:lM} {g:hW} {tt:eS} {te:aR} {n:Nat} {cap:List Nat} {σ:St} {H:Hp} {Q:VK} {cp:b5->b5} (hcp:∀env,cp env=oW n cap env) (hle:iN mb (fE n cap md)=true) (hbl:jT mb=true)
  (h:eK K md (.o el) (qU s g tt te cp) σ H Q):a38 (vN K md eli s) (sD K (fE n cap md) mb eli g) (pN K mb tt) (eK K mb (.v el) te) n cap σ H Q:=by
 obtain⟨env,W0,H0,W,Q',R,q,k⟩:=h
 refine⟨env,W0,H0,W,_,R,q,λitems W1 H1 J g1 sr q1=>?_⟩
 intro acc hacc
 obtain⟨hsz,q1⟩:=q1
 rw[hcp] at q1
 have h0acc:H0 acc=none:=R.go.free (g1.free hacc)
 have R1:=R.step g1
 have Rb:=DN (n:=n) (cap:=cap) R1 (λa=>∃o,H1 a=some o) (λa o e=>⟨o,e⟩)
 generalize hW1b:({W1 with L:=λa=>∃o,H1 a=some o}:Wd)=W1b at Rb
 generalize hW0b:({W0 with L:=λa=>∃o,H1 a=some o}:Wd)=W0b at Rb
 have f1:W1b.F=W1.F:=by rw[<- hW1b]
 have s1:W1b.S=W1.S:=by rw[<- hW1b]
 have l1:¬W1b.L acc:=by rw[<- hW1b];rintro⟨o,e⟩;rw[hacc] at e;cases e
 have okb:Wok W1b H1:=Rb.ok
 have nF1:¬W1b.F acc:=λz=>okb.offF hacc z
 have nS1:¬W1b.S acc:=λz=>okb.offS hacc z
 have nZ1:¬W1b.Z acc:=λz=>okb.offZ hacc z
 have z1:W1b.Z=W1.Z:=by rw[<- hW1b]
 have gl:Go W1b H1 W1b (b7 H1 acc (.lst [])):=Go.laid okb hacc
 have exW:∀ {Wb:Wd} {Hb:Hp},Go W1b H1 Wb Hb->Ex W1 H1 Wb Hb:=λgb=>by
  have x:=gb.ex okb
  exact⟨λa h=>x.lF a (by rw[f1];exact h),λa o h e=>x.kp a o (by rw[f1];exact h) e,x.im⟩
 refine ⟨λi m σb Hb=>m=items.length-i/\i<=items.length/\∃(envb:b5) (Wb:Wd) (vs:List V) (accx:List PV),Rl K (fE n cap md) W0b H0 Wb σb envb Hb/\Go W1b H1 Wb Hb/\Hb acc=some (.lst vs)/\¬Wb.F acc/\¬Wb.S acc/\¬Wb.Z acc/\Reps (el.G Wb.F H0) Hb vs accx/\accx.length<=i/\jI g tt te Q' (items.drop i) accx envb,
  ⟨items.length,by simp,Nat.zero_le _,oW n cap env,W1b,[],[],Rb.step gl,gl,aU,nF1,nS1,nZ1,.nil,Nat.zero_le _,by simpa using q1⟩,?_⟩
 rintro i m σb Hb ⟨rfl,hi,envb,Wb,vs,accx,Rr,gb,hat,nF,nS,nZ,rs,hal,qb⟩
 by_cases hlt:i<items.length
 ·rw [List.drop_eq_getElem_cons hlt] at qb
  refine .inr ⟨sr.go i Wb Hb (exW gb) hlt,λσ' H'=>i+1<=items.length/\∃(envb:b5) (Wb:Wd) (vs:List V) (accx:List PV),Rl K (fE n cap md) W0b H0 Wb σ' envb H'/\Go W1b H1 Wb H'/\H' acc=some (.lst vs)/\¬Wb.F acc/\¬Wb.S acc/\¬Wb.Z acc/\Reps (el.G Wb.F H0) H' vs accx/\accx.length<=i+1/\jI g tt te Q' (items.drop (i+1)) accx envb,
   λσ' H' z=>⟨items.length-(i+1),by omega,rfl,z.1,z.2⟩,λv H3 y=>?_⟩
  obtain⟨g3,x,ex,rx⟩:=sr.yld i Wb Hb v H3 (exW gb) Rr.ok hlt y
  rw[a0a hlt] at ex
  cases ex
  refine⟨envb,W0b,H0,Wb,_,_,Rr.step g3,rx,qb,λenv' σ' R' z=>?_⟩
  refine⟨env',W0b,H0,Wb,_,R',z,λkk W4 H4 g4 q4=>?_⟩
  have g34:=g3.trans g4
  have hat4:=g34.kp acc _ hat nS
  have nF4:=g34.nFF hat nF
  have nS4:=g34.nSS hat nS
  have nZ4:=g34.nZZ hat nZ
  have rs4:Reps (el.G W4.F H0) H4 vs accx:=g34.reps Rr.ok (λ_ h=>El.nS Rr.ok h) (λ_ h=>El.up g34.lF (λ_ z=>z) h) rs
  cases kk with
  | false=>
   dsimp only
   rw[if_neg Bool.false_ne_true]
   exact⟨hlt,env',W4,vs,accx,(R'.step g4).less hle,gb.trans g34,hat4,nF4,nS4,nZ4,rs4,by omega,q4⟩
  | true=>
   dsimp only
   rw[if_pos rfl]
   refine⟨env',W0b,H0,W4,_,R'.step g4,q4,λw u W5 H5 g5 r5 q5=>?_⟩
   have hat5:=g5.kp acc _ hat4 nS4
   have nF5:=g5.nFF hat4 nF4
   have nS5:=g5.nSS hat4 nS4
   have nZ5:=g5.nZZ hat4 nZ4
   have rs5:Reps (el.G W5.F H0) H5 vs accx:=g5.reps g4.ok (λ_ h=>El.nS g4.ok h) (λ_ h=>El.up g5.lF (λ_ z=>z) h) rs4
   have gb5:=gb.trans (g34.trans g5)
   have nL5:¬W5.L acc:=by rw[gb5.kl];exact l1
   refine⟨vs,hat5,?_,hlt,env',W5,vs++[u],accx++[w],?_,gb5.tmp hacc nF5 nS5 nZ5,aU,nF5,nS5,nZ5,?_,?_,q5⟩
   ·have:=rs5.len;omega
   ·exact (((R'.step g4).step g5).tmp hbl h0acc nF5 nS5 nL5 nZ5 hat5 rfl (λ_ _ z=>by cases z)).less hle
   ·have:=rs5.append (.cons r5 .nil)
    refine this.mono (λ_ h=>h) λb o hh e=>?_
    rw[aD (λz=>?_)];exact e
    subst z
    rcases hh with hh|hh
    ·exact nF5 (El.GF hh)
    ·rw[hat5] at e;cases e;cases hh
   ·simp;omega
 ·have e:i=items.length:=by omega
  subst e
  rw[List.drop_length] at qb
  refine .inl ⟨sr.stop Wb Hb (exW gb),?_⟩
  have gf:Go W H {Wb with L:=W.L} Hb:=by
   have a:=g1
   refine⟨λb h=>gb.lF b (by rw[f1];exact a.lF b h),λb h=>gb.lS b (by rw[s1];exact a.lS b h),λb h=>?_,λb h=>?_,λb o e s=>?_,⟨gb.ok.fF,gb.ok.sS,gb.ok.dj,gb.ok.zZ,gb.ok.zF,gb.ok.zS⟩,?_,rfl,λb h=>gb.lZ b (by rw[z1];exact a.lZ b h),λb h=>?_⟩
   ·rcases gb.nF b h with z|z
    ·exact a.nF b (by rw[<- f1];exact z)
    ·exact .inr (a.free z)
   ·rcases gb.nS b h with z|z
    ·exact a.nS b (by rw[<- s1];exact z)
    ·exact .inr (a.free z)
   ·refine gb.kp b o (a.kp b o e s) ?_
    rw[s1];exact a.nSS e s
   ·show Wb.K=W.K
    rw[gb.kk,<- hW1b];exact a.kk
   ·rcases gb.nZ b h with z|z
    ·exact a.nZ b (by rw[<- z1];exact z)
    ·exact .inr (a.free z)
  exact k (.lst accx) (.ref acc) _ Hb gf ⟨acc,_,rfl,g1.free hacc,nF,nS,hat,.lst rs,nZ⟩ qb
section
variable{X:Cx}{elt target iter:Expr}{ifs:List Expr}{scope:Scope}{pos:Pos}{N':List Str}{n:Nat}{cap:List Nat}{md mb:List Md}{el eli:El}{s:lM}{g:hW}{tt:eS}{te:aR}
theorem a1N {cp:b5->b5} (hcp:∀env,cp env=oW n cap env) (hc:X.calm=true) (S:LcOk X.N X.env.scope scope N' n cap) (hle:iN mb (fE n cap md)=true) (hbl:jT mb=true) (hi:VI X md eli target iter s) (hg:∀C s H fp,VG (aS X N' scope C s H fp) (fE n cap md) mb eli target g)
  (ht:∀C s H fp,VTs (aS X N' scope C s H fp) mb ifs tt) (he:∀C s H fp,VE (aS X N' scope C s H fp) mb elt (.v el) te) (hs:∀x,foldedSetIterable iter X.env x=pure x:=by intro _;rfl) :
  VE X md (.ListComp elt [⟨target,iter,ifs,0⟩] scope pos) (.o el) (qU s g tt te cp):=
 ⟨(a0J hc S hi.h (λC s H fp=>(hg C s H fp).h) (λC s H fp=>(ht C s H fp).h) (λC s H fp=>(he C s H fp).h) hs).imp λσ H Q h=>EN hcp hle hbl h⟩
end
theorem Cal.imp{P:Program}{w:World}{K:PySem.W.Frag}{mg:Str->Option Value}{base:Heap}{k:Nat}{x:Str}{ps:List Str}{sp sp':Sp}(C:Cal P w K mg base k x ps sp)(h:∀vs H Q E,sp' vs H Q E->sp vs H Q E):Cal P w K mg base k x ps sp':=by
 obtain⟨f,fd,a,b,c,l,d⟩:=C.ex
 exact⟨f,fd,a,b,c,l,d.imp h⟩
def EW:PN:=λxs R=>match xs with
 |[.st,.int m]=>0<m/\m<2^250/\∀r:Int,0<=r->r<m->R (.int r)
 |_=>False
def D9:PN:=λxs R=>match xs with
 |[.scr _,.int k]=>0<=k/\k<1000000/\R .st
 |_=>False
theorem Go.state {W:Wd} {H:Hp} {p:Addr} {a b c:Int} (w:Wok W H) (hs:W.S p) (ok:StOk a b c):Go W H W (b7 H p (O0 a b c)) where
 lF:=λ_ h=>h
 lS:=λ_ h=>h
 nF:=λ_ h=>.inl h
 nS:=λ_ h=>.inl h
 kp:=λq o e s=>by rw[aD (λz=>by subst z;exact s hs)];exact e
 ok:=⟨λq f=>by rw[aD (λz=>by subst z;exact w.dj q f hs)];exact w.fF q f,λq f=>by
  by_cases h:q=p
  ·subst h;exact⟨a,b,c,aU,ok⟩
  ·obtain⟨x1,x2,x3,e,z⟩:=w.sS q f
   exact⟨x1,x2,x3,by rw[aD h];exact e,z⟩,w.dj,λq f=>by rw[aD (λz=>by subst z;exact w.zS q f hs)];exact w.zZ q f,w.zF,w.zS⟩
 kk:=rfl
 kl:=rfl
 lZ:=λ_ h=>h
 nZ:=λ_ h=>.inl h
section
variable{P:Program}{w:World}{K:Aa}{mg:Str->Option Value}{base:Heap}{k:Nat}{x:Str}{ps:List Str}
theorem JQ (C:Cal P w K mg base k x ps N3):Cal P w K mg base k x ps (NR K [.st,.bw] (.v .fl) EW):=C.imp λvs H Q E h=>by
 obtain⟨xs,W,R,hk,wk,r,q,kk⟩:=h
 obtain⟨v,x,u,y,rfl,rfl,r1,r2⟩:=r.two
 obtain⟨p,rfl,rfl,hs⟩:=r1
 unfold EW at q
 cases y with
 | int m=>
  obtain⟨a,b,c,e,ok⟩:=wk.sS p hs
  rw[Rep.ofInt r2]
  exact⟨p,m,a,b,c,rfl,e,ok,q.1,q.2.1,λr a' b' c' h0 h1 ok'=>kk _ _ W _ (Go.state wk hs ok') (.int _) (q.2.2 r h0 h1)⟩
 |_=>exact q.elim
theorem G9 (C:Cal P w K mg base k x ps (FE K)):Cal P w K mg base k x ps (NR K [.scr,.bw] .st D9):=C.imp λvs H Q E h=>by
 obtain⟨xs,W,R,hk,wk,r,q,kk⟩:=h
 obtain⟨v,x,u,y,rfl,rfl,r1,r2⟩:=r.two
 obtain⟨p,ns,rfl,rfl,hs⟩:=r1
 unfold D9 at q
 cases y with
 | int m=>
  rw[Rep.ofInt r2]
  rw[hk] at hs
  refine⟨p,m,ns,rfl,hs.sq,q.1,q.2.1,λs a b c hn ok=>?_⟩
  have g0:Go W H W (b7 H s (O0 a b c)):=Go.laid wk hn
  refine kk .st (.ref s) {W with S:=λb=>W.S b\/b=s} _ ⟨λ_ h=>h,λ_ h=>.inl h,λ_ h=>.inl h,λb h=>h.elim .inl λz=>.inr (by rw[z];exact hn),λb o e hb=>g0.kp b o e hb,⟨g0.ok.fF,λz h=>?_,λb f h=>?_,g0.ok.zZ,g0.ok.zF,λb f h=>h.elim (g0.ok.zS b f) λz=>by subst z;exact wk.offZ hn f⟩,rfl,rfl,λ_ h=>h,λ_ h=>.inl h⟩ ⟨s,rfl,rfl,.inr rfl⟩ q.2.2
  ·rcases h with h|h
   ·exact g0.ok.sS z h
   ·subst h;exact⟨a,b,c,aU,ok⟩
  ·rcases h with h|h
   ·exact wk.dj b f h
   ·subst h;exact wk.offF hn f
 |_=>exact q.elim
def yU(K:Aa):Sp:=λvs H Q _=>∃(a:Ac) (ns:List Int),vs=[.ref a]/\ScrAt K H a ns/\ns.length<=63/\∀H',Q (.bl true) H'
theorem MY{H:Hp}{a:Addr}{ns:List Int}(h:cS K H a (ns.map V.int))(o:O4 H):ScrAt K H a ns:=by
 rcases h with (h|h)|h
 ·rcases o a with z|⟨u,q,z⟩|z<;>(rw[z] at h;cases h)
 ·exact .inl h
 ·exact .inr h
theorem OJ{p:PN}(C:Cal P w K mg base k x ps (NR K [.scr] (.v .fl) p))(h:∀ns:List Int,ns.length<=63->p [.scr ns] λr=>r= .bl true):Cal P w K mg base k x ps (yU K):=C.imp λvs H Q E z=>by
 obtain⟨a,ns,rfl,hs,hl,q⟩:=z
 refine⟨[.scr ns],⟨K,λ_=>False,λ_=>False,λ_=>False,λ_=>False⟩,_,rfl,⟨λ_ z=>z.elim,λ_ z=>z.elim,λ_ z=>z.elim,λ_ z=>z.elim,λ_ z=>z.elim,λ_ z=>z.elim⟩,.cons ⟨a,ns,rfl,rfl,hs⟩ .nil,h ns hl,λx v W' H' _ r e=>?_⟩
 subst e
 rw[Rep.ofBl r]
 exact q H'
end
section
variable{X:Cx}{md:List Md}{el:El}{i:Nat}{tg:Expr}
theorem NM(h:QG X tg (jV i))(hm:fG (md.set i (.v el))=true)(hl:i<md.length):VG X md (md.set i (.v el)) el tg (aF i):=⟨h.h.imp λv σ H Q=>by
 rintro⟨env,W0,H0,W,x,R,Rr,r,q,k⟩
 unfold aF at q
 rw[dD] at q
 exact k _ _ (Rr.set (Go.refl Rr.ok) (m:=.v el) r hm hl) q⟩
end
def AU:P2:=AR λi j=>.bl (!decide (i=j))
theorem JX{i j:Int}:decide (V.int i=V.int j)=decide (i=j):=by
 by_cases h:i=j
 ·subst h;simp
 ·rw[decide_eq_false h,decide_eq_false (λz=>h (V.int.inj z))]
theorem qY:SimOp a30 (.v .fl) AU:=⟨λB W H x y px py Q K w rx ry q k=>by
 cases px with
 | int i=>cases py with
  |int j=>refine⟨by rw[rx.ofInt,ry.ofInt];rfl,?_⟩;rw[rx.ofInt,ry.ofInt,JX];exact k.atom w (.bl _) q
  |_=>exact q.elim
 |_=>exact q.elim⟩
def eE:P2:=AR λi j=>.int (i+j)
def kM:P2:=AR λi j=>.int (i-j)
def AT:P2:=pI wN λi j=>.int (i*j)
def vR:P2:=pI uA λi j=>.int (i^j.toNat)
def LQ:P2:=AR λi j=>.bl (decide (i<j))
def yA:P2:=AR λi j=>.bl (decide (i<=j))
def AQ:P2:=AR λi j=>.bl (decide (j<i))
def lU:PV->(PV->Prop)->Prop:=pU λi=>.int (-i)
section
variable{X:Cx}{md:List Md}{a:Expr}{pa:aR}{pos:Pos}
theorem pF(ha:VE X md a .bw pa):VE X md (.UnaryOp .USub a pos) (.v .fl) (LZ lU pa):=a1O FA (λB W H x px Q K w r q k=>by
 cases px with
 |int i=>exact⟨i,r.ofInt,k.atom w (.int _) q⟩
 |_=>exact q.elim) ha
theorem mN:SimOp (uP λi j=>.int (i+j)) (.v .fl) eE:=MZ
theorem DO:SimOp (uP λi j=>.int (i-j)) (.v .fl) kM:=MZ
theorem a34:SimOp (rI wN λi j=>.int (i*j)) (.v .fl) AT:=TL
theorem a17:SimOp (rI uA λi j=>.int (i^j.toNat)) (.v .fl) vR:=TL
theorem a40:SimOp (uP λi j=>.bl (decide (i<j))) (.v .fl) LQ:=DP
theorem a16:SimOp (uP λi j=>.bl (decide (i<=j))) (.v .fl) yA:=DP
theorem a1Y:SimOp (uP λi j=>.bl (decide (j<i))) (.v .fl) AQ:=DP
end
theorem HA{G:Addr->Prop}{H:Hp}(m:Nat):Reps G H (pL m) (c4 0 m):=by
 have:pL m=((List.range m).map λ(i:Nat)=>(i:Int)).map V.int:=by simp[pL]
 have h2:c4 0 m=((List.range m).map λ(i:Nat)=>(i:Int)).map PV.int:=by simp[c4]
 rw[this,h2];exact p3 _
def sM(a:aR):aR:=λenv Q=>a env λx=>match x with
 |.int j=>0<=j/\j<=1000/\Q (.lst (c4 0 j.toNat))
 |_=>False
section
variable{X:Cx}{md:List Md}{a:Expr}{pa:aR}{p1 p2 pos1 pos2:Pos}
theorem NL (hc:X.calm=true) (hg:X.env.scope.names.lookup ("list" : Str)=some .globalImplicit) (hm:X.mg "list"=none) (hg2:X.env.scope.names.lookup ("range" : Str)=some .globalImplicit) (hm2:X.mg "range"=none) (ha:VE X md a .bw pa)
  (he:starEach [a] X.env=(false,eval a X.env)::starEach [] X.env:=by rfl) (hpl:(backTo pos2 (starEach [] X.env)).any (·.1)=false:=by rfl)
  (he1:starEach [.Call (.Name "range" p2) [a] [] pos2] X.env=(false,eval (.Call (.Name "range" p2) [a] [] pos2) X.env)::starEach [] X.env:=by rfl) (hpl1:(backTo pos1 (starEach [] X.env)).any (·.1)=false:=by rfl) :
  VE X md (.Call (.Name "list" p1) [.Call (.Name "range" p2) [a] [] pos2] [] pos1) (.o .fl) (sM pa):=
 ⟨(gF (OH hc) hg hm qP (dP (gF OI hg2 hm2 JK (dP ha.h gR he) (by decide) (by decide) he hpl) gR he1) (by decide) (by decide) he1 hpl1).imp λσ H K=>by
  rintro⟨env,W0,H0,W,Q,R,q,k⟩
  refine⟨env,W0,H0,W,_,R,q,λx v W1 H1 g1 r1 q1=>?_⟩
  cases x with
  | int j=>
   have hv:=Rep.ofInt r1
   subst hv
   refine⟨j,rfl,λp hp=>⟨p,j,rfl,aU,⟨q1.1,q1.2.1⟩,λl hl=>?_⟩⟩
   have g2:Go W1 H1 W1 (b7 H1 p (.rng 0 j)):=Go.laid g1.ok hp
   exact (k.after (g1.trans g2)).newL g2.ok hl (HA _) q1.2.2
  |_=>exact q1.elim⟩
end
open PySem
def wW(xs:Array Nat):Prop:=xs.toList.Pairwise (· < ·)
theorem wW.lt{xs:Array Nat}(h:wW xs){i k:Nat}{a b:Nat}(hik:i<k)(ha:xs[i]? =some a)(hb:xs[k]? =some b):a<b:=by
 unfold wW at h
 rw[List.pairwise_iff_getElem] at h
 rw[<- Array.getElem?_toList] at ha hb
 obtain⟨h1,rfl⟩:=List.getElem?_eq_some_iff.mp ha
 obtain⟨h2,rfl⟩:=List.getElem?_eq_some_iff.mp hb
 exact h i k h1 h2 hik
theorem rH (xs:Array Nat) (j:Nat) (hr:wW xs):∀(fuel lo hi:Nat),lo<=hi->hi<=xs.size->hi-lo<=fuel->(∀i a,i<lo->xs[i]? =some a->a<j)->(∀i a,hi<=i->xs[i]? =some a->j<=a)->
  SetTable.below.go xs j fuel lo hi<=xs.size/\(∀i a,i<SetTable.below.go xs j fuel lo hi->xs[i]? =some a->a<j)/\∀i a,SetTable.below.go xs j fuel lo hi<=i->xs[i]? =some a->j<=a
 | 0,lo,hi,h1,h2,h3,h4,h5=>by
  have:lo=hi:=by omega
  subst this
  rw[SetTable.below.go]
  exact⟨h2,h4,h5⟩
 | fuel+1,lo,hi,h1,h2,h3,h4,h5=>by
  rw[SetTable.below.go]
  by_cases hlt:lo<hi
  ·rw [if_pos hlt]
   dsimp only
   have hm:(lo+hi) / 2<xs.size:=by omega
   have hg:xs.getD ((lo+hi) / 2) j=xs[(lo+hi) / 2]:=by simp[Array.getD,hm]
   rw[hg]
   by_cases hc:xs[(lo+hi) / 2]<j
   ·rw [if_pos hc]
    refine rH xs j hr fuel ((lo+hi) / 2+1) hi (by omega) h2 (by omega) (λi a hi' ha=>?_) h5
    by_cases hi2:i=(lo+hi) / 2
    ·subst hi2
     rw[Array.getElem?_eq_getElem hm] at ha
     cases ha;exact hc
    ·exact Nat.lt_trans (hr.lt (by omega:i<(lo+hi) / 2) ha (Array.getElem?_eq_getElem hm)) hc
   ·rw [if_neg hc]
    refine rH xs j hr fuel lo ((lo+hi) / 2) (by omega) (by omega) (by omega) h4 (λi a hi' ha=>?_)
    by_cases hi2:i=(lo+hi) / 2
    ·subst hi2
     rw[Array.getElem?_eq_getElem hm] at ha
     cases ha;omega
    ·have:=hr.lt (by omega:(lo+hi) / 2<i) (Array.getElem?_eq_getElem hm) ha
     omega
  ·rw[if_neg hlt]
   have:lo=hi:=by omega
   subst this
   exact⟨h2,h4,h5⟩
theorem rK {xs:Array Nat} (hr:wW xs) (j:Nat):SetTable.below xs j<=xs.size/\(∀i a,i<SetTable.below xs j->xs[i]? =some a->a<j)/\∀i a,SetTable.below xs j<=i->xs[i]? =some a->j<=a:=
 rH xs j hr xs.size 0 xs.size (Nat.zero_le _) (Nat.le_refl _) (by omega) (λi a h=>by omega) λi a h ha=>by
  have:=(Array.getElem?_eq_some_iff.mp ha).1
  omega
theorem rL{xs:Array Nat}(hr:wW xs):SetTable.below xs 0=0:=by
 obtain⟨h1,h2,_⟩:=rK hr 0
 refine Nat.eq_zero_of_not_pos λh=>?_
 have:=h2 0 xs[0] h (Array.getElem?_eq_getElem (by omega))
 omega
theorem rJ {xs:Array Nat} (hr:wW xs) {i j:Nat} (h:xs[i]? =some j):SetTable.below xs (j+1)=i+1:=by
 obtain⟨h1,h2,h3⟩:=rK hr (j+1)
 have hi:i<xs.size:=(Array.getElem?_eq_some_iff.mp h).1
 refine Nat.le_antisymm (Nat.le_of_not_lt λhlt=>?_) (Nat.le_of_not_lt λhlt=>?_)
 ·have hs:i+1<xs.size:=by omega
  have a1:=h2 (i+1) _ hlt (Array.getElem?_eq_getElem hs)
  have a2:=hr.lt (Nat.lt_succ_self i) h (Array.getElem?_eq_getElem hs)
  omega
 ·have:=h3 i j (by omega) h
  omega
theorem DM {xs:Array Nat} (hr:wW xs) {j:Nat} (hj:xs[SetTable.below xs j]? ≠some j):wW (SetTable.insertAt xs (SetTable.below xs j) j):=by
 obtain⟨h1,h2,h3⟩:=rK hr j
 unfold wW SetTable.insertAt
 have e1:(xs.extract 0 (SetTable.below xs j)).toList=xs.toList.take (SetTable.below xs j):=by simp
 have e2:(xs.extract (SetTable.below xs j) xs.size).toList=xs.toList.drop (SetTable.below xs j):=by
  simp[Array.toList_extract]
  apply List.take_of_length_le
  simp
 rw[Array.toList_append,Array.toList_push,e1,e2]
 have hp:xs.toList.Pairwise (· < ·):=hr
 have ha:∀a∈xs.toList.take (SetTable.below xs j),a<j:=λa ha=>by
  obtain⟨i,hi,rfl⟩:=List.getElem_of_mem ha
  rw[List.length_take] at hi
  refine h2 i _ (by omega) ?_
  rw[List.getElem_take,<- Array.getElem?_toList]
  exact a0a _
 have hb:∀b∈xs.toList.drop (SetTable.below xs j),j<b:=λb hb=>by
  obtain⟨i,hi,rfl⟩:=List.getElem_of_mem hb
  rw[List.length_drop] at hi
  rw[List.getElem_drop]
  have hlt:SetTable.below xs j+i<xs.toList.length:=by omega
  have g:xs[SetTable.below xs j+i]? =some (xs.toList[SetTable.below xs j+i]):=by rw[<- Array.getElem?_toList];exact a0a _
  have a1:=h3 _ _ (Nat.le_add_right _ _) g
  refine Nat.lt_of_le_of_ne a1 λz=>?_
  cases i with
  |zero=>exact hj ((show xs[SetTable.below xs j]? =_ from g).trans (congrArg some z.symm))
  | succ i=>
   have hs:SetTable.below xs j<xs.size:=by simp at hlt;omega
   have a2:=h3 _ _ (Nat.le_refl _) (Array.getElem?_eq_getElem hs)
   have a3:=hr.lt (by omega:SetTable.below xs j<SetTable.below xs j+(i+1)) (Array.getElem?_eq_getElem hs) g
   omega
 rw[List.pairwise_append,List.pairwise_append]
 refine⟨⟨hp.sublist (List.take_sublist _ _),by simp,λa h b hb'=>by simp at hb';subst hb';exact ha a h⟩,hp.sublist (List.drop_sublist _ _),λa h b hb'=>?_⟩
 rcases List.mem_append.mp h with z|z
 ·exact Nat.lt_trans (ha a z) (hb b hb')
 ·simp at z;subst z;exact hb b hb'
def IU(bt:Bool)(t:SetTable):Prop:=bt=true\/(t.led=true/\(t.plain=true->wW t.place))
theorem BG{t:SetTable}{j:Nat}(h:∀i,t.slot j≠ .live i):t.place[SetTable.below t.place j]? ≠some j:=λe=>by
 refine h (SetTable.below t.place j) ?_
 unfold SetTable.slot
 dsimp only
 rw[if_pos (by rw[e];simp)]
theorem sZ {t:SetTable} {f:Nat->Int} {h:Int}:∀(fuel:Nat) (p:SetTable.Probe) (j:Nat) (d:Option Nat),SetTable.probe.go t f h fuel p=some (.empty j d)->(∀x,p.dummy=some x->∀i,t.slot x≠ .live i)->
  (∀i,t.slot j≠ .live i)/\∀x,d=some x->∀i,t.slot x≠ .live i
 |0,p,j,d,e,_=>by rw[SetTable.probe.go] at e;cases e
 | fuel+1,p,j,d,e,hp=>by
  rw[SetTable.probe.go] at e
  cases hs:t.slot p.j with
  | empty=>
   rw[hs] at e
   simp only[Option.some.injEq,SetTable.Met.empty.injEq] at e
   obtain⟨e1,e2⟩:=e
   subst e1 e2
   exact⟨λi z=>(by rw[hs] at z;cases z),hp⟩
  | dummy=>
   rw[hs] at e
   refine sZ fuel _ j d e λx hx i=>?_
   have:(t.advance {p with dummy:=some p.j}).dummy=some p.j:=by
    unfold SetTable.advance
    split<;>rfl
   rw[this] at hx
   cases hx
   rw[hs];intro z;cases z
  | live k=>
   rw[hs] at e
   dsimp only at e
   split at e
   ·cases e
   ·refine sZ fuel _ j d e λx hx=>hp x ?_
    have:(t.advance p).dummy=p.dummy:=by
     unfold SetTable.advance
     split<;>rfl
    rw[this] at hx;exact hx
theorem xO {t:SetTable} {h:Int} {j:Nat} {b:Bool} (e:t.freeSlot h=some (j,b)):t.place[SetTable.below t.place j]? ≠some j:=by
 unfold SetTable.freeSlot at e
 split at e
 ·rename_i j' d hp
  have:=sZ _ _ _ _ (show SetTable.probe.go t _ h _ _=_ from hp) (λx hx=>by cases hx)
  simp only[Option.some.injEq,Prod.mk.injEq] at e
  obtain⟨e1,e2⟩:=e
  cases d with
  |none=>simp at e1;subst e1;exact BG this.1
  |some x=>simp at e1;subst e1;exact BG (this.2 _ rfl)
 ·cases e
theorem HH {bt:Bool} {t:SetTable} {es:Array (Int×Value)} {h:Int} {x:Value} (hw:IU bt t):IU bt (layNew t es h x).2.1:=by
 rcases hw with hw|⟨hl,hp⟩
 ·exact .inl hw
 ·refine .inr ?_
  unfold layNew
  cases e:t.freeSlot h with
  |none=>exact⟨hl,λz=>by cases z⟩
  | some q=>
   obtain⟨j,b⟩:=q
   dsimp only
   unfold SetTable.orStandIn
   split
   ·exact⟨hl,λz=>DM (hp z) (xO e)⟩
   ·exact⟨hl,λz=>by cases z⟩
theorem AA {mask finger moves:Nat} {led plain:Bool} {hs:Array Int} {t:SetTable} {o:Array Nat} (e:SetTable.laid mask finger moves led plain hs=some (t,o)):t.led=led/\t.plain=plain/\wW t.place:=by
 unfold SetTable.laid at e
 cases h:SetTable.layClean mask hs with
 |none=>rw[h] at e;cases e
 | some owner=>
  rw[h] at e
  simp only[Option.pure_def,Option.bind_eq_bind,Option.bind_some,Option.some.injEq,Prod.mk.injEq] at e
  obtain⟨e1,e2⟩:=e
  subst e1
  refine⟨rfl,rfl,?_⟩
  unfold wW
  dsimp only
  show ((_:List Nat)).Pairwise _
  rw[List.pairwise_map]
  rw[List.pairwise_filterMap]
  refine List.pairwise_lt_range.imp fun {a b} hab x hx y hy=>?_
  simp only[Option.map_eq_some_iff] at hx hy
  obtain⟨_,_,rfl⟩:=hx
  obtain⟨_,_,rfl⟩:=hy
  exact hab
theorem B9 {bt:Bool} {t:SetTable} {es:Array (Int×Value)} {n:Nat} (hw:IU bt t):IU bt (relayAll t es n).2.1:=by
 rcases hw with hw|⟨hl,hp⟩
 ·exact .inl hw
 ·refine .inr ?_
  unfold relayAll
  cases e:t.relaid (es.map (·.1)) n with
  |none=>exact⟨hl,λz=>by cases z⟩
  | some q=>
   obtain⟨t',order⟩:=q
   dsimp only
   obtain⟨a1,a2,a3⟩:=AA (show SetTable.laid _ _ _ _ _ _=_ from e)
   split
   ·exact⟨a1.trans hl,λ_=>a3⟩
   ·exact⟨hl,λz=>by cases z⟩
def cA:Value->Int
 |.int k _=>k
 |_=>0
def bC (P:Program) (w:World) (a:Addr) (S:Int->Bool) (n:Nat) (h:Heap):Prop:=
 ∃ o es ep t,h.get? a=some o/\o.ExactSet/\o.data= .set es ep t/\ElemsOf (intKind P w) es.toList/\(∀k,S k=true↔∃e∈es.toList,(intKind P w).is k e.2=true)/\es.size<scanBound/\t.fits es.size=true/\es.size=n/\
  IU (w.params.followText "set-order") t/\(es.toList.map λe=>cA e.2).Nodup
section
variable{prog:Program}{w:World}{A:Around}{E:Value->Ab->Prop}{s:Ab}
theorem cB{k:Int}{v:Value}(h:(intKind prog w).is k v=true):∃t,v= .int k t:=Value.isInt_shape (k:=k) (v:=v) h
theorem uY {g:Bool->Sem Unit} (hg:∀(b:Bool) (s₁:Shared) (Q':Unit->Shared->Prop),Q' () s₁->wpAny (model prog w) A (g b) Q' E s₁)
  {a:Ac} {o:Obj} {es:Array (Int×Value)} {ep:Nat} {t:SetTable} (ho:s.heap.get? a=some o) (hex:o.ExactSet) (hd:o.data= .set es ep t)
  {es1:Array (Int×Value)} {t2:SetTable} {S':Int->Bool} (hel1:ElemsOf (intKind prog w) es1.toList) (hmem1:∀k',S' k'=true↔∃e∈es1.toList,(intKind prog w).is k' e.2=true)
  (hb1:es1.size<scanBound) (hf2:t2.fits es1.size=true) (hw2:IU (w.params.followText "set-order") t2) (hnd:(es1.toList.map λe=>cA e.2).Nodup) {wasDummy:Bool} {R:Option Bool->Ab->Prop}
  (h:∀h',Heap.SameBut a s.heap h'->bC prog w a S' es1.size h'->R (some true) {s with heap:=h'}) :
  wpAny (model prog w) A (do
    storeSet a es1 t2
    if (!wasDummy&&t2.tooFull)=true then do
      g (relayAll t2 es1 (SetTable.grown es1.size)).2.2
      storeSet a (relayAll t2 es1 (SetTable.grown es1.size)).1 (relayAll t2 es1 (SetTable.grown es1.size)).2.1
      pure (some true)
     else pure (some true)) R E s:=by
 refine a0b (wpAny_storeSet_of ho hd ?_ (fits_of_scanBound hb1))
 obtain⟨ho1,hS1⟩:=SetOf_store (knd:=intKind prog w) ho hex hd hel1 hmem1 hb1 hf2
 have hsb1:=Heap.SameBut.update s.heap a (Obj.putSet es1 t2)
 split
 ·have hp:=relayAll_perm t2 es1 (SetTable.grown es1.size)
  have hfr:=relayAll_fits t2 es1 (SetTable.grown es1.size)
  have hwr:IU (w.params.followText "set-order") (relayAll t2 es1 (SetTable.grown es1.size)).2.1:=B9 hw2
  generalize hRl:relayAll t2 es1 (SetTable.grown es1.size)=Rl at hp hfr hwr ⊢
  obtain⟨es2,t3,gave2⟩:=Rl
  dsimp only at hp hfr hwr ⊢
  have hel2:ElemsOf (intKind prog w) es2.toList:=hel1.perm hp
  have hmem2:∀k',S' k'=true↔∃e∈es2.toList,(intKind prog w).is k' e.2=true:=λk'=>(hmem1 k').trans ⟨λ⟨e,he,q⟩=>⟨e,hp.mem_iff.mpr he,q⟩,λ⟨e,he,q⟩=>⟨e,hp.mem_iff.mp he,q⟩⟩
  have hsz:es2.size=es1.size:=by rw[<- Array.length_toList,hp.length_eq,Array.length_toList]
  have hb2:es2.size<scanBound:=by rw[hsz];exact hb1
  refine a0b (hg _ _ _ ?_)
  refine a0b (wpAny_storeSet_of ho1 rfl ?_ (fits_of_scanBound hb2))
  obtain⟨ho2,_⟩:=SetOf_store (knd:=intKind prog w) ho1 hex rfl hel2 hmem2 hb2 hfr
  exact a0d (h _ (hsb1.trans (Heap.SameBut.update _ a _)) ⟨_,es2,_,t3,ho2,hex,rfl,hel2,hmem2,hb2,hfr,hsz,hwr,(hp.map _).nodup_iff.mpr hnd⟩)
 ·exact a0d (h _ hsb1 ⟨_,es1,_,t2,ho1,hex,rfl,hel1,hmem1,hb1,hf2,rfl,hw2,hnd⟩)
theorem kF {a:Addr} {S:Int->Bool} {n:Nat} {k:Int} {x:Value} {Q:Bool->Shared->Prop} (hkey:(intKind prog w).is k x=true) (hsc:x.scannable=true) (hS:bC prog w a S n s.heap)
  (hroom:n+1<scanBound)
  (h:∀h',Heap.SameBut a s.heap h'->bC prog w a (λk'=>S k'||decide (k'=k)) (if S k then n else n+1) h'->Q (!S k) {s with heap:=h'}) :
  wpAny (model prog w) A (setAddHashed a x ((intKind prog w).hash k)) Q E s:=by
 obtain⟨o,es,ep,t,ho,hex,hd,hel,hmem,hb,hf,hn,hwk,hnd⟩:=hS
 have hb1:es.size+1<scanBound:=by rw[hn];exact hroom
 unfold setAddHashed setAddHashedIn
 refine wpAny_holding (a0b (wpAny_setState_of ho hd hf ?_))
 dsimp only
 rw[byScan_of hsc hb hel]
 simp only[↓reduceIte]
 unfold setAddByScan
 refine a0b ?_
 refine a0b (wpAny_rule ?_)
 refine a0b (wpAny_setScan_of hkey ho hd hf hel ?_)
 cases hr:List.findIdx? (λe=>(intKind prog w).is k e.2) es.toList with
 | some j=>
  dsimp only
  obtain⟨hj,hpj,_⟩:=List.findIdx?_eq_some_iff_getElem.mp hr
  have hSk:S k=true:=(hmem k).mpr ⟨es.toList[j],List.getElem_mem hj,hpj⟩
  refine a0d (a0d ?_)
  have e:s={s with heap:=s.heap}:=by cases s;rfl
  have:=h s.heap (Heap.SameBut.refl a s.heap) ⟨o,es,ep,t,ho,hex,hd,hel,λk'=>by
   rw[Bool.or_eq_true,decide_eq_true_eq,<- hmem k']
   exact⟨λhk=>hk.elim id (λe=>e▸hSk),.inl⟩,hb,hf,by rw[hSk];exact hn,hwk,hnd⟩
  rw[hSk] at this;rw[e];exact this
 | none=>
  dsimp only
  have hSk:S k=false:=by
   cases hk:S k with
   |false=>rfl
   |true=>obtain⟨e,he,hp⟩:=(hmem k).mp hk;have:=List.findIdx?_eq_none_iff.mp hr e he;rw[hp] at this;exact Bool.noConfusion this
  have hgw:∀(b:Bool) {s₁:Shared} {Q':Unit->Shared->Prop},Q' () s₁->wpAny (model prog w) A (match b with|true=>rule "set.scan.the-table-gave-way" |false=>pure ()) Q' E s₁:=
   λb s₁ Q' hq=>by cases b<;>first|exact a0d hq|exact wpAny_rule hq
  have hperm:=layNew_perm t es ((intKind prog w).hash k) x
  have hfits:=layNew_fits t es ((intKind prog w).hash k) x
  have hwk1:IU (w.params.followText "set-order") (layNew t es ((intKind prog w).hash k) x).2.1:=HH hwk
  generalize hL:layNew t es ((intKind prog w).hash k) x=L at hperm hfits hwk1 ⊢
  obtain⟨es1,t1,wasDummy,gave⟩:=L
  dsimp only at hperm hfits hwk1 ⊢
  rw[Array.toList_push] at hperm
  have hel1:ElemsOf (intKind prog w) es1.toList:=(hel.push hkey hsc).perm hperm
  have hmem1:∀k',(S k'||decide (k'=k))=true↔∃e∈es1.toList,(intKind prog w).is k' e.2=true:=mem_push_iff hkey hmem hperm
  have hb1':es1.size<scanBound:=by rw[<- Array.length_toList,hperm.length_eq,List.length_append,Array.length_toList];simpa using hb1
  have hnd1:(es1.toList.map λe=>cA e.2).Nodup:=by
   rw[(hperm.map λe=>cA e.2).nodup_iff,List.map_append,List.nodup_append]
   refine⟨hnd,by simp,λa ha b hb'=>?_⟩
   simp only[List.map_cons,List.map_nil,List.mem_singleton] at hb'
   subst hb'
   obtain⟨tx,rfl⟩:=cB hkey
   obtain⟨e,he,rfl⟩:=List.mem_map.mp ha
   obtain⟨⟨k2,hk2,_⟩,_⟩:=hel e he
   obtain⟨t2,e2⟩:=cB hk2
   rw[e2]
   intro z
   have z':k2=k:=z
   subst z'
   have:=(hmem k2).mpr ⟨e,he,hk2⟩
   rw[hSk] at this;cases this
  refine a0b (hgw _ ?_)
  have hsz1:es1.size=n+1:=by rw[<- Array.length_toList,hperm.length_eq,List.length_append,Array.length_toList,hn];rfl
  have hend:∀h',Heap.SameBut a s.heap h'->bC prog w a (λk'=>S k'||decide (k'=k)) es1.size h'->Q true {s with heap:=h'}:=by
   intro h' hsb hS';have:=h h' hsb;rw[hSk] at this;rw[hsz1] at hS';exact this hS'
  split
  ·refine a0b ?_
   rw[hashByValue_scannable 8 hsc]
   refine a0d ?_
   refine uY ?_ ho hex hd hel1 hmem1 hb1' ?_ ?_ hnd1 ?_
   ·intro b s₁ Q' hq;cases b<;>first|exact a0d hq|exact wpAny_rule hq
   ·split
    ·exact hfits
    ·exact SetTable.fits_plain_off hfits
   ·split
    ·exact hwk1
    ·exact hwk1.imp id λz=>⟨z.1,λq=>by cases q⟩
   ·intro h' hsb hS';dsimp only;exact a0d (hend h' hsb hS')
  ·refine a0b (a0d ?_)
   simp only[↓reduceIte]
   refine uY ?_ ho hex hd hel1 hmem1 hb1' hfits hwk1 hnd1 ?_
   ·intro b s₁ Q' hq;cases b<;>first|exact a0d hq|exact wpAny_rule hq
   ·intro h' hsb hS';dsimp only;exact a0d (hend h' hsb hS')
theorem LH {Q:Value->Shared->Prop}
  (h:∀o:Obj,bC prog w s.heap.objs.size (λ_=>false) 0 (s.heap.push o)->Q (.ref s.heap.objs.size) {s with heap:=s.heap.push o}) :
  wpAny (model prog w) A (newSet (.type "set")) Q E s:=by
 unfold newSet setsByText
 refine a0b (a0b (wpAny_askSetting (a0d ?_)))
 dsimp only
 simp only[newObj]
 refine a0b (wpAny_alloc (a0d (h _ ⟨_,#[],0,_,Heap.get?_push_size _ rfl,⟨rfl,rfl,rfl⟩,rfl,λe he=>by simp at he,λk=>by simp,by decide,by rfl,rfl,?_,by simp⟩)))
 show IU (w.params.followText "set-order") (SetTable.fresh 0 0 (!w.params.followText "set-order"))
 cases w.params.followText "set-order" with
 |true=>exact .inl rfl
 |false=>exact .inr ⟨rfl,λ_=>List.Pairwise.nil⟩
end
open PySem
theorem aP:Slot "set_iterator" "__next__" "set_iterator.__next__":=
 .of (owner:="set_iterator") (n:="__next__") (by rw[typeLookup_type,builtinLookup_eq_fast];kernel_rfl) (by decide+kernel) (by decide+kernel) (by decide+kernel)
  (by first|exact .inl (by decide+kernel)|exact .inr (by decide+kernel)) (by rw[isSubtype_type];kernel_rfl)
theorem cL:entryFor table "set_iterator.__next__"=some Builtin.«set_iterator.__next__»:=entryFor_of_fast (by kernel_rfl)
theorem cU(a:Value):argsOk "set_iterator.__next__" ⟨[a],[]⟩:=by unfold argsOk;kernel_rfl
theorem rQ:entryFor table "set.__iter__"=some Builtin.«frozenset.__iter__»:=entryFor_alias (id':="frozenset.__iter__") (by kernel_rfl) rfl (by decide+kernel) (by kernel_rfl)
section
variable{prog:Program}{w:World}{A:Around}{E:Value->Ab->Prop}{s:Ab}
theorem l8{it:Addr}{o:Obj}{vs:Array Value}{Q:Array Value->Shared->Prop}(ho:s.heap.get? it=some o)(hd:o.data= .fields vs)(h:Q vs s):wpAny (model prog w) A (fieldsOf (.ref it)) Q E s:=by
 unfold fieldsOf
 refine a0b (wpAny_load ho ?_)
 rw[hd]
 exact a0d h
structure SetAt(h:Heap)(a:Addr)(es:Array (Int×Value))(ep:Nat)(t:SetTable):Prop where
 ex:∃o,h.get? a=some o/\o.ExactSet/\o.data= .set es ep t
 fit:t.fits es.size=true
theorem SetAt.state{a:Addr}{es:Array (Int×Value)}{ep:Nat}{t:SetTable}{Q:(Array (Int×Value)×Nat×SetTable)->Shared->Prop}(x:SetAt s.heap a es ep t)(h:Q (es,ep,t) s):wpAny (model prog w) A (setState a) Q E s:=by
 obtain⟨o,ho,_,hd⟩:=x.ex
 exact wpAny_setState_of ho hd x.fit h
theorem SetAt.keeps{h h':Heap}{a:Addr}{es:Array (Int×Value)}{ep:Nat}{t:SetTable}(x:SetAt h a es ep t)(k:∀o,h.get? a=some o->h'.get? a=some o):SetAt h' a es ep t:=by
 obtain⟨o,ho,q⟩:=x.ex
 exact⟨⟨o,k o ho,q⟩,x.fit⟩
def zJ(first:Value)(i:Nat)(a:Ac)(n ep:Nat):Obj:={cls:=.type "set_iterator",data:=.fields #[first,.int i 0,.ref a,.int n 0,.int ep 0]}
theorem oF {it a:Addr} {es:Array (Int×Value)} {ep slot nx i:Nat} {t:SetTable} {x:Value} {Q:Option Value->Shared->Prop} (ho:s.heap.get? it=some (zJ (.int slot 0) i a es.size ep)) (hS:SetAt s.heap a es ep t)
  (hn:∀(E':Value->Ab->Prop) (Q:Option (Value×Nat)->Ab->Prop),Q (some (x,nx)) s->wpAny (model prog w) A.in1 (setNext a slot i ep) Q E' s)
  (hQ:∀h',Heap.SameBut it s.heap h'->h'.get? it=some (zJ (.int nx 0) (i+1) a es.size ep)->Q (some x) {s with heap:=h'}):wpAny (model prog w) A (pyNext (.ref it)) Q E s:=by
 unfold pyNext
 have hT:s.TypeIs (.ref it) "set_iterator":=⟨_,ho,rfl⟩
 refine a0b (wpAny_attempt (wpAny_callSpecial?_slot (name:=Str.ofString "__next__") hT aP
  (wpAny_call_entry aP hT cL ?_ (cU _))))
 unfold Builtin.«set_iterator.__next__»
 show wpAny _ A.in1 (fieldsOf (.ref it) >>=_) _ _ s
 refine a0b (l8 ho rfl ?_)
 show wpAny _ A.in1 (setEntries a >>=_) _ _ s
 unfold setEntries
 refine a0b (a0b (hS.state (a0d ?_)))
 dsimp only
 rw[if_neg (by simp)]
 show wpAny _ A.in1 (setNext a _ _ _ >>=_) _ _ s
 refine a0b (hn _ _ ?_)
 dsimp only
 refine a0b (wpAny_setField ho rfl (by simp) ?_)
 have ho1:=Heap.get?_update_self (Obj.mapFields (·.setIfInBounds 0 (rawInt nx))) ho (Obj.isFreed_of_fields (Obj.data_mapFields (o:=zJ (.int slot 0) i a es.size ep) rfl _))
 refine a0b (wpAny_setField ho1 (Obj.data_mapFields (o:=zJ (.int slot 0) i a es.size ep) rfl _) (by simp) ?_)
 have ho2:=Heap.get?_update_self (Obj.mapFields (·.setIfInBounds 1 (rawInt (i+1)))) ho1 (Obj.isFreed_of_fields (Obj.data_mapFields (Obj.data_mapFields (o:=zJ (.int slot 0) i a es.size ep) rfl _) _))
 exact a0d ⟨x,rfl,a0d (hQ _ ((Heap.SameBut.update ..).trans (Heap.SameBut.update ..)) (ho2.trans rfl))⟩
theorem tO {it:Addr} {s0:Shared} {Q:Option Value->Shared->Prop} (hh:A.handled=none) (hQ:∀h',(∀b o,s.heap.get? b=some o->h'.get? b=some o)->Q none {s with heap:=h'}) :
  wpAny (model prog w) A.in1 (newExc (.type "StopIteration") [] >>=λe=>raiseNew e) (λ(fin:Fin) s'=>∃v,fin= .done (.ret v)/\wpAny (model prog w) A (pure (some v)) Q E s')
   (λe s'=>wpAny (model prog w) A (do if <- isInstance e (.type "StopIteration") then pure none else throw e) Q E s') s:=by
 refine a0b ?_
 simp only[newExc,newTuple]
 refine a0b (wpAny_newObj_type ?_ (by size_fits))
 refine a0b (m:=firstArgMember _ _) (wpAny_of_eq (a:=Value.none) (by first|rfl|(simp only[firstArgMember];rfl)) ?_)
 refine wpAny_newObj_type ?_ (by size_fits)
 simp only[raiseNew]
 refine a0b (wpAny_handled ?_)
 rw[show A.in1.handled=none from hh]
 refine a0b (a0d (wpAny_throw ?_))
 refine a0b (wpAny_isInstance (T:="StopIteration") (b:=true) ⟨_,Heap.get?_push_size _ rfl,rfl⟩ isSubtype_stop ?_)
 exact a0d (hQ _ λb o e=>a0e _ (a0e _ e))
theorem qA {it a:Addr} {es:Array (Int×Value)} {ep slot i:Nat} {t:SetTable} {Q:Option Value->Shared->Prop} (hh:A.handled=none) (ho:s.heap.get? it=some (zJ (.int slot 0) i a es.size ep)) (hS:SetAt s.heap a es ep t)
  (hn:∀(E':Value->Ab->Prop) (Q:Option (Value×Nat)->Ab->Prop),Q none s->wpAny (model prog w) A.in1 (setNext a slot i ep) Q E' s)
  (hQ:∀h',(∀b o,b≠it->s.heap.get? b=some o->h'.get? b=some o)->Q none {s with heap:=h'}):wpAny (model prog w) A (pyNext (.ref it)) Q E s:=by
 unfold pyNext
 have hT:s.TypeIs (.ref it) "set_iterator":=⟨_,ho,rfl⟩
 refine a0b (wpAny_attempt (wpAny_callSpecial?_slot (name:=Str.ofString "__next__") hT aP
  (wpAny_call_entry aP hT cL ?_ (cU _))))
 unfold Builtin.«set_iterator.__next__»
 show wpAny _ A.in1 (fieldsOf (.ref it) >>=_) _ _ s
 refine a0b (l8 ho rfl ?_)
 show wpAny _ A.in1 (setEntries a >>=_) _ _ s
 unfold setEntries
 refine a0b (a0b (hS.state (a0d ?_)))
 dsimp only
 rw[if_neg (by simp)]
 show wpAny _ A.in1 (setNext a _ _ _ >>=_) _ _ s
 refine a0b (hn _ _ ?_)
 dsimp only
 refine a0b (wpAny_setField ho rfl (by simp) ?_)
 refine tO (it:=it) (s0:=s) hh λh' k=>hQ h' λb o hb e=>k b o ((Heap.get?_update_other _ _ (Ne.symm hb)).trans e)
theorem uR {it a tp:Addr} {es:Array (Int×Value)} {ep i pl:Nat} {t:SetTable} {hx:Int} {x:Value} {ps:Array Value} {tk:Tok} {Q:Option Value->Shared->Prop} (ho:s.heap.get? it=some (zJ (.ref tp) i a es.size ep)) (hS:SetAt s.heap a es ep t)
  (htp:∃o n,s.heap.get? tp=some o/\o.data= .seq ps n) (hp:ps[i]? =some (.int pl tk)) (hx':es[pl]? =some (hx,x))
  (hQ:∀h',Heap.SameBut it s.heap h'->h'.get? it=some (zJ (.ref tp) (i+1) a es.size ep)->Q (some x) {s with heap:=h'}):wpAny (model prog w) A (pyNext (.ref it)) Q E s:=by
 unfold pyNext
 have hT:s.TypeIs (.ref it) "set_iterator":=⟨_,ho,rfl⟩
 refine a0b (wpAny_attempt (wpAny_callSpecial?_slot (name:=Str.ofString "__next__") hT aP
  (wpAny_call_entry aP hT cL ?_ (cU _))))
 unfold Builtin.«set_iterator.__next__»
 show wpAny _ A.in1 (fieldsOf (.ref it) >>=_) _ _ s
 refine a0b (l8 ho rfl ?_)
 show wpAny _ A.in1 (setEntries a >>=_) _ _ s
 unfold setEntries
 refine a0b (a0b (hS.state (a0d ?_)))
 dsimp only
 rw[if_neg (by simp)]
 obtain⟨otp,ntp,h1,h2⟩:=htp
 show wpAny _ A.in1 (seqItems? (.ref tp) >>=_) _ _ s
 refine a0b (wpAny_seqItems h1 h2 ?_)
 simp only[Int.toNat_natCast,hp]
 show wpAny _ A.in1 (setNextDrawn a _ _ >>=_) _ _ s
 unfold setNextDrawn
 refine a0b (a0b (hS.state ?_))
 dsimp only
 rw[if_neg (by simp)]
 simp only[Int.toNat_natCast,hx']
 refine a0d ?_
 refine a0b (wpAny_setField ho rfl (by simp) ?_)
 have ho1:=Heap.get?_update_self (Obj.mapFields (·.setIfInBounds 1 (rawInt (i+1)))) ho (Obj.isFreed_of_fields (Obj.data_mapFields (o:=zJ (.ref tp) i a es.size ep) rfl _))
 exact a0d ⟨x,rfl,a0d (hQ _ (Heap.SameBut.update ..) (ho1.trans rfl))⟩
theorem yQ {it a tp:Addr} {es:Array (Int×Value)} {ep i:Nat} {t:SetTable} {ps:Array Value} {Q:Option Value->Shared->Prop} (hh:A.handled=none) (ho:s.heap.get? it=some (zJ (.ref tp) i a es.size ep)) (hS:SetAt s.heap a es ep t)
  (htp:∃o n,s.heap.get? tp=some o/\o.data= .seq ps n) (hp:ps[i]? =none)
  (hQ:∀h',(∀b o,b≠it->s.heap.get? b=some o->h'.get? b=some o)->Q none {s with heap:=h'}):wpAny (model prog w) A (pyNext (.ref it)) Q E s:=by
 unfold pyNext
 have hT:s.TypeIs (.ref it) "set_iterator":=⟨_,ho,rfl⟩
 refine a0b (wpAny_attempt (wpAny_callSpecial?_slot (name:=Str.ofString "__next__") hT aP
  (wpAny_call_entry aP hT cL ?_ (cU _))))
 unfold Builtin.«set_iterator.__next__»
 show wpAny _ A.in1 (fieldsOf (.ref it) >>=_) _ _ s
 refine a0b (l8 ho rfl ?_)
 show wpAny _ A.in1 (setEntries a >>=_) _ _ s
 unfold setEntries
 refine a0b (a0b (hS.state (a0d ?_)))
 dsimp only
 rw[if_neg (by simp)]
 obtain⟨otp,ntp,h1,h2⟩:=htp
 show wpAny _ A.in1 (seqItems? (.ref tp) >>=_) _ _ s
 refine a0b (wpAny_seqItems h1 h2 ?_)
 simp only[Int.toNat_natCast,hp]
 refine a0b (wpAny_setField ho rfl (by simp) ?_)
 have ho1:=Heap.get?_update_self (Obj.mapFields (·.setIfInBounds 0 (rawInt 0))) ho (Obj.isFreed_of_fields (Obj.data_mapFields (o:=zJ (.ref tp) i a es.size ep) rfl _))
 refine a0b (wpAny_setField ho1 (Obj.data_mapFields (o:=zJ (.ref tp) i a es.size ep) rfl _) (by simp) ?_)
 refine tO (it:=it) (s0:=s) hh λh' k=>hQ h' λb o hb e=>k b o ((Heap.get?_update_other _ _ (Ne.symm hb)).trans ((Heap.get?_update_other _ _ (Ne.symm hb)).trans e))
end
open PySem
theorem gN {α:Type}:∀ {l:List α} {i:Nat} (h:i<l.length),(l[i]::l.eraseIdx i).Perm l
 |x::xs,0,h=>.refl _
 | x::xs,i+1,h=>by
  have:=gN (l:=xs) (i:=i) (by simpa using h)
  simp only[List.getElem_cons_succ,List.eraseIdx_cons_succ]
  exact (List.Perm.swap _ _ _).trans (this.cons x)
section
variable{prog:Program}{w:World}{A:Around}{E:Value->Ab->Prop}{s:Ab}
theorem g9{Q:Bool->Shared->Prop}(h:Q (w.params.followText "set-order") s):wpAny (model prog w) A setsByText Q E s:=by
 unfold setsByText
 exact a0b (wpAny_askSetting (a0d h))
theorem lX {a:Addr} {es:Array (Int×Value)} {ep slot i:Nat} {t:SetTable} {Q:Option (Value×Nat)->Shared->Prop} (hS:SetAt s.heap a es ep t) (hb:w.params.followText "set-order"=false) (hd:(!t.plain&&decide (es.size>1))=false) (hl:t.led=true)
  (h:Q (match es[SetTable.below t.place slot]?,t.place[SetTable.below t.place slot]? with|some (_,x),some j=>some (x,j+1)|_,_=>none) s):wpAny (model prog w) A (setNext a slot i ep) Q E s:=by
 unfold setNext
 refine a0b (hS.state ?_)
 dsimp only
 refine a0b (g9 ?_)
 rw[hb]
 rw[if_neg Bool.false_ne_true]
 rw[if_neg (by show ¬((!t.plain&&decide (es.size>1))=true);rw[hd];exact Bool.false_ne_true)]
 refine a0b ?_
 show wpAny _ _ (if (!t.led&& !es.isEmpty)=true then unsupported "set:maker-not-led" else pure ()) _ _ _
 rw[if_neg (by rw[hl];simp)]
 exact a0d (a0d h)
theorem oD {a:Addr} {es:Array (Int×Value)} {ep slot i:Nat} {t:SetTable} {Q:Option (Value×Nat)->Shared->Prop} (hS:SetAt s.heap a es ep t) (hb:w.params.followText "set-order"=true)
  (h:Q (((pickOrder (w.params.setOrder a ep) es)[i]?).map λe=>(e.2,slot)) s):wpAny (model prog w) A (setNext a slot i ep) Q E s:=by
 unfold setNext
 refine a0b (hS.state ?_)
 dsimp only
 refine a0b (g9 ?_)
 rw[hb]
 rw[if_pos rfl,if_neg (by simp)]
 unfold setWalk
 refine a0b (a0b (hS.state ?_))
 dsimp only
 refine a0b (g9 ?_)
 rw[hb]
 rw[if_pos rfl]
 refine a0b (wpAny_askSetting (a0d (a0d h)))
theorem zC{src:Source}{n:Nat}{Q:Nat->Shared->Prop}(hn:n≠0)(h:∀(i:Nat) (d:Drawn),i<n->Q i {s with drawn:=d}):wpAny (model prog w) A (choose src n) Q E s:=λΓ p hΓ=>by
 show Sem.wp _ Γ (.choose src n .pure) _ _ p s
 rw[Sem.wp]
 exact⟨hn,h _ _ (Nat.mod_lt _ (Nat.pos_of_ne_zero hn))⟩
theorem nG {α:Type}:∀(n:Nat) (xs:List α) {Q:List α->Shared->Prop} {s:Shared},xs.length=n->(∀(ys:List α) (d:Drawn),ys.Perm xs->Q ys {s with drawn:=d})->wpAny (model prog w) A (drawOrder n xs) Q E s
 | 0,xs,Q,s,hl,h=>by
  have:xs=[]:=List.length_eq_zero_iff.mp hl
  subst this
  unfold drawOrder
  exact a0d (h [] s.drawn (.refl _))
 |n+1,[],Q,s,hl,h=>by cases hl
 | n+1,x::xs,Q,s,hl,h=>by
  unfold drawOrder
  refine a0b (zC (by simp) λi d hi=>?_)
  have e:(x::xs)[i]? =some (x::xs)[i]:=a0a hi
  rw[e]
  refine a0b (nG n _ (by rw[List.length_eraseIdx_of_lt hi,hl];rfl) λys d' hp=>a0d (h _ d' ?_))
  exact (hp.cons _).trans (gN hi)
end
theorem F2 {α:Type} (next:Nat->Nat):∀(fuel k:Nat) (kI:List α) (out:Array α),kI.length=fuel->(pickOrder.go next fuel k kI out).toList.Perm (out.toList++kI)
 | 0,k,kI,out,h=>by
  have:kI=[]:=List.length_eq_zero_iff.mp h
  subst this
  rw[pickOrder.go];simp
 | fuel+1,k,kI,out,h=>by
  rw[pickOrder.go]
  have hi:next k % kI.length<kI.length:=Nat.mod_lt _ (by omega)
  rw[a0a hi]
  dsimp only
  refine (F2 next fuel (k+1) _ _ (by rw[List.length_eraseIdx_of_lt hi];omega)).trans ?_
  rw[Array.toList_push,List.append_assoc]
  exact List.Perm.append_left _ (by simpa using gN hi)
theorem eM{α:Type}(next:Nat->Nat)(xs:Array α):(pickOrder next xs).toList.Perm xs.toList:=by
 unfold pickOrder
 simpa using F2 next xs.size 0 xs.toList #[] (by simp)
def iS(t:SetTable)(i:Nat):Nat:=if i=0 then 0 else t.place.getD (i-1) 0+1
inductive WMode(w:World)(a:Addr)(es:Array (Int×Value))(ep:Nat)(t:SetTable)(vs:List Value):(Nat->Value)->Heap->Prop where
 |plain {h:Heap}:w.params.followText "set-order"=false->(!t.plain&&decide (es.size>1))=false->t.led=true->wW t.place->vs=es.toList.map (·.2)->WMode w a es ep t vs (λi=>.int (iS t i) 0) h
 |text {h:Heap}:w.params.followText "set-order"=true->vs=(pickOrder (w.params.setOrder a ep) es).toList.map (·.2)->WMode w a es ep t vs (λ_=>.int 0 0) h
 |drawn {h:Heap} {tp:Ac} {o:Obj} {m:Nat} {ks:List Nat}:h.get? tp=some o->o.data= .seq (ks.map λ(k:Nat)=>Value.int k 0).toArray m->ks.length=es.size->vs=ks.map (λk=>(es.getD k (0,.none)).2)->(∀k∈ks,k<es.size)->WMode w a es ep t vs (λ_=>.ref tp) h
theorem WMode.keeps{w:World}{a:Addr}{es:Array (Int×Value)}{ep:Nat}{t:SetTable}{vs:List Value}{f:Nat->Value}{h h':Heap}(m:WMode w a es ep t vs f h)(k:∀tp o,f 0= .ref tp->h.get? tp=some o->h'.get? tp=some o):WMode w a es ep t vs f h':=by
 cases m with
 |plain a1 a2 a3 a4 a5=>exact .plain a1 a2 a3 a4 a5
 |text a1 a2=>exact .text a1 a2
 |drawn a1 a2 a3 a4 a5=>exact .drawn (k _ _ rfl a1) a2 a3 a4 a5
structure WSt(w:World)(I a:Addr)(es:Array (Int×Value))(ep:Nat)(t:SetTable)(vs:List Value)(f:Nat->Value)(i:Nat)(h:Heap):Prop where
 set:SetAt h a es ep t
 ne:a≠I
 ne2:∀tp,f 0= .ref tp->tp≠I
 mode:WMode w a es ep t vs f h
 it:h.get? I=some (zJ (f i) i a es.size ep)
theorem WMode.len{w:World}{a:Addr}{es:Array (Int×Value)}{ep:Nat}{t:SetTable}{vs:List Value}{f:Nat->Value}{h:Heap}(m:WMode w a es ep t vs f h):vs.length=es.size:=by
 cases m with
 |plain a1 a2 a3 a4 a5=>rw[a5];simp
 |text a1 a2=>rw[a2,a0f,(eM _ _).length_eq,Array.length_toList]
 |drawn a1 a2 a3 a4 a5=>rw[a4,a0f,a3]
section
variable{prog:Program}{w:World}{A:Around}{E:Value->Ab->Prop}{s:Ab}{I a:Ac}{es:Array (Int×Value)}{ep:Nat}{t:SetTable}{vs:List Value}{f:Nat->Value}
theorem WSt.item {i:Nat} {x:Value} {Q:Option Value->Shared->Prop} (st:WSt w I a es ep t vs f i s.heap) (hx:vs[i]? =some x)
  (hQ:∀h',Heap.SameBut I s.heap h'->WSt w I a es ep t vs f (i+1) h'->Q (some x) {s with heap:=h'}):wpAny (model prog w) A (pyNext (.ref I)) Q E s:=by
 have next:∀h',Heap.SameBut I s.heap h'->h'.get? I=some (zJ (f (i+1)) (i+1) a es.size ep)->WSt w I a es ep t vs f (i+1) h':=λh' sb e=>
  ⟨st.set.keeps λo ho=>(sb.2 a st.ne).trans ho,st.ne,st.ne2,st.mode.keeps λtp o e ho=>(sb.2 tp (st.ne2 tp e)).trans ho,e⟩
 have hi:i<es.size:=by rw[<- st.mode.len];exact (List.getElem?_eq_some_iff.mp hx).1
 cases m:st.mode with
 | plain a1 a2 a3 a4 a5=>
  rw[a5,List.getElem?_map] at hx
  have hes:es.toList[i]? =some es[i]:=by rw[Array.getElem?_toList];exact Array.getElem?_eq_getElem hi
  rw[hes] at hx
  have hx:es[i].2=x:=Option.some.inj hx
  have hps:t.place.size=es.size:=by
   have:=st.set.fit
   simp only[SetTable.fits,Bool.and_eq_true,beq_iff_eq] at this
   exact this.1
  have hbe:SetTable.below t.place (iS t i)=i:=by
   unfold iS
   by_cases h0:i=0
   ·subst h0;rw[if_pos rfl];exact rL a4
   ·rw [if_neg h0]
    have hj:t.place[i-1]? =some (t.place.getD (i-1) 0):=by
     have:i-1<t.place.size:=by omega
     simp[Array.getD,this]
    rw[rJ a4 hj];omega
  have hsl:iS t (i+1)=t.place[i]'(by omega)+1:=by
   unfold iS
   rw[if_neg (by omega)]
   have:i<t.place.size:=by omega
   simp[Array.getD,this]
  refine oF (nx:=iS t (i+1)) (x:=x) st.it st.set (λE' Q' q=>lX st.set a1 a2 a3 ?_) λh' sb e=>hQ h' sb (next h' sb e)
  rw[hbe,Array.getElem?_eq_getElem hi,Array.getElem?_eq_getElem (by omega:i<t.place.size)]
  dsimp only
  rw[<- hsl,hx];exact q
 | text a1 a2=>
  rw[a2,List.getElem?_map] at hx
  refine oF (nx:=0) (x:=x) st.it st.set (λE' Q' q=>oD st.set a1 ?_) λh' sb e=>hQ h' sb (next h' sb e)
  rw[<- Array.getElem?_toList]
  cases hp:(pickOrder (w.params.setOrder a ep) es).toList[i]? with
  |none=>rw[hp] at hx;cases hx
  |some y=>rw[hp] at hx;cases hx;exact q
 | @drawn _ tp o mm ks a1 a2 a3 a4 a5=>
  rw[a4,List.getElem?_map] at hx
  cases hk:ks[i]? with
  |none=>rw[hk] at hx;cases hx
  | some k=>
   rw[hk] at hx
   have hx:(es.getD k (0,.none)).2=x:=Option.some.inj hx
   have hkl:=a5 k (List.mem_of_getElem? hk)
   refine uR (pl:=k) (tk:=0) (hx:=es[k].1) (x:=x) st.it st.set ⟨o,mm,a1,a2⟩ ?_ ?_ λh' sb e=>hQ h' sb (next h' sb e)
   ·rw[List.getElem?_toArray,List.getElem?_map,hk];rfl
   ·rw[Array.getElem?_eq_getElem hkl]
    rw[<- hx]
    simp[Array.getD,hkl]
theorem WSt.done {Q:Option Value->Shared->Prop} (hh:A.handled=none) (st:WSt w I a es ep t vs f vs.length s.heap)
  (hQ:∀h',(∀b o,b≠I->s.heap.get? b=some o->h'.get? b=some o)->Q none {s with heap:=h'}):wpAny (model prog w) A (pyNext (.ref I)) Q E s:=by
 have hl:=st.mode.len
 have hit:=st.it
 have hset:=st.set
 cases m:st.mode with
 | plain a1 a2 a3 a4 a5=>
  have hps:t.place.size=es.size:=by
   have:=st.set.fit
   simp only[SetTable.fits,Bool.and_eq_true,beq_iff_eq] at this
   exact this.1
  have hbe:es[SetTable.below t.place (iS t vs.length)]? =none:=by
   have:SetTable.below t.place (iS t vs.length)=vs.length:=by
    unfold iS
    by_cases h0:vs.length=0
    ·rw[if_pos h0,h0];exact rL a4
    ·rw [if_neg h0]
     have hj:t.place[vs.length-1]? =some (t.place.getD (vs.length-1) 0):=by
      have:vs.length-1<t.place.size:=by omega
      simp[Array.getD,this]
     rw[rJ a4 hj];omega
   rw[this];exact Array.getElem?_eq_none (by omega)
  refine qA hh hit hset (λE' Q' q=>lX hset a1 a2 a3 ?_) hQ
  rw[hbe];exact q
 | text a1 a2=>
  refine qA hh hit hset (λE' Q' q=>oD hset a1 ?_) hQ
  rw[Array.getElem?_eq_none (by rw[<- Array.length_toList,(eM _ _).length_eq,Array.length_toList];omega)]
  exact q
 | @drawn _ tp o mm ks a1 a2 a3 a4 a5=>
  refine yQ hh hit hset ⟨o,mm,a1,a2⟩ ?_ hQ
  rw[List.getElem?_toArray,List.getElem?_map,List.getElem?_eq_none (by omega)];rfl
end
open PySem PyProof.Rows
theorem iC:Slot "set_iterator" "__iter__" "set_iterator.__iter__":=
 .of (owner:="set_iterator") (n:="__iter__") (by rw[typeLookup_type,builtinLookup_eq_fast];kernel_rfl) (by decide+kernel) (by decide+kernel) (by decide+kernel)
  (by first|exact .inl (by decide+kernel)|exact .inr (by decide+kernel)) (by rw[isSubtype_type];kernel_rfl)
theorem m9:entryFor table "set_iterator.__iter__"=some Builtin.«dict_keyiterator.__iter__»:=entryFor_alias (id':="dict_keyiterator.__iter__") (by kernel_rfl) rfl (by decide+kernel) (by kernel_rfl)
theorem n6(a:Value):argsOk "set_iterator.__iter__" ⟨[a],[]⟩:=by unfold argsOk;kernel_rfl
theorem yT:Slot "set" "__len__" "set.__len__":=
 .of (owner:="set") (n:="__len__") (by rw[typeLookup_type,builtinLookup_eq_fast];kernel_rfl) (by decide+kernel) (by decide+kernel) (by decide+kernel)
  (by first|exact .inl (by decide+kernel)|exact .inr (by decide+kernel)) (by rw[isSubtype_type];kernel_rfl)
theorem pM:∀ {vs:List Value},(∀v∈vs,∃t,v= .int (cA v) t)->IntsAre vs (vs.map cA)
 |[],_=>.nil
 | v::vs,h=>by
  obtain⟨t,e⟩:=h v List.mem_cons_self
  have ih:=pM λu hu=>h u (List.mem_cons_of_mem _ hu)
  rw[List.map_cons]
  generalize cA v=k at e ⊢
  subst e
  exact .cons _ _ ih
section
variable{prog:Program}{w:World}{A:Around}{E:Value->Ab->Prop}{s:Ab}{I a:Ac}{es:Array (Int×Value)}{ep:Nat}{t:SetTable}{vs:List Value}{f:Nat->Value}
theorem HD{Q:Value->Shared->Prop}{x:Value}{i n:Nat}(ho:s.heap.get? I=some (zJ x i a n ep))(h:Q (.ref I) s):wpAny (model prog w) A (pyIter (.ref I)) Q E s:=by
 have hT:s.TypeIs (.ref I) "set_iterator":=⟨_,ho,rfl⟩
 refine wpAny_pyIter_slot hT iC (wpAny_call_entry iC hT m9 ?_ (n6 _))
 show wpAny _ _ (ret (.ref I)) _ _ s
 exact a0d ⟨_,rfl, "set_iterator",_,hT,aP.lookup,h⟩
def CJ(I a:Ac)(f:Nat->Value):List Ac:=I::a::(match f 0 with|.ref tp=>[tp]|_=>[])
theorem II(hh:A.handled=none):WalksS prog w A I (CJ I a f) [I] (λg g'=>g'=g) vs.length (λi v=>vs[i]? =some v) (λi s=>WSt w I a es ep t vs f i s.heap) where
 sub:=λb hb=>by simp at hb;subst hb;simp[CJ]
 grefl:=λ_=>rfl
 gtrans:=λ_ _ _ h1 h2=>h2.trans h1
 frame:=λi s h' tk st _ k=>⟨st.set.keeps λo=>k a (by simp[CJ]) o,st.ne,st.ne2,st.mode.keeps λtp o e=>k tp (by simp[CJ,e]) o,k I (by simp[CJ]) _ st.it⟩
 item:=λi s Q E hi st h=>st.item (a0a hi) λh' sb st'=>h _ _ (a0a hi) st' ⟨λb o hb e=>(sb.2 b (by simpa using hb)).trans e,rfl,rfl,rfl,Nat.le_refl _⟩
 done:=λs Q E st h=>st.done hh λh' k=>h _ ⟨λb o hb e=>k b o (by simpa using hb) e,rfl,rfl,rfl,Nat.le_refl _⟩
 self:=λi s Q E st h=>HD st.it h
theorem KS {S:Int->Bool} {n:Nat} {Q:Value->Shared->Prop} (hX:bC prog w a S n s.heap)
  (h:∀(I:Addr) (es:Array (Int×Value)) (ep:Nat) (t:SetTable) (vs:List Value) (f:Nat->Value) (s':Shared),s'.gens=s.gens->s'.os=s.os->s'.toks=s.toks->s.heap.objs.size<=I->(∀tp,f 0= .ref tp->s.heap.objs.size<=tp/\tp<I)->I<s'.heap.objs.size->(∀b o,s.heap.get? b=some o->s'.heap.get? b=some o)->WSt w I a es ep t vs f 0 s'.heap->
   vs.Perm (es.toList.map (·.2))->ElemsOf (intKind prog w) es.toList->(∀k,S k=true↔∃e∈es.toList,(intKind prog w).is k e.2=true)->(es.toList.map λe=>cA e.2).Nodup->es.size=n->Q (.ref I) s'):wpAny (model prog w) A (pyIter (.ref a)) Q E s:=by
 obtain⟨o,es,ep,t,ho,hex,hd,hel,hmem,hb,hf,hn,hwk,hnd⟩:=hX
 have hS:SetAt s.heap a es ep t:=⟨⟨o,ho,hex,hd⟩,hf⟩
 have hT:s.TypeIs (.ref a) "set":=⟨o,ho,hex.1⟩
 refine wpAny_pyIter_slot hT F.slot_set_iter (wpAny_call_entry F.slot_set_iter hT rQ ?_ (F.args_set_iter_1 _))
 unfold Builtin.«frozenset.__iter__»
 show wpAny _ A.in1 (Builtin.Frozenset.sizeOf a >>=_) _ _ s
 unfold Builtin.Frozenset.sizeOf setEntries
 refine a0b (a0b (a0b (hS.state (a0d (a0d ?_)))))
 dsimp only
 refine a0b ?_
 unfold setDrawn
 refine a0b (hS.state ?_)
 dsimp only
 refine a0b (g9 (a0d ?_))
 show wpAny _ _ (if (!w.params.followText "set-order"&&(!t.plain&&decide (es.size>1)))=true then _ else _) _ _ _
 have fin:∀(s1:Shared) (x:Value),s1.gens=s.gens->s1.os=s.os->s1.toks=s.toks->s.heap.objs.size<=s1.heap.objs.size->(∀b o,s.heap.get? b=some o->s1.heap.get? b=some o)->∀(vs:List Value) (f:Nat->Value),f 0=x->(∀tp,f 0= .ref tp->s.heap.objs.size<=tp/\tp<s1.heap.objs.size)->
   (∀h',(∀b o,s1.heap.get? b=some o->h'.get? b=some o)->WMode w a es ep t vs f h')->vs.Perm (es.toList.map (·.2))->
   wpAny (model prog w) A.in1 (setEpoch a >>=λe=>newFields "set_iterator" [x,rawInt 0,.ref a,rawInt es.size,rawInt e] >>=λr=>ret r) (λ(fin:Fin) s'=>∃v,fin= .done (.ret v)/\∃T' r,s'.TypeIs v T'/\typeLookup (.type T') "__next__"=pure (some r)/\Q v s') E s1:=by
  intro s1 x g1 g2 g3 g4 g5 vs f hf0 htp hm hp
  have hS1:=hS.keeps λo=>g5 a o
  unfold setEpoch
  refine a0b (a0b (hS1.state (a0d ?_)))
  dsimp only
  refine a0b (wpAny_newObj_type ?_)
  have hI:(s1.heap.push (zJ x 0 a es.size ep)).get? s1.heap.objs.size=some (zJ x 0 a es.size ep):=Heap.get?_push_size _ rfl
  refine a0d ⟨_,rfl, "set_iterator",_,⟨_,hI,rfl⟩,aP.lookup,?_⟩
  refine h s1.heap.objs.size es ep t vs f {s1 with heap:=s1.heap.push (zJ x 0 a es.size ep)} g1 g2 g3 g4 htp (by show _<(s1.heap.push _).objs.size;rw[Heap.size_push];exact Nat.lt_succ_self _) (λb o e=>a0e _ (g5 b o e)) ⟨hS1.keeps λo e=>a0e _ e,?_,λtp e=>Nat.ne_of_lt (htp tp e).2,hm _ λb o e=>a0e _ e,?_⟩ hp hel hmem hnd hn
  ·exact Nat.ne_of_lt (Nat.lt_of_lt_of_le (Heap.lt_size ho) g4)
  ·rw[hf0];exact hI
 by_cases hc:(!w.params.followText "set-order"&&(!t.plain&&decide (es.size>1)))=true
 ·rw [if_pos hc]
  refine a0b (nG es.size _ (by simp) λks d hp=>?_)
  have hkl:ks.length=es.size:=by rw[hp.length_eq];simp
  unfold newTuple
  refine a0b (wpAny_newObj_type ?_ (by show (List.map (λ(i:Nat)=>rawInt i) ks).toArray.size<=sizeLine;rw[List.size_toArray,a0f,hkl];exact Nat.le_trans (Nat.le_of_lt hb) (by decide)))
  have hkm:∀k∈ks,k<es.size:=λk hk=>by simpa using hp.mem_iff.mp hk
  refine fin _ (.ref s.heap.objs.size) rfl rfl rfl (by show _<=(s.heap.push _).objs.size;rw[Heap.size_push];exact Nat.le_succ _) (λb o e=>a0e _ e) (ks.map λk=>(es.getD k (0,.none)).2) (λ_=>.ref s.heap.objs.size) rfl (λtp e=>?_) (λh' k=>?_) ?_
  ·cases e
   exact⟨Nat.le_refl _,by show _<(s.heap.push _).objs.size;rw[Heap.size_push];exact Nat.lt_succ_self _⟩
  ·exact .drawn (k _ _ (Heap.get?_push_size _ rfl)) rfl hkl rfl hkm
  ·have:(List.range es.size).map (λk=>(es.getD k (0,.none)).2)=es.toList.map (·.2):=by
    refine List.ext_getElem (by simp) λi h1 h2=>?_
    have hi:i<es.size:=by simpa using h1
    simp[Array.getD,hi]
   rw[<- this]
   exact hp.map _
 ·rw [if_neg hc]
  refine a0b (a0d ?_)
  have e:s={s with heap:=s.heap}:=by cases s;rfl
  cases hbt:w.params.followText "set-order" with
  | true=>
   refine fin s (rawInt 0) rfl rfl rfl (Nat.le_refl _) (λ_ _ e=>e) ((pickOrder (w.params.setOrder a ep) es).toList.map (·.2)) (λ_=>.int 0 0) rfl (λtp e=>by cases e) (λh' k=>.text hbt rfl) ((eM _ _).map _)
  | false=>
   have hc':(!t.plain&&decide (es.size>1))=false:=by
    cases hq:(!t.plain&&decide (es.size>1)) with
    |false=>rfl
    |true=>rw[hbt,hq] at hc;exact absurd rfl hc
   rcases hwk with z|⟨hled,hris⟩
   ·rw[hbt] at z;cases z
   ·have hr:wW t.place:=by
     cases hp:t.plain with
     |true=>exact hris hp
     | false=>
      rw[hp] at hc'
      have hsz:¬es.size>1:=by simpa using hc'
      have hps:t.place.size=es.size:=by
       have:=hf
       simp only[SetTable.fits,Bool.and_eq_true,beq_iff_eq] at this
       exact this.1
      unfold wW
      have:t.place.toList.length<=1:=by rw[Array.length_toList];omega
      match hl:t.place.toList,this with
      |[],_=>exact .nil
      |[x],_=>simp
    refine fin s (rawInt 0) rfl rfl rfl (Nat.le_refl _) (λ_ _ e=>e) (es.toList.map (·.2)) (λi=>.int (iS t i) 0) rfl (λtp e=>by cases e) (λh' k=>.plain hbt hc' hled hr rfl) (.refl _)
theorem zX {S:Int->Bool} {n:Nat} {Q:List Value->Shared->Prop} (hh:A.handled=none) (hX:bC prog w a S n s.heap)
  (h:∀(us:List Value) (ks:List Int) (s':Ab),s'.gens=s.gens->s'.os=s.os->s.toks<=s'.toks->(∀b o,s.heap.get? b=some o->s'.heap.get? b=some o)->IntsAre us ks->ks.Nodup->(∀k,S k=true↔k∈ks)->ks.length=n->s.heap.objs.size<=s'.heap.objs.size->Q us s'):wpAny (model prog w) A (collect (.ref a)) Q E s:=by
 have hX0:=hX
 obtain⟨o,es,ep,t,ho,hex,hd,hel,hmem,hb,hf,hn,hwk,hnd⟩:=hX
 have hSI:s.heap.objs.size≠a:=Ne.symm (Nat.ne_of_lt (Heap.lt_size ho))
 have hk1:∀b o,s.heap.get? b=some o->(s.heap.push {cls:=.type "list",data:=.seq ([]:List Value).toArray}).get? b=some o:=λb o e=>a0e _ e
 unfold collect
 refine a0b (wpAny_runValue (codeAny_builtin F.entry_proto_collect ?_))
 rw[Around.under_plainId F.plain_proto_collect _]
 show wpAny _ A.in1 (newList [] >>=λl=>again (.builtin "list.__iadd__" ⟨[l,.ref a],[]⟩)) _ _ s
 refine a0b (wpAny_newObj_type ?_)
 refine a0d ⟨plainId_quiet F.plain_list_iadd _,codeAny_builtin F.entry_list_iadd ?_⟩
 rw[Around.under_plainId F.plain_list_iadd _]
 show wpAny _ A.in1 (Builtin.List.listExtendWith (.ref s.heap.objs.size) (.ref a) (.ref s.heap.objs.size)) _ _ _
 unfold Builtin.List.listExtendWith
 have hT1:({s with heap:=s.heap.push {cls:=.type "list",data:=.seq ([]:List Value).toArray} }:Ab).TypeIs (.ref a) "set":=⟨o,hk1 a o ho,hex.1⟩
 refine a0b (wpAny_typeOf hT1 ?_)
 have h1:Builtin.List.listSameRef (.ref s.heap.objs.size) (.ref a)=false:=by simp[Builtin.List.listSameRef,hSI]
 have h2:(Value.type "set"==Value.type "list")=false:=by decide
 have h3:(Value.type "set"==Value.type "tuple")=false:=by decide
 simp only[h1,h2,h3,Bool.or_false,Bool.false_eq_true,if_false]
 have hX1:bC prog w a S n (s.heap.push {cls:=.type "list",data:=.seq ([]:List Value).toArray}):=⟨o,es,ep,t,hk1 a o ho,hex,hd,hel,hmem,hb,hf,hn,hwk,hnd⟩
 refine a0b (KS (s:={s with heap:=s.heap.push {cls:=.type "list",data:=.seq ([]:List Value).toArray} }) hX1 λI es2 ep2 t2 vs f s2 g1 g2 g3 g4 g5 g6 g7 st hperm hel2 hmem2 hnd2 hn2=>?_)
 refine a0b (wpAny_holding ?_)
 unfold Builtin.List.listLengthHint
 have hT2:s2.TypeIs (.ref a) "set":=⟨o,g7 a o (hk1 a o ho),hex.1⟩
 refine a0b (wpAny_specialOf hT2 yT.lookup ?_)
 wp_delta
 refine a0b (wpAny_isInstance (T:="set") (b:=true) hT2 (by rw[isSubtype_type];kernel_rfl) ?_)
 show wpAny _ A.in1 (typeOf (Value.ref a) >>=_) _ _ _
 refine a0b (wpAny_typeOf hT2 ?_)
 refine a0d ?_
 rw[if_pos (by decide)]
 refine a0b (wpAny_rule ?_)
 have hS₁:s2.heap.get? s.heap.objs.size=some {cls:=.type "list",data:=.seq ([]:List Value).toArray}:=g7 _ _ (Heap.get?_push_size _ rfl)
 refine a0b ?_
 show wpAny _ A.in1 (updateSeq s.heap.objs.size (·.push .none) >>=λ_=>updateSeq s.heap.objs.size (·.pop)) _ _ _
 refine a0b (wpAny_updateSeq hS₁ rfl ?_)
 have hS₂:=Heap.get?_update_self (Obj.mapSeq (·.push Value.none)) hS₁ rfl
 refine wpAny_updateSeq hS₂ rfl ?_
 have hS₃:=Heap.get?_update_self (Obj.mapSeq (·.pop)) hS₂ rfl
 have hlt:s.heap.objs.size<(s.heap.push {cls:=.type "list",data:=.seq ([]:List Value).toArray}).objs.size:=by rw[Heap.size_push];exact Nat.lt_succ_self _
 have oth:∀b o,b≠s.heap.objs.size->s2.heap.get? b=some o->
   ((s2.heap.update s.heap.objs.size (Obj.mapSeq (·.push Value.none))).update s.heap.objs.size (Obj.mapSeq (·.pop))).get? b=some o:=
  λb o hb e=>(Heap.get?_update_other _ _ (Ne.symm hb)).trans ((Heap.get?_update_other _ _ (Ne.symm hb)).trans e)
 have hSf:s.heap.objs.size∉CJ I a f:=by
  unfold CJ
  intro hm
  rcases List.mem_cons.mp hm with z|z
  ·exact Nat.ne_of_lt (Nat.lt_of_lt_of_le hlt g4) z
  ·rcases List.mem_cons.mp z with z|z
   ·exact hSI z
   ·cases hf0:f 0 with
    | ref tp=>
     rw[hf0] at z
     have:s.heap.objs.size=tp:=by simpa using z
     exact Nat.ne_of_lt (Nat.lt_of_lt_of_le hlt (g5 tp hf0).1) this
    |_=>rw[hf0] at z;cases z
 have hvl:vs.length=n:=by rw[hperm.length_eq,a0f,Array.length_toList,hn2]
 have hbn:n<scanBound:=by rw[<- hn];exact hb
 have W:=II (prog:=prog) (w:=w) (A:=A.in1) (I:=I) (a:=a) (es:=es2) (ep:=ep2) (t:=t2) (vs:=vs) (f:=f) hh
 refine a0d ⟨plainId_quiet F.plain_extend_loop _,codeAny_extend_loopS W (by rw[hvl];exact Nat.le_trans (Nat.le_of_lt hbn) (by decide)) _ hSf _ vs.length 0 _ _ _ rfl (Nat.zero_le _)
  (W.frame 0 s2 _ s2.toks st (Nat.le_refl _) λb hb o e=>oth b o (λz=>hSf (z▸hb)) e) hS₃ (ItemsOf.nil _) λs' acc' c' hm hS' hacc=>?_⟩
 show wpAny _ A (load s.heap.objs.size >>=_) _ _ s'
 refine a0b (wpAny_load hS' ?_)
 refine a0d (h acc'.toList (vs.map cA) s' (hm.gens.trans g1) (hm.os.trans g2) (Nat.le_trans (Nat.le_of_eq g3.symm) hm.toks) (λb o e=>?_) ?_ ?_ (λk=>?_) (by rw[a0f,hvl]) (Nat.le_of_lt (Heap.lt_size hS')))
 ·have hb':b<s.heap.objs.size:=Heap.lt_size e
  refine hm.heap b o (λz=>?_) (oth b o (Nat.ne_of_lt hb') (g7 b o (hk1 b o e)))
  rcases List.mem_cons.mp z with z|z
  ·exact Nat.ne_of_lt hb' z
  ·have:b=I:=by simpa using z
   exact Nat.ne_of_lt (Nat.lt_of_lt_of_le (Nat.lt_trans hb' hlt) g4) this
 ·have hav:acc'.toList=vs:=by
   refine List.ext_getElem? λi=>?_
   by_cases hi:i<acc'.size
   ·have:=hacc.2 i acc'[i] (Array.getElem?_eq_getElem hi)
    rw[this,Array.getElem?_toList];exact Array.getElem?_eq_getElem hi
   ·rw[List.getElem?_eq_none (by rw[Array.length_toList];omega),List.getElem?_eq_none (by have:=hacc.1;omega)]
  rw[hav]
  have all:∀v∈vs,∃t,v= .int (cA v) t:=λv hv=>by
   obtain⟨e,he,rfl⟩:=List.mem_map.mp (hperm.mem_iff.mp hv)
   obtain⟨⟨k,hk,_⟩,_⟩:=hel2 e he
   obtain⟨tk,e2⟩:=cB hk
   rw[e2];exact⟨tk,rfl⟩
  exact pM all
 ·have:(vs.map cA).Perm (es2.toList.map λe=>cA e.2):=by
   have:=hperm.map cA
   rwa [List.map_map] at this
  exact this.nodup_iff.mpr hnd2
 ·rw [hmem2 k]
  constructor
  ·rintro⟨e,he,hk⟩
   obtain⟨tk,e2⟩:=cB hk
   exact List.mem_map.mpr ⟨e.2,hperm.mem_iff.mpr (List.mem_map.mpr ⟨e,he,rfl⟩),by rw[e2];rfl⟩
  ·intro hk
   obtain⟨v,hv,rfl⟩:=List.mem_map.mp hk
   obtain⟨e,he,rfl⟩:=List.mem_map.mp (hperm.mem_iff.mp hv)
   obtain⟨⟨k,hk,_⟩,_⟩:=hel2 e he
   obtain⟨tk,e2⟩:=cB hk
   refine⟨e,he,?_⟩
   rw[e2] at hk ⊢;exact hk
theorem DQ {S:Int->Bool} {n:Nat} {Q:Value->Shared->Prop} (hh:A.handled=none) (hX:bC prog w a S n s.heap) (h64:n<64)
  (h:∀(out:Array Value) (ns:List Int) (l:Ac) (m:Nat) (s':Ab),s'.gens=s.gens->s'.os=s.os->s.toks<=s'.toks->(∀b o,s.heap.get? b=some o->s'.heap.get? b=some o)->s.heap.objs.size<=l->s'.heap.get? l=some {cls:=.type "list",data:=.seq out m}->IntsAre out.toList ns->ns.Pairwise (· < ·)->(∀k,S k=true↔k∈ns)->ns.length=n->Q (.ref l) s') :
  wpAny (model prog w) A (call (.builtin "sorted") [.ref a]) Q E s:=by
 refine Calls.call_function_entry kind_sorted plain_sorted entry_sorted (args_sorted1 _) ?_
 unfold Builtin.«sorted»
 refine a0b (m:=checkCount "sorted" 1 1 _) (a0d ?_)
 refine a0b (zX hh hX λus ks s1 g1 g2 g3 g4 hI hnd hmem hkn hsz=>?_)
 have hul:us.length=n:=by rw[<- hkn];exact hI.length
 refine a0b (wpAny_newObj_type ?_ ?_)
 ·have hoL:(s1.heap.push (seqObj "list" us.toArray 0)).get? s1.heap.objs.size=some (seqObj "list" us.toArray 0):=Heap.get?_push_size _ rfl
  refine a0b (wpAny_holding (wpAny_call_entry slot_list_sort ⟨_,hoL,rfl⟩ entry_list_sort (list_sort_tree hoL hI (by omega) λout ns' a1 a2 a3=>⟨_,rfl,?_⟩) (args_list_sort _)))
  have e1:=Heap.get?_update_self (Obj.mapSeq λ_=>#[]) hoL rfl
  have e2:=a0e (seqObj "list" #[] 0) (a0e (seqObj "tuple" us.toArray 0) e1)
  have e3:=Heap.get?_update_self (Obj.mapSeq λ_=>out) e2 rfl
  have hlt:ks.Nodup->ns'.Pairwise (· < ·):=λhn=>by
   have hn':ns'.Nodup:=a2.nodup_iff.mpr hn
   exact (a3.and hn').imp fun {x y} ⟨h1,h2⟩=>by omega
  refine a0d ⟨_,rfl,h out ns' s1.heap.objs.size _ _ g1 g2 g3 (λb o e=>?_) hsz (e3.trans rfl) a1 (hlt hnd) (λk=>(hmem k).trans a2.mem_iff.symm) (a2.length_eq.trans hkn)⟩
  have hb:b≠s1.heap.objs.size:=Nat.ne_of_lt (Heap.lt_size (g4 b o e))
  unfold sortedHeap
  refine (Heap.get?_update_other _ _ (Ne.symm hb)).trans (a0e _ (a0e _ ((Heap.get?_update_other _ _ (Ne.symm hb)).trans (a0e _ (g4 b o e)))))
 ·show us.toArray.size<=sizeLine
  rw[List.size_toArray,hul];exact Nat.le_trans (Nat.le_of_lt h64) (by decide)
end
def dG(P:Program)(w:World)(a:Ac)(S:Int->Bool)(n:Nat):HO:=.ext (bC P w a S n)
theorem bC.mono{P:Program}{w:World}{a:Addr}{S:Int->Bool}{n:Nat}{h1 h2:Heap}(x:bC P w a S n h1)(k:∀o,h1.get? a=some o->h2.get? a=some o):bC P w a S n h2:=by
 obtain⟨o,es,ep,t,ho,r⟩:=x
 exact⟨o,es,ep,t,k o ho,r⟩
theorem bC.ok{P:Program}{w:World}{H:Hp}{h:Heap}{a:Addr}{S:Int->Bool}{n:Nat}(x:bC P w a S n h):bT P w H h a (dG P w a S n):=by
 refine⟨x,?_,λh1 h2 x1 k=>x1.mono k⟩
 obtain⟨o,es,ep,t,ho,r⟩:=x
 exact⟨o,ho⟩
section
variable{X:Cx}
theorem Inv.laidS{pins:List (Addr×Obj)}{σ:St}{H:Hp}{s s':Shared}{a:Addr}{o:HO}(I:Inv X pins σ H s)(hos:s'.os=s.os)(hg:s'.gens=s.gens)(k:∀b u,s.heap.get? b=some u->s'.heap.get? b=some u)(hp:s.heap.objs.size<=a)(new:bT X.prog X.w (b7 H a o) s'.heap a o):Inv X pins σ (b7 H a o) s':=
 I.call' (s':=s') (ch:=[]) hos (Un.laid k hp (I.hok.fresh hp)) (I.hok.laid k hp new) (by rw[hg];exact⟨I.bare.1,λ_ _ e=>e⟩) (by simp)
def B8(P:Program)(w:World):List V->Hp->VK->Prop:=λxs H Q=>∃a S n,xs=[.ref a]/\H a=some (dG P w a S n)/\n<64/\
 ∀(l:Ac) (ms:List Int),H l=none->ms.Pairwise (· < ·)->(∀k,S k=true↔k∈ms)->Q (.ref l) (b7 H l (.lst (List.map V.int ms)))
theorem vE(hc:X.calm=true):dI X (.builtin "sorted") (B8 X.prog X.w):=by
 intro pins s σ H xs us Q I r h
 obtain⟨p,S,n,rfl,hp,h64,q⟩:=h
 obtain⟨u,rfl,ru⟩:=kZ r
 cases ru
 obtain⟨hX,_,_⟩ : bC X.prog X.w p S n s.heap/\(∃o,s.heap.get? p=some o)/\(∀h1 h2:Heap,bC X.prog X.w p S n h1->(∀o,h1.get? p=some o->h2.get? p=some o)->bC X.prog X.w p S n h2):=I.hok p _ hp
 refine DQ (I.ok.hd hc) hX h64 λout ns l m s' g1 g2 g3 g4 g5 g6 hI hlt hmem hl=>?_
 refine⟨.ref l,b7 H l (.lst (List.map V.int ns)),I.laidS g2 g1 g4 g5 ⟨?_,out.toList,m,pE hI,by simpa using g6⟩,rfl,q l ns (I.hok.fresh g5) hlt hmem⟩
 rw[a0f,hl]
 exact Nat.le_trans (Nat.le_of_lt h64) (by decide)
end
def eY (p0:Pos) (target:Expr) (ifs:List Expr) (act:Sem Unit) (e:Expr) (d:Nat) (it acc:Value) (env:Env):Sem Fin:=do
 standAt p0
 match <- pyNext it with
 |none=>pure (.done .next)
 | some v=>
  letOwnedTupleGo target it v
  assign target env v
  let mut ok:=true
  for c in ifs do
   if ok then ok <- isTrue c env (eval c env)
  if ok then
   act
  again (.compLoop e d it acc env)
def PB(Y:Cx)(m:Sem Unit)(t:TS):Prop:=∀(pins:List (Addr×Obj)) (s:Shared) (σ:St) (H:Hp) (D:Ends),Inv Y pins σ H s->t D σ H->
 wpAny (model Y.prog Y.w) Y.A m (λ_ s'=>∃σ' H',Inv Y pins σ' H' s'/\D.nx σ' H') (λ_ _=>False) s
def ID(tt:TT)(ta:TS):TS:=λD σ H=>tt σ H λb H1=>if b=true then ta D σ H1 else D.nx σ H1
inductive CompKind:Expr->Prop where
 |list (elt:Expr) (gens:List Comprehension) (scope:Scope) (pos:Pos):CompKind (.ListComp elt gens scope pos)
 |set (elt:Expr) (gens:List Comprehension) (scope:Scope) (pos:Pos):CompKind (.SetComp elt gens scope pos)
 |dict (k v:Expr) (gens:List Comprehension) (scope:Scope) (pos:Pos):CompKind (.DictComp k v gens scope pos)
theorem GG {prog:Program} {w:World} {A:Around} {R:Result->Shared->Prop} {s:Shared} {e:Expr} {d:Nat} {it acc:Value} {env:Env} {p0:Pos} {target:Expr} {ifs:List Expr} {act:Sem Unit} (heq:compTurn e d it acc env=eY p0 target ifs act e d it acc env) (hk:CompKind e) (I:Nat->Shared->Prop)
  (turn:∀n s,I n s->wpAny (model prog w) A (pyNext it) (λr s1=>match r with
   |none=>R (.ok .next) s1
   | some v=>wpAny (model prog w) A (letOwnedTupleGo target it v) (λ_ s2=>wpAny (model prog w) A (assign target env v) (λ_ s3=>
     wpAny (model prog w) A (forIn ifs true λc r=>if r=true then do let ok <- isTrue c env (eval c env);pure (ForInStep.yield ok) else pure (ForInStep.yield r)) (λok s4=>
      if ok=true then wpAny (model prog w) A act (λ_ s5=>∃m,m<n/\I m s5) (λ_ _=>False) s4
      else ∃m,m<n/\I m s4) (λ_ _=>False) s3) (λ_ _=>False) s2) (λ_ _=>False) s1) (λ_ _=>False) s)
  (n:Nat) (h:I n s):codeAny (model prog w) A (.compLoop e d it acc env) R s:=by
 refine codeAny_loop (by cases hk<;>rfl) I (λn s hI=>?_) n h
 have go:wpAny (model prog w) A ((compTurn e d it acc env).onRaise λx=>do noteFrame x env;theTreesLotGoes x) (λfin s'=>match fin with|.done f=>R (.ok f) s'|.again c'=>c'= .compLoop e d it acc env/\∃m,m<n/\I m s') (λe s'=>R (.error e) s') s:=?_
 ·cases hk<;>exact go
 refine wpAny_noted (env:=env) (m:=compTurn e d it acc env) ?_
 rw[heq]
 unfold eY
 refine a0b (wpAny_standAt (a0b (wpAny_mono (turn n s hI) (λr s1 h1=>?_) λ_ _ z=>z.elim)))
 cases r with
 |none=>exact a0d h1
 | some v=>
  refine a0b (wpAny_mono h1 (λ_ s2 h2=>?_) λ_ _ z=>z.elim)
  refine a0b (wpAny_mono h2 (λ_ s3 h3=>?_) λ_ _ z=>z.elim)
  refine a0b (wpAny_mono h3 (λok s4 h4=>?_) λ_ _ z=>z.elim)
  cases ok with
  |false=>exact a0d ⟨rfl,h4⟩
  |true=>exact a0b (wpAny_mono h4 (λ_ s5 h5=>a0d ⟨rfl,h5⟩) λ_ _ z=>z.elim)
theorem rP {Y:Cx} {e:Expr} (hk:CompKind e) (hc:Y.calm=true) (hx:Y.xe=λ_ _=>False) {d:Nat} {acc:Value} {p0:Pos} {target:Expr} {ifs:List Expr} {act:Sem Unit} {it:Addr} (heq:compTurn e d (.ref it) acc Y.env=eY p0 target ifs act e d (.ref it) acc Y.env)
  {g:TG} {tt:TT} {ta:TS} (hg:PG Y target g) (ht:IT Y ifs tt) (ha:PB Y act ta) {pins:List (Ac×Obj)} {fp:List Ac} {tn:Nat->Heap->Prop} {J:It} {σ:St} {H:Hp} {s:Ab} {D:Ends} {R:Result->Ab->Prop}
  (T:Turn Y.prog Y.w Y.K target J fp it tn) (I:Inv Y pins σ H s) (st:tn 0 s.heap) (hf:∀b∈fp,iH Y pins H b) (body:n0 J g (ID tt ta) D σ H)
  (hR:∀(i:Nat) (σ':St) (H':Hp) (s':Ab),Inv Y pins σ' H' s'->D.nx σ' H'->R (.ok .next) s'):codeAny (model Y.prog Y.w) Y.A (.compLoop e d (.ref it) acc Y.env) R s:=by
 obtain⟨W,⟨m0,w0⟩,turn⟩:=body
 have stat:∀ {H':Hp},(∀b∈fp,H' b=none)->∀b∈fp,iH Y pins H' b:=λhn b hb=>⟨hn b hb,(hf b hb).2⟩
 refine GG heq hk (λk s'=>∃i σ' H',Inv Y pins σ' H' s'/\tn i s'.heap/\(∀b∈fp,H' b=none)/\W i k σ' H') ?_ m0 ⟨0,_,_,I,st,λb hb=>(hf b hb).1,w0⟩
 rintro k s5 ⟨i,σ5,H5,I5,st5,fr5,w5⟩
 rcases turn i k σ5 H5 w5 with ⟨stop,qn⟩|⟨go,Nn,hN,step⟩
 ·refine wpAny_mono (T.done Y rfl rfl rfl hc i pins s5 σ5 H5 (λ_ _=>False) I5 (stat fr5) st5 stop) (λr s6 hr=>?_) (λ_ _ z=>z)
  obtain⟨rfl,I6⟩:=hr
  exact hR i σ5 H5 s6 I6 qn
 ·refine wpAny_mono (T.item Y rfl rfl rfl hc i pins s5 σ5 H5 (λ_ _=>False) I5 (stat fr5) st5 go) (λr s6 h6=>?_) (λ_ _ z=>z)
  obtain⟨u,rfl,h6⟩:=h6
  refine wpAny_mono h6 (λ_ s7 h7=>?_) (λ_ _ z=>z)
  obtain⟨x,H7,I7,r7,y7,st7,fr7⟩:=h7
  have I7':=I7.pinned (stat fr7) (T.obj _ _ st7)
  have again:∀ {σ':St} {H':Hp} {s':Shared},Inv Y (pins++mM fp s7.heap) σ' H' s'->Nn σ' H'->∃m,m<k/\∃i σ' H',Inv Y pins σ' H' s'/\tn i s'.heap/\(∀b∈fp,H' b=none)/\W i m σ' H':=fun {σ' H' s'} J7 n7=>by
   obtain⟨m',hm,w7⟩:=hN σ' H' n7
   have pin:∀b∈fp,∀o,s7.heap.get? b=some o->s'.heap.get? b=some o/\H' b=none:=λb hb o e=>by
    have z:=J7.pin (b,o) (List.mem_append_right _ (List.mem_append_right _ (dX hb e)))
    exact⟨z.1,z.2.1⟩
   refine⟨m',hm,i+1,σ',H',J7.unpinned,T.keep _ _ _ st7 λb hb o e=>(pin b hb o e).1,λb hb=>?_,w7⟩
   obtain⟨o,e,_⟩:=T.obj _ _ st7 b hb
   exact (pin b hb o e).2
  have hg':=hg _ s7 σ5 H7 x u _ I7' r7 (step x H7 y7)
  rw[hx] at hg'
  refine wpAny_mono hg' (λ_ s8 h8=>?_) λ_ _ z=>z
  obtain⟨σ8,H8,I8,q8⟩:=h8
  have ht':=ht _ s8 σ8 H8 _ I8 q8
  rw[hx] at ht'
  refine wpAny_mono ht' (λok s9 h9=>?_) λ_ _ z=>z
  obtain⟨H9,I9,q9⟩:=h9
  cases ok with
  | false=>
   rw[if_neg Bool.false_ne_true] at q9 ⊢
   exact again I9 q9
  | true=>
   rw[if_pos rfl] at q9 ⊢
   refine wpAny_mono (ha _ s9 σ8 H9 _ I9 q9) (λ_ s10 h10=>?_) λ_ _ z=>z
   obtain⟨σ10,H10,I10,q10⟩:=h10
   exact again I10 q10
theorem iM {prog:Program} {w:World} {A:Around} {R:Result->Shared->Prop} {s:Shared} {e:Expr} {d:Nat} {it acc:Value} {env:Env} {target iter:Expr} {ifs:List Expr} (hk:CompKind e) (hcl:(clausesOf e)[d]? =some ⟨target,iter,ifs,0⟩)
  (h0:codeAny (model prog w) A (.compLoop e d it acc env) R s) (h:wpAny (model prog w) A (pyIter it) (λit' s'=>codeAny (model prog w) A (.compLoop e d it' acc env) R s') (λ_ _=>False) s):codeAny (model prog w) A (.compStart e d it acc env) R s:=by
 have hq:(Code.compLoop e d it acc env).quiet=true:=by cases hk<;>rfl
 have hq':∀it',(Code.compLoop e d it' acc env).quiet=true:=λit'=>by cases hk<;>rfl
 have go:wpAny (model prog w) A ((compStart e d it acc env).onRaise λx=>do noteFrame x env;standAt theWindowsPlace) (λfin s'=>match fin with|.done f=>R (.ok f) s'|.again c'=>c'.quiet=true/\codeAny (model prog w) A c' R s') (λe s'=>R (.error e) s') s:=?_
 ·refine codeAny_of_tree ?_
  cases hk<;>exact go
 refine wpAny_notedAt ?_
 unfold compStart
 rw[hcl]
 rw[if_neg (by show ¬((0:Nat) !=0)=true;decide)]
 show wpAny _ _ (ask >>=_) _ _ s
 refine a0b (wpAny_askSetting (wpAny_ite ?_))
 split
 ·first
   |exact a0b (a0d (a0d (And.intro hq h0)))
   |exact a0d (And.intro hq h0)
 ·refine a0b (wpAny_rule ?_)
  show wpAny _ _ (standAt iter.pos >>=_) _ _ s
  exact a0b (wpAny_standAt (a0b (wpAny_mono h (λit' s' h'=>a0d (And.intro (hq' it') h')) λ_ _ x=>x.elim)))
def a42(wi:TI)(g:TG)(tt:TT)(ta:TS):TS:=λD σ H=>wi σ H λJ H1=>n0 J g (ID tt ta) D σ H1
theorem a0H {Y:Cx} {e:Expr} (hk:CompKind e) (hc:Y.calm=true) (hx:Y.xe=λ_ _=>False) {acc:Value} {g0:Comprehension} {target iter:Expr} {ifs:List Expr} {act:Sem Unit} (hcl:clausesOf e=[g0,⟨target,iter,ifs,0⟩]) (heq:∀it:Value,compTurn e 1 it acc Y.env=eY iter.pos target ifs act e 1 it acc Y.env)
  {wi:TI} {g:TG} {tt:TT} {ta:TS} (hi:PI Y target iter wi) (hg:PG Y target g) (ht:IT Y ifs tt) (ha:PB Y act ta) (hs:∀x,foldedSetIterable iter Y.env x=pure x) :
  PB Y (do let x <- eval iter Y.env;standAt iter.pos;let x <- foldedSetIterable iter Y.env x;let _ <- runOwn (.compStart e 1 (<- holding [x] (pyIter x)) acc Y.env) Y.env) (a42 wi g tt ta):=by
 intro pins s σ H D I h
 have h0:=hi pins s σ H _ I h
 rw[hx] at h0
 refine a0b (wpAny_mono h0 (λv s1 h1=>?_) λ_ _ z=>z)
 refine a0b (wpAny_standAt (a0b (wpAny_of_eq (hs v) ?_)))
 refine a0b (wpAny_holding (wpAny_mono h1 (λitv s2 h2=>?_) λ_ _ z=>z))
 obtain⟨it,fp,tn,J,H2,rfl,I2,T,st2,f2,body⟩:=h2
 have run:∀(R:Result->Ab->Prop),(∀(i:Nat) (σ':St) (H':Hp) (s':Ab),Inv Y pins σ' H' s'->D.nx σ' H'->R (.ok .next) s')->codeAny (model Y.prog Y.w) Y.A (.compLoop e 1 (.ref it) acc Y.env) R s2:=λR hR=>rP hk hc hx (heq _) hg ht ha T I2 st2 f2 body hR
 refine a0b (wpAny_runOwn (h:=none) ?_)
 refine iM (A:=Y.A) hk (by rw[hcl];rfl) (run _ λi σ' H' s' I' q=>?_) (T.self _ 0 _ _ _ st2 (run _ λi σ' H' s' I' q=>?_))
 ·exact a0d ⟨σ',H',I',q⟩
 ·exact a0d ⟨σ',H',I',q⟩
theorem CF {prog:Program} {w:World} {A:Around} {E:Value->Shared->Prop} {s:Shared} {a:Addr} {S:Int->Bool} {n:Nat} {k:Int} {key:Value} {Q:Value->Shared->Prop} (hkey:(intKind prog w).is k key=true) (hsc:key.scannable=true) (hS:bC prog w a S n s.heap) (hroom:n+1<scanBound)
  (h:∀h',Heap.SameBut a s.heap h'->bC prog w a (λk'=>S k'||decide (k'=k)) (if S k then n else n+1) h'->Q .none {s with heap:=h',toks:=s.toks+1}) :
  wpAny (model prog w) A (call (.builtin "set.add") [.ref a,key]) Q E s:=by
 have hT:s.TypeIs (.ref a) "set":=by
  obtain⟨o,es,ep,t,ho,hex,_⟩:=hS
  exact⟨o,ho,hex.1⟩
 refine wpAny_call_entry F.slot_set_add hT F.entry_set_add ?_ (F.args_set_add_2 _ _)
 unfold Builtin.«set.add» Builtin.Frozenset.oneOther
 simp only[List.isEmpty_nil,bind_assoc]
 unfold Builtin.Frozenset.addrOf setAdd
 refine a0b (a0d ?_)
 try dsimp only
 refine a0b (a0d ?_)
 try dsimp only
 refine a0b ?_
 refine wpAny_holding ?_
 refine a0b ((intKind prog w).pyHash hkey ?_)
 refine kF (s:={s with toks:=s.toks+1}) hkey hsc hS hroom λh' hsb hS'=>?_
 show wpAny _ _ (ret Value.none) _ _ _
 exact a0d ⟨_,rfl,h h' hsb hS'⟩
def a19(P:Program)(w:World)(te:TE)(acc:Ac):TS:=λD σ H=>te σ H λv H1=>∃i S n,v= .int i/\H1 acc=some (dG P w acc S n)/\n<1000/\D.nx σ (b7 H1 acc (dG P w acc (λk=>S k||decide (k=i)) (if S i then n else n+1)))
theorem WW{Y:Cx}(hx:Y.xe=λ_ _=>False){elt:Expr}{te:TE}{acc:Addr}(he:PE Y elt te):PB Y (do let v <- eval elt Y.env;standAt elt.pos;let _ <- call (.builtin "set.add") [.ref acc,v]) (a19 Y.prog Y.w te acc):=by
 intro pins s σ H D I h
 have h0:=he pins s σ H _ I h
 rw[hx] at h0
 refine a0b (wpAny_mono h0 (λv s1 h1=>?_) λ_ _ z=>z)
 obtain⟨x,H1,I1,r1,i,S,n,rfl,ha,hn,q⟩:=h1
 obtain⟨tk,rfl⟩:=r1
 obtain⟨hX,_,_⟩ : bC Y.prog Y.w acc S n s1.heap/\(∃o,s1.heap.get? acc=some o)/\(∀h1 h2:Heap,bC Y.prog Y.w acc S n h1->(∀o,h1.get? acc=some o->h2.get? acc=some o)->bC Y.prog Y.w acc S n h2):=I1.hok acc _ ha
 refine a0b (wpAny_standAt (a0b (CF (k:=i) (by simp[intKind,Value.isInt]) rfl hX (Nat.lt_of_le_of_lt (Nat.succ_le_of_lt hn) (by decide)) λh' sb hX'=>a0d ⟨σ,_,?_,q⟩)))
 refine I1.write (t':=s1.toks+1) (x:=acc) (e:=acc) (by rw[ha];trivial) (.inl rfl) (λb u hb e=>(sb.2 b hb).trans e) ?_ hX'.ok
 obtain⟨o,_,_,_,ho,_⟩:=hX'
 exact⟨o,ho⟩
def a3T(P:Program)(w:World)(wi:TI)(g:TG)(tt:TT)(ta:Addr->TS)(n:Nat)(cap:List Nat):TE:=λσ H Q=>wi σ H λJ H1=>∀acc,H1 acc=none->
 n0 J g (ID tt (ta acc)) {nx:=λ_ H'=>Q (.ref acc) H',rt:=λ_ _=>False} (CU n cap σ) (b7 H1 acc (dG P w acc (λ_=>false) 0))
section
variable{X:Cx}{elt target iter:Expr}{ifs:List Expr}{scope:Scope}{pos:Pos}{N':List Str}{n:Nat}{cap:List Nat}{wi:TI}{g:TG}{tt:TT}{ta:Ac->TS}{gs:List Comprehension}{act:Value->Env->Sem Unit}
theorem a0K (hc:X.calm=true) (S:LcOk X.N X.env.scope scope N' n cap) (heq:∀it acc env,compTurn (.SetComp elt (⟨target,iter,ifs,0⟩::gs) scope pos) 0 it acc env=eY iter.pos target ifs (act acc env) (.SetComp elt (⟨target,iter,ifs,0⟩::gs) scope pos) 0 it acc env)
  (hi:PI X target iter wi) (hg:∀C s H fp,PG (aS X N' scope C s H fp) target g)
  (ht:∀C s H fp,IT (aS X N' scope C s H fp) ifs tt) (ha:∀acc C s H fp,PB (aS X N' scope C s H fp) (act (.ref acc) (aS X N' scope C s H fp).env) (ta acc)) (hs:∀x,foldedSetIterable iter X.env x=pure x:=by intro _;rfl) :
  PE X (.SetComp elt (⟨target,iter,ifs,0⟩::gs) scope pos) (a3T X.prog X.w wi g tt ta n cap):=by
 intro pins s σ H Q I h
 have hfree:∀y∈scope.names,y.2= .free->∃c,X.env.cells.lookup y.1=some c:=λy hy e=>I.ok.has y.1 (.inl (S.frees y hy e))
 show wpAny _ _ (comprehension (.SetComp elt (⟨target,iter,ifs,0⟩::gs) scope pos) scope X.env (firstIterPos (⟨target,iter,ifs,0⟩::gs) pos) (newSet (.type "set")) (firstAsync (⟨target,iter,ifs,0⟩::gs)) (firstIter (⟨target,iter,ifs,0⟩::gs) X.env)) _ _ s
 refine wpAny_comprehension_free (use:=none) rfl hs (jD hfree) S.kind S.names ?_
 refine cH (hi pins s σ H _ I h) λv s1 h1=>cH h1 λitv s2 h2=>?_
 obtain⟨it,fp,tn,J,H2,rfl,I2,T,st2,f2,body⟩:=h2
 refine LH λo hX=>?_
 have hacc:H2 s2.heap.objs.size=none:=I2.fresh
 have kp:∀b u,s2.heap.get? b=some u->(s2.heap.push o).get? b=some u:=λb u e=>a0e _ e
 have I3:Inv X pins σ (b7 H2 s2.heap.objs.size (dG X.prog X.w s2.heap.objs.size (λ_=>false) 0)) {s2 with heap:=s2.heap.push o}:=I2.laid (t':=s2.toks) kp (Nat.le_refl _) hX.ok
 have body:=body _ hacc
 have hlt:∀b∈fp,b<s2.heap.objs.size:=λb hb=>by
  obtain⟨o,e,_⟩:=T.obj 0 _ st2 b hb
  exact Heap.lt_size e
 have hf3:∀b∈fp,iH X pins (b7 H2 s2.heap.objs.size (dG X.prog X.w s2.heap.objs.size (λ_=>false) 0)) b:=λb hb=>
  ⟨by rw[aD (Nat.ne_of_lt (hlt b hb))];exact (f2 b hb).1,(f2 b hb).2⟩
 refine wpAny_newFunctionEnv S.nocell (by intro y hy;cases hy) (λh4 ns4 sb4=>?_) S.kind
 generalize hs3:({s2 with heap:=s2.heap.push o}:Ab)=s3 at*
 have hsz:s2.heap.objs.size<s3.heap.objs.size:=by rw[<- hs3,Heap.size_push];exact Nat.lt_succ_self _
 have k4:∀b o,s3.heap.get? b=some o->h4.get? b=some o:=λb o e=>(sb4.2 b (Nat.ne_of_lt (Heap.lt_size e))).trans (a0e _ e)
 generalize hH3:b7 H2 s2.heap.objs.size (dG X.prog X.w s2.heap.objs.size (λ_=>false) 0)=H3 at*
 have IY:=nM (tk:=s3.toks+([]:List (Str×Value)).length) S I3 hf3 (λb hb=>Nat.lt_trans (hlt b hb) hsz) ns4 k4
 have fpY:∀b∈fp,iH (aS X N' scope s3.heap.objs.size s3 H3 fp) [] H3 b:=λb hb=>by
  obtain⟨f0,f1,f2',f3,f4,f5⟩:=hf3 b hb
  refine⟨f0,Nat.ne_of_lt (Nat.lt_trans (hlt b hb) hsz),λz=>?_,.inl hb,λx c e=>f4 x c (kG hfree e),λp hp=>absurd hp (by simp[aS])⟩
  rcases List.mem_cons.mp (I3.stkSub b z) with z|z
  ·exact f1 z
  ·exact f2' z
 have tn4:tn 0 h4:=T.keep 0 _ _ st2 λb hb o e=>k4 b o (by rw[<- hs3];exact a0e _ e)
 have loop:codeAny (model X.prog X.w) X.A (.compLoop (.SetComp elt (⟨target,iter,ifs,0⟩::gs) scope pos) 0 (.ref it) (.ref s2.heap.objs.size) (aS X N' scope s3.heap.objs.size s3 H3 fp).env)
   (compPost (model X.prog X.w) X.A X.xe none (EP X pins σ Q) (.ref s2.heap.objs.size) s3.heap.objs.size) {s3 with heap:=h4,toks:=s3.toks+([]:List (Str×Value)).length}:=by
  refine rP (Y:=aS X N' scope s3.heap.objs.size s3 H3 fp) (.set _ _ _ _) hc rfl (heq _ _ _) (hg _ _ _ _) (ht _ _ _ _) (ha _ _ _ _ _) T IY tn4 fpY body λi σ5 H5 s6 I6 qn=>?_
  obtain⟨m,hn,_⟩:=I6.loc
  refine⟨m,hn,λh' hs'=>⟨.ref s2.heap.objs.size,H5,?_,rfl,qn⟩⟩
  have ub:=I6.base
  have ne:∀b o,s3.heap.get? b=some o->b≠s3.heap.objs.size:=λb o e=>Nat.ne_of_lt (Heap.lt_size e)
  refine I3.call' (s':={s6 with heap:=h'}) (ch:=fp) I6.os ⟨λb o e z1 z2 z3=>(hs'.2 b (ne b o e)).trans (ub.keep b o e z1 z2 z3),λb o e z1 z2 z3=>?_,ub.free,λb o e z=>?_,ub.tups,ub.frzs,ub.tbls⟩ (qQ I6.hok I6.free hs') I6.bare λb hb=>⟨(hf3 b hb).2.2.2.1,(hf3 b hb).2.1,(hf3 b hb).2.2.2.2.1,(hf3 b hb).2.2.2.2.2⟩
  ·obtain⟨sl,e'⟩:=ub.slot b o e z1 z2 z3
   exact⟨sl,(hs'.2 b (ne b o e)).trans e'⟩
  ·obtain⟨o',e'⟩:=ub.there b o e z
   exact⟨o',(hs'.2 b (ne b o e)).trans e'⟩
 exact iM (.set _ _ _ _) rfl loop (T.self _ 0 _ _ _ tn4 loop)
end
def aM(ks:List Int):List Int:=KR ks.eraseDups
theorem bF{ks:List Int}{k:Int}:k∈aM ks↔k∈ks:=by
 unfold aM
 rw[(mC _).mem_iff,List.mem_eraseDups]
theorem NH(ks:List Int):(aM ks).Pairwise (·<=·):=xQ _
theorem jW:∀(n:Nat) (ks:List Int),ks.length<=n->ks.eraseDups.Nodup
 | 0,ks,h=>by
  have:ks=[]:=List.length_eq_zero_iff.mp (by omega)
  subst this;simp
 |n+1,[],h=>by simp
 | n+1,k::ks,h=>by
  rw[List.eraseDups_cons,List.nodup_cons]
  refine⟨λz=>?_,jW n _ ?_⟩
  ·rw[List.mem_eraseDups,List.mem_filter] at z
   simp at z
  ·have:=List.length_filter_le (λb=>!b==k) ks
   simp at h;omega
theorem fP(ks:List Int):(aM ks).Pairwise (· < ·):=by
 have h2:(aM ks).Nodup:=(mC _).nodup_iff.mpr (jW _ ks (Nat.le_refl _))
 exact ((NH ks).and h2).imp fun {x y} ⟨h1,h2⟩=>by omega
theorem HL{as bs:List Int}(ha:as.Pairwise (· < ·))(hb:bs.Pairwise (· < ·))(h:∀k,k∈as↔k∈bs):as=bs:=by
 refine uT ?_ (ha.imp λh=>by omega) (hb.imp λh=>by omega)
 exact (List.perm_ext_iff_of_nodup (ha.imp λh=>by omega) (hb.imp λh=>by omega)).mpr h
theorem BM{ks ms:List Int}(hm:ms.Pairwise (· < ·))(h:∀k,k∈ms↔k∈ks):ms=aM ks:=HL hm (fP ks) λk=>(h k).trans bF.symm
abbrev BU:=List Int->b5->(List Int->b5->Prop)->Prop
def sJ(te:aR):BU:=λacc env K=>te env λv=>match v with
 |.int i=>acc.length<63/\K (acc++[i]) env
 |_=>False
def k9(g:hW)(tt:eS)(a:BU)(K:List Int->b5->Prop):List PV->List Int->b5->Prop
 |[],acc,env=>K acc env
 |x::xs,acc,env=>g x env λenv1=>tt env1 λk=>Br k (a acc env1 λacc' env2=>k9 g tt a K xs acc' env2) (k9 g tt a K xs acc env1)
def AO(s:lM)(g:hW)(tt:eS)(a:BU):BU:=λacc env K=>s env λitems=>k9 g tt a K items acc env
def lD(s:lM)(g:hW)(tt:eS)(a:BU)(cp:b5->b5):aR:=λenv Q=>s env λitems=>k9 g tt a (λacc _=>Q (.lst ((aM acc).map PV.int))) items [] (cp env)
structure SetIn(P:Program)(w:World)(acc:Addr)(H0:Hp)(W:Wd)(H:Hp)(ks:List Int):Prop where
 ex:∃S n,H acc=some (dG P w acc S n)/\(∀k,S k=true↔k∈ks)/\n<=ks.length
 few:ks.length<=63
 new:H0 acc=none
 nF:¬W.F acc
 nS:¬W.S acc
 nL:¬W.L acc
 nZ:¬W.Z acc
structure Ga(acc:Addr)(W:Wd)(H:Hp)(W':Wd)(H':Hp):Prop where
 ga:∀W1 H1,H1 acc=none->Go W1 H1 W H->Go W1 H1 W' H'
 ex:Ex W H W' H'
theorem Ga.refl{acc:Ac}{W:Wd}{H:Hp}:Ga acc W H W H:=⟨λ_ _ _ g=>g,.refl⟩
theorem Ga.trans{acc:Ac}{W W1 W2:Wd}{H H1 H2:Hp}(a:Ga acc W H W1 H1)(b:Ga acc W1 H1 W2 H2):Ga acc W H W2 H2:=⟨λV G h g=>b.ga V G h (a.ga V G h g),a.ex.trans b.ex⟩
theorem Go.toGa{acc:Ac}{W W':Wd}{H H':Hp}(g:Go W H W' H')(w:Wok W H):Ga acc W H W' H':=⟨λ_ _ _ k=>k.trans g,g.ex w⟩
theorem SetIn.go{P:Program}{w:World}{acc:Addr}{H0:Hp}{W W':Wd}{H H':Hp}{ks:List Int}(x:SetIn P w acc H0 W H ks)(g:Go W H W' H'):SetIn P w acc H0 W' H' ks:=by
 obtain⟨S,n,h1,h2,h3⟩:=x.ex
 exact⟨⟨S,n,g.kp acc _ h1 x.nS,h2,h3⟩,x.few,x.new,g.nFF h1 x.nF,g.nSS h1 x.nS,by rw[g.kl];exact x.nL,g.nZZ h1 x.nZ⟩
def L9(P:Program)(w:World)(K:PySem.W.Frag)(mb mn:List Md)(a:BU)(acc:Addr):TS:=λD σ H=>∃(env:b5) (W0:Wd) (H0:Hp) (W:Wd) (ks:List Int) (Kp:List Int->b5->Prop),Rl K mb W0 H0 W σ env H/\SetIn P w acc H0 W H ks/\a ks env Kp/\
 ∀(env':b5) (W':Wd) (σ':St) (H':Hp) (ks':List Int),Rl K mn W0 H0 W' σ' env' H'->Ga acc W H W' H'->SetIn P w acc H0 W' H' ks'->Kp ks' env'->D.nx σ' H'
structure VB(Y:Cx)(mb mn:List Md)(m:Addr->Sem Unit)(a:BU):Prop where
 h:∀acc,PB Y (m acc) (L9 Y.prog Y.w Y.K mb mn a acc)
theorem PB.imp{Y:Cx}{m:Sem Unit}{t t':TS}(h:PB Y m t)(k:∀D σ H,t' D σ H->t D σ H):PB Y m t':=λpins s σ H D I q=>h pins s σ H D I (k D σ H q)
theorem YN {Y:Cx} (hx:Y.xe=λ_ _=>False) {mb:List Md} {elt:Expr} {te:aR} (hb:jT mb=true) (he:VE Y mb elt .bw te):VB Y mb mb (λacc=>do let v <- eval elt Y.env;standAt elt.pos;let _ <- call (.builtin "set.add") [.ref acc,v]) (sJ te):=⟨λacc=>(WW hx he.h).imp λD σ H h=>by
 obtain⟨env,W0,H0,W,ks,Kp,R,x,q,k⟩:=h
 refine⟨env,W0,H0,W,_,R,q,λv u W1 H1 g1 r1 q1=>?_⟩
 have x1:=x.go g1
 obtain⟨S,n,h1,h2,h3⟩:=x1.ex
 cases v with
 | int i=>
  have:=Rep.ofInt r1
  subst this
  have hfew:=x1.few
  refine⟨i,S,n,rfl,h1,by omega,?_⟩
  refine k env W1 σ _ (ks++[i]) ((R.step g1).tmp hb x1.new x1.nF x1.nS x1.nL x1.nZ h1 rfl (λ_ _ z=>by cases z)) ?_ ⟨⟨_,_,aU,λj=>?_,?_⟩,by have:=q1.1;simp;omega,x1.new,x1.nF,x1.nS,x1.nL,x1.nZ⟩ q1.2
  ·refine (g1.toGa R.ok).trans ⟨λV G hG g=>g.tmp hG x1.nF x1.nS x1.nZ,⟨λ_ h=>h,λb o f e=>by rw[aD (λz=>by subst z;exact x1.nF f)];exact e,λb o im e=>by rw[aD (λz=>by subst z;rw[h1] at e;cases e;cases im)];exact e⟩⟩
  ·rw[Bool.or_eq_true,h2 j,decide_eq_true_eq,List.mem_append,List.mem_singleton]
  ·rw[List.length_append]
   split
   ·exact Nat.le_trans h3 (Nat.le_add_right _ _)
   ·exact Nat.succ_le_succ h3
 |_=>exact q1.elim⟩
theorem EE {P:Program} {w:World} {K:PySem.W.Frag} {mb m1 m2:List Md} {eli:El} {g:hW} {tt:eS} {a:BU} {acc:Addr} {J:It} {items:List PV} {W0 W1:Wd} {H0 H1:Hp} {Kp:List Int->b5->Prop} {D:Ends} (hle:iN m1 mb=true) (hle2:iN m2 mb=true) (sr:Src J eli H0 W1 H1 items)
  {σ:St} {env:b5} {ks:List Int} (q:k9 g tt a Kp items ks env) {W2:Wd} {H2:Hp} (R:Rl K mb W0 H0 W2 σ env H2) (x12:Ex W1 H1 W2 H2) (x:SetIn P w acc H0 W2 H2 ks)
  (k:∀(env':b5) (W':Wd) (σ':St) (H':Hp) (ks':List Int),Rl K mb W0 H0 W' σ' env' H'->Ga acc W2 H2 W' H'->SetIn P w acc H0 W' H' ks'->Kp ks' env'->D.nx σ' H') :
  n0 J (sD K mb m1 eli g) (ID (pN K m1 tt) (L9 P w K m1 m2 a acc)) D σ H2:=by
 refine ⟨λi m σb Hb=>m=items.length-i/\i<=items.length/\∃(envb:b5) (Wb:Wd) (kb:List Int),Rl K mb W0 H0 Wb σb envb Hb/\Ga acc W2 H2 Wb Hb/\SetIn P w acc H0 Wb Hb kb/\k9 g tt a Kp (items.drop i) kb envb,
  ⟨items.length,by simp,Nat.zero_le _,env,W2,ks,R,.refl,x,by simpa using q⟩,?_⟩
 rintro i m σb Hb ⟨rfl,hi,envb,Wb,kb,Rb,gab,xb,qb⟩
 have exb:Ex W1 H1 Wb Hb:=x12.trans gab.ex
 by_cases hlt:i<items.length
 ·rw [List.drop_eq_getElem_cons hlt] at qb
  refine .inr ⟨sr.go i Wb Hb exb hlt,λσ' H'=>i+1<=items.length/\∃(envb:b5) (Wb:Wd) (kb:List Int),Rl K mb W0 H0 Wb σ' envb H'/\Ga acc W2 H2 Wb H'/\SetIn P w acc H0 Wb H' kb/\k9 g tt a Kp (items.drop (i+1)) kb envb,λσ' H' z=>⟨items.length-(i+1),by omega,rfl,z.1,z.2⟩,λv H3 y=>?_⟩
  obtain⟨g3,xx,ex,rx⟩:=sr.yld i Wb Hb v H3 exb Rb.ok hlt y
  rw[a0a hlt] at ex
  cases ex
  refine⟨envb,W0,H0,Wb,_,_,Rb.step g3,rx,qb,λenv' σ' R' z=>?_⟩
  refine⟨env',W0,H0,Wb,_,R',z,λkk W4 H4 g4 q4=>?_⟩
  have x4:=(xb.go g3).go g4
  have ga4:Ga acc W2 H2 W4 H4:=(gab.trans (g3.toGa Rb.ok)).trans (g4.toGa g3.ok)
  cases kk with
  | false=>
   dsimp only
   rw[if_neg Bool.false_ne_true]
   exact⟨hlt,env',W4,kb,(R'.step g4).less hle,ga4,x4,q4⟩
  | true=>
   dsimp only
   rw[if_pos rfl]
   exact⟨env',W0,H0,W4,kb,_,R'.step g4,x4,q4,λenv5 W5 σ5 H5 k5 R5 ga5 x5 q5=>⟨hlt,env5,W5,k5,R5.less hle2,ga4.trans ga5,x5,q5⟩⟩
 ·have e:i=items.length:=by omega
  subst e
  rw[List.drop_length] at qb
  exact .inl ⟨sr.stop Wb Hb exb,k envb Wb σb Hb kb Rb gab xb qb⟩
theorem a1M {Y:Cx} (hc:Y.calm=true) (hx:Y.xe=λ_ _=>False) {elt target0 iter0 target iter:Expr} {ifs0 ifs:List Expr} {scope:Scope} {pos:Pos} {mb m1 m2:List Md} {eli:El} {s:lM} {g:hW} {tt:eS} {a:BU}
  (hle:iN m1 mb=true) (hle2:iN m2 mb=true) (hi:VI Y mb eli target iter s) (hg:VG Y mb m1 eli target g) (ht:VTs Y m1 ifs tt) (ha:VB Y m1 m2 (λacc=>do let v <- eval elt Y.env;standAt elt.pos;let _ <- call (.builtin "set.add") [.ref acc,v]) a)
  (hs:∀x,foldedSetIterable iter Y.env x=pure x:=by intro _;rfl) :
  VB Y mb mb (λacc=>do let x <- eval iter Y.env;standAt iter.pos;let x <- foldedSetIterable iter Y.env x;let _ <- runOwn (.compStart (.SetComp elt [⟨target0,iter0,ifs0,0⟩,⟨target,iter,ifs,0⟩] scope pos) 1 (<- holding [x] (pyIter x)) (.ref acc) Y.env) Y.env) (AO s g tt a):=
 ⟨λacc=>(a0H (e:=.SetComp elt [⟨target0,iter0,ifs0,0⟩,⟨target,iter,ifs,0⟩] scope pos) (.set _ _ _ _) hc hx (act:=do let v <- eval elt Y.env;standAt elt.pos;let _ <- call (.builtin "set.add") [.ref acc,v]) rfl (λit=>rfl) hi.h hg.h ht.h (ha.h acc) hs).imp λD σ H h=>by
 obtain⟨env,W0,H0,W,ks,Kp,R,x,q,k⟩:=h
 refine⟨env,W0,H0,W,_,R,q,λitems W1 H1 J g1 sr q1=>?_⟩
 exact EE hle hle2 sr q1 (R.step g1) .refl (x.go g1) λenv' W' σ' H' ks' R' ga x' q'=>k env' W' σ' H' ks' R' ((g1.toGa R.ok).trans ga) x' q'⟩
theorem RS {P:Program} {w:World} {K:PySem.W.Frag} {md mb m2:List Md} {eli:El} {s:lM} {g:hW} {tt:eS} {a:BU} {n:Nat} {cap:List Nat} {σ:St} {H:Hp} {Q:VK} {cp:b5->b5} (hcp:∀env,cp env=oW n cap env) (hle:iN mb (fE n cap md)=true) (hle2:iN m2 (fE n cap md)=true)
  (h:eK K md (.o .fl) (lD s g tt a cp) σ H Q):TN (B8 P w) (BK (a3T P w (vN K md eli s) (sD K (fE n cap md) mb eli g) (pN K mb tt) (λacc=>L9 P w K mb m2 a acc) n cap) NB) σ H Q:=by
 obtain⟨env,W0,H0,W,Q',R,q,k⟩:=h
 refine⟨env,W0,H0,W,_,R,q,λitems W1 H1 J g1 sr q1=>?_⟩
 intro acc hacc
 rw[hcp] at q1
 have h0acc:H0 acc=none:=R.go.free (g1.free hacc)
 have R1:=R.step g1
 have Rb:=DN (n:=n) (cap:=cap) R1 (λa=>∃o,H1 a=some o) (λa o e=>⟨o,e⟩)
 generalize hW1b:({W1 with L:=λa=>∃o,H1 a=some o}:Wd)=W1b at Rb
 generalize hW0b:({W0 with L:=λa=>∃o,H1 a=some o}:Wd)=W0b at Rb
 have f1:W1b.F=W1.F:=by rw[<- hW1b]
 have s1:W1b.S=W1.S:=by rw[<- hW1b]
 have l1:¬W1b.L acc:=by rw[<- hW1b];rintro⟨o,e⟩;rw[hacc] at e;cases e
 have okb:Wok W1b H1:=Rb.ok
 have nF1:¬W1b.F acc:=λz=>okb.offF hacc z
 have nS1:¬W1b.S acc:=λz=>okb.offS hacc z
 have nZ1:¬W1b.Z acc:=λz=>okb.offZ hacc z
 have z1:W1b.Z=W1.Z:=by rw[<- hW1b]
 have gl:Go W1b H1 W1b (b7 H1 acc (dG P w acc (λ_=>false) 0)):=Go.laid okb hacc
 have exW:Ex W1 H1 W1b (b7 H1 acc (dG P w acc (λ_=>false) 0)):=by
  have x:=gl.ex okb
  exact⟨λa h=>by rw[f1];exact h,λa o h e=>x.kp a o (by rw[f1];exact h) e,x.im⟩
 refine EE hle hle2 sr q1 (Rb.step gl) exW ⟨⟨_,_,aU,λk=>by simp,Nat.le_refl 0⟩,Nat.zero_le _,h0acc,nF1,nS1,l1,nZ1⟩ λenvb Wb σb Hb kb Rr ga x qb=>?_
 have gb:Go W1b H1 Wb Hb:=ga.ga W1b H1 hacc gl
 have gf:Go W H {Wb with L:=W.L} Hb:=by
  have a:=g1
  refine⟨λb h=>gb.lF b (by rw[f1];exact a.lF b h),λb h=>gb.lS b (by rw[s1];exact a.lS b h),λb h=>?_,λb h=>?_,λb o e s=>?_,⟨gb.ok.fF,gb.ok.sS,gb.ok.dj,gb.ok.zZ,gb.ok.zF,gb.ok.zS⟩,?_,rfl,λb h=>gb.lZ b (by rw[z1];exact a.lZ b h),λb h=>?_⟩
  ·rcases gb.nF b h with z|z
   ·exact a.nF b (by rw[<- f1];exact z)
   ·exact .inr (a.free z)
  ·rcases gb.nS b h with z|z
   ·exact a.nS b (by rw[<- s1];exact z)
   ·exact .inr (a.free z)
  ·refine gb.kp b o (a.kp b o e s) ?_
   rw[s1];exact a.nSS e s
  ·show Wb.K=W.K
   rw[gb.kk,<- hW1b];exact a.kk
  ·rcases gb.nZ b h with z|z
   ·exact a.nZ b (by rw[<- z1];exact z)
   ·exact .inr (a.free z)
 obtain⟨S,m,h1,h2,h3⟩:=x.ex
 refine⟨acc,S,m,rfl,h1,by have:=x.few;omega,λl ms hl hlt hms=>?_⟩
 have:ms=aM kb:=BM hlt λj=>(hms j).symm.trans (h2 j)
 subst this
 exact (k.after gf).newL gf.ok hl (p3 _) qb
theorem a1L (elt target iter target2 iter2 : Expr) (ifs ifs2 : List Expr) (scope : Scope) (pos : Pos) (it acc : Value) (env : Env) :
   compTurn (.SetComp elt [⟨target,iter,ifs,0⟩,⟨target2,iter2,ifs2,0⟩] scope pos) 0 it acc env=eY iter.pos target ifs (do let x <- eval iter2 env;standAt iter2.pos;let x <- foldedSetIterable iter2 env x;let _ <- runOwn (.compStart (.SetComp elt [⟨target,iter,ifs,0⟩,⟨target2,iter2,ifs2,0⟩] scope pos) 1 (<- holding [x] (pyIter x)) acc env) env) (.SetComp elt [⟨target,iter,ifs,0⟩,⟨target2,iter2,ifs2,0⟩] scope pos) 0 it acc env:=by
  have e:compTurn (.SetComp elt [⟨target,iter,ifs,0⟩,⟨target2,iter2,ifs2,0⟩] scope pos) 0 it acc env=(do
      standAt iter.pos
      match <- pyNext it with
      |none=>pure (.done .next)
      | some v=>
        letOwnedTupleGo target it v
        assign target env v
        let mut ok:=true
        for c in ifs do
          if ok then ok <- isTrue c env (eval c env)
        if ok then
          let x <- eval iter2 env
          standAt iter2.pos
          let x <- foldedSetIterable iter2 env x
          let _ <- runOwn (.compStart (.SetComp elt [⟨target,iter,ifs,0⟩,⟨target2,iter2,ifs2,0⟩] scope pos) 1 (<- holding [x] (pyIter x)) acc env) env
        again (.compLoop (.SetComp elt [⟨target,iter,ifs,0⟩,⟨target2,iter2,ifs2,0⟩] scope pos) 0 it acc env)):=by rfl
  rw[e]
  unfold eY
  refine bind_congr λ_=>?_
  refine bind_congr λo=>?_
  cases o with
  |none=>rfl
  | some v=>
    refine bind_congr λ_=>?_
    refine bind_congr λ_=>?_
    refine bind_congr λok=>?_
    cases ok with
    |false=>rfl
    | true=>
      simp only[if_true,bind_assoc,pure_bind]
section
variable{X:Cx}{elt target iter target2 iter2:Expr}{ifs ifs2:List Expr}{scope:Scope}{pos p cpos:Pos}{N':List Str}{n:Nat}{cap:List Nat}{md mb m2:List Md}{el eli:El}{s:lM}{g:hW}{tt:eS}{a:BU}
theorem DX {cp:b5->b5} (hcp:∀env,cp env=oW n cap env) (hc:X.calm=true) (S:LcOk X.N X.env.scope scope N' n cap) (hle:iN mb (fE n cap md)=true) (hle2:iN m2 (fE n cap md)=true)
  (hg0:X.env.scope.names.lookup ("sorted" : Str)=some .globalImplicit) (hm0:X.mg "sorted"=none) (hi:VI X md eli target iter s) (hg:∀C s H fp,VG (aS X N' scope C s H fp) (fE n cap md) mb eli target g)
  (ht:∀C s H fp,VTs (aS X N' scope C s H fp) mb ifs tt)
  (ha:∀C s H fp,VB (aS X N' scope C s H fp) mb m2 (λacc=>do let x <- eval iter2 (aS X N' scope C s H fp).env;standAt iter2.pos;let x <- foldedSetIterable iter2 (aS X N' scope C s H fp).env x;let _ <- runOwn (.compStart (.SetComp elt [⟨target,iter,ifs,0⟩,⟨target2,iter2,ifs2,0⟩] scope pos) 1 (<- holding [x] (pyIter x)) (.ref acc) (aS X N' scope C s H fp).env) (aS X N' scope C s H fp).env) a)
  (hs:∀x,foldedSetIterable iter X.env x=pure x:=by intro _;rfl)
  (he:starEach [.SetComp elt [⟨target,iter,ifs,0⟩,⟨target2,iter2,ifs2,0⟩] scope pos] X.env=(false,eval (.SetComp elt [⟨target,iter,ifs,0⟩,⟨target2,iter2,ifs2,0⟩] scope pos) X.env)::starEach [] X.env:=by rfl) (hpl:(backTo cpos (starEach [] X.env)).any (·.1)=false:=by rfl) :
  VE X md (.Call (.Name "sorted" p) [.SetComp elt [⟨target,iter,ifs,0⟩,⟨target2,iter2,ifs2,0⟩] scope pos] [] cpos) (.o .fl) (lD s g tt a cp):=
 ⟨(kN (vE hc) hg0 hm0 v9 (dP (a0K (act:=λacc env=>do let x <- eval iter2 env;standAt iter2.pos;let x <- foldedSetIterable iter2 env x;let _ <- runOwn (.compStart (.SetComp elt [⟨target,iter,ifs,0⟩,⟨target2,iter2,ifs2,0⟩] scope pos) 1 (<- holding [x] (pyIter x)) acc env) env) hc S (λit acc env=>a1L ..) hi.h (λC s H fp=>(hg C s H fp).h) (λC s H fp=>(ht C s H fp).h) (λacc C s H fp=>(ha C s H fp).h acc) hs) gR he) (by decide) (by decide) he hpl).imp λσ H Q h=>RS hcp hle hle2 h⟩
end
section
variable{X:Cx}{pins:List (Ac×Obj)}{σ:St}{H:Hp}{s:Ab}{h':Heap}
theorem Inv.turnL {t':Nat} {fp:List Addr} {a:Addr} {o:HO} (I:Inv X pins σ H s) (hf:∀b∈fp,iH X pins H b) (k:∀b u,b∉fp->s.heap.get? b=some u->h'.get? b=some u) (hp:s.heap.objs.size<=a) (new:bT X.prog X.w (b7 H a o) h' a o) :
  Inv X pins σ (b7 H a o) {s with heap:=h',toks:=t'}:=by
 have hn:H a=none:=I.hok.fresh hp
 have na:∀b u,s.heap.get? b=some u->b≠a:=λb u e=>Nat.ne_of_lt (Nat.lt_of_lt_of_le (Heap.lt_size e) hp)
 have nt:∀b u,H b=some u->b≠a:=λb u e z=>by rw[z,hn] at e;cases e
 have nf:∀b u,H b=some u->b∉fp:=λb u e z=>by rw[(hf b z).1] at e;cases e
 refine I.step (g':=s.gens) (d':=s.drawn) (ch:=fp) (λb hb=>?_) (λb o _ _ hc e _=>k b o hc e) (λb o _ _ hc e _=>⟨o.slots,k b o hc e⟩) (λb u _ e n=>by rw[aD (na b u e)];exact n)
  (λb o hc e=>⟨o,k b o hc e⟩) (λb _ e=>by rw[aD (nt b _ e)];exact e) (λb _ _ e=>by rw[aD (nt b _ e)];exact e) (λb e=>by rw[aD (nt b _ e)];exact e) (λm hm=>?_) (λb u e=>?_) I.bare
 ·obtain⟨f0,f1,f2,f3,f4,f5⟩:=hf b hb
  exact⟨f3,f1,f4,f5⟩
 ·obtain⟨o,es,ep,ho,r⟩:=hm
  exact⟨o,es,ep,k _ o (λz=>(hf _ z).2.1 rfl) ho,r⟩
 ·by_cases hb:b=a
  ·subst hb;rw[aU] at e;cases e;exact new
  ·rw[aD hb] at e
   refine (I.hok b u e).stay (λc v hc q=>k c v ?_ q) (λc q=>by rw[aD (nt c _ q)];exact q) λc xs q=>by rw[aD (nt c _ q)];exact q
   rcases hc with z|z
   ·rw[z];exact nf b u e
   ·exact nf c _ z
end
def a21(K:PySem.W.Frag)(a:Addr):It:=
 ⟨λi H=>∃xs x,cS K H a xs/\xs[i]? =some x,λi H v H'=>∃t x,H t=none/\v= .ref t/\H'=b7 H t (.tup [.int i,x])/\∀xs,cS K H a xs->xs[i]? =some x,λi H=>∃xs,cS K H a xs/\xs.length<=i⟩
theorem IE {P:Program} {w:World} {K:PySem.W.Frag} {elts:List Expr} {x1} {pos:Pos} (a it e:Addr) (hne:e≠it) :
  Turn P w K (.Tuple elts x1 pos) (a21 K a) [e,it] e (λi h=>(∃old,IsEnum h e it i old)/\h.IsListIter it a i) where
 mem:=by simp
 obj:=λi h st b hb=>by
  obtain⟨⟨old,he⟩,o,q,c,d⟩:=st
  simp only[List.mem_cons,List.not_mem_nil,or_false] at hb
  rcases hb with rfl|rfl
  ·exact⟨_,he,λv z=>by cases z⟩
  ·exact⟨o,q,λv z=>by rw[d] at z;cases z⟩
 keep:=λi h h' st k=>by
  obtain⟨⟨old,he⟩,hi⟩:=st
  exact⟨⟨old,k e (by simp) _ he⟩,hi.at λo q=>k it (by simp) o q⟩
 item:=by
  intro X hP hw hK hc i pins s σ H E I hf st hg
  subst hP hw hK
  obtain⟨⟨old,he⟩,hi⟩:=st
  obtain⟨xs,x,hq,hx⟩:=hg
  obtain⟨its,rv,p,hz⟩:=I.list hq
  obtain⟨u,hu,ru⟩:=rv.get hx
  refine wpAny_pyNext_enum_item he hi p.isList (x:=u) (by simpa using hu) hne λh1 heo hi1 ht hsz hk=>?_
  refine⟨.ref s.heap.objs.size,rfl,wpAny_letOwnedTupleGo_enum (s:={s with heap:=h1,toks:=s.toks+1}) heo λh2 he2 sb=>?_⟩
  have hes:s.heap.objs.size≠e:=Nat.ne_of_gt (Heap.lt_size he)
  have hfr:H s.heap.objs.size=none:=I.hok.fresh (Nat.le_refl _)
  have hf2:∀b∈[e,it],(b7 H s.heap.objs.size (.tup [.int i,x])) b=none:=λb hb=>by
   have hb':b≠s.heap.objs.size:=by
    obtain⟨o,q,_⟩:=hi
    simp only[List.mem_cons,List.not_mem_nil,or_false] at hb
    rcases hb with rfl|rfl
    ·exact hes.symm
    ·exact Nat.ne_of_lt (Heap.lt_size q)
   rw[aD hb'];exact (hf b hb).1
  refine⟨.ref s.heap.objs.size,b7 H s.heap.objs.size (.tup [.int i,x]),I.turnL (t':=s.toks+1) hf (λb v hb q=>?_) (Nat.le_refl _) ?_,rfl,⟨_,x,hfr,rfl,rfl,λys hy=>by rw[I.list_inj hy hq];exact hx⟩,⟨⟨_,he2⟩,?_⟩,hf2⟩
  ·simp only[List.mem_cons,List.not_mem_nil,or_false,not_or] at hb
   exact (sb.2 b hb.1).trans (hk b v hb.1 hb.2 q)
  ·exact⟨(by decide:2<=sizeLine),[.int i s.toks,u],.cons ⟨_,rfl⟩ (.cons ru .nil),_,(sb.2 _ hes).trans ht,rfl,_,rfl⟩
  ·exact hi1.at λo q=>(sb.2 it (Ne.symm hne)).trans q
 done:=by
  intro X hP hw hK hc i pins s σ H E I hf st hg
  subst hP hw hK
  obtain⟨⟨old,he⟩,hi⟩:=st
  obtain⟨xs,hq,hx⟩:=hg
  obtain⟨its,rv,p,hz⟩:=I.list hq
  obtain⟨f0,f1,f2,f3,f4,f5⟩:=hf it (by simp)
  have hl:=rv.length
  exact wpAny_pyNext_enum_end (I.ok.hd hc) he hi p.isList (by simp;omega) λh' eb=>⟨rfl,I.turned (t':=s.toks) (λb o hb e=>eb b o hb e) f0 f1 f3 f4 f5⟩
 self:=λ_ _ _ _ _ st h=>by
  obtain⟨⟨old,he⟩,hi⟩:=st
  exact wpAny_pyIter_enum he h
def a00(K:Aa)(ta:TA):TI:=λσ H R=>ta σ H λvs H1=>∃a,vs=[.ref a]/\(∃xs,cS K H1 a xs)/\R (a21 K a) H1
theorem G5:bootBuiltins "enumerate"=some (.type "enumerate"):=by rfl
theorem R8 {X:Cx} {a:Expr} {ta:TA} {elts:List Expr} {x1} {tpos p pos:Pos} (hg:Gl X "enumerate") (hm:X.mg "enumerate"=none) (ha:PA X [a] ta) (hs:starEach [a] X.env=[(false,eval a X.env)]:=by rfl) :
  PI X (.Tuple elts x1 tpos) (.Call (.Name "enumerate" p) [a] [] pos) (a00 X.K ta):=by
 intro pins s σ H R I h
 refine Call_ (mE I hg hm G5 (PyProof.Rows.callWith_type1 (cH (ha pos pins s σ H _ I h) λus s1 ⟨vs,H1,I1,r1,q1⟩=>?_) hs rfl))
 obtain⟨l,e,⟨xs,hq⟩,q⟩:=q1
 subst e
 cases r1 with
 | cons r rr=>
  cases rr
  cases r
  obtain⟨its,rv,p,hz⟩:=I1.list hq
  refine call_enumerate_list p.isList λh' he hi hsz hk=>?_
  refine wpAny_pyIter_enum he ?_
  have I2:Inv X pins σ H1 {s1 with heap:=h'}:=I1.kept (t':=s1.toks) hk
  refine⟨s1.heap.objs.size+1,[s1.heap.objs.size+1,s1.heap.objs.size],_,_,H1,rfl,I2,IE l s1.heap.objs.size (s1.heap.objs.size+1) (Nat.succ_ne_self _),⟨⟨_,he⟩,hi⟩,λb hb=>?_,q⟩
  have hb':s1.heap.objs.size<=b:=by
   simp only[List.mem_cons,List.not_mem_nil,or_false] at hb
   rcases hb with rfl|rfl<;>omega
  exact I1.fpOk hb' (I1.hok.fresh hb')
def pK(xs:List PV):List PV:=xs.zipIdx.map λz=>.tup [.int (z.2:Nat),z.1]
theorem gE(xs:List PV):(pK xs).length=xs.length:=by simp[pK]
theorem nH{xs:List PV}{i:Nat}:(pK xs)[i]? =(xs[i]?).map λx=>.tup [.int i,x]:=by
 rw[pK,List.getElem?_map,List.getElem?_zipIdx]
 cases xs[i]? <;>simp
def kO(a:aR):lM:=λenv Q=>a env λx=>match x with
 |.lst xs=>Q (pK xs)
 |_=>False
section
variable{X:Cx}{md:List Md}{el:El}{a b e tg:Expr}{pa pb pe:aR}{p pos:Pos}
theorem N4 {K:PySem.W.Frag} {B:Hp} {W:Wd} {H:Hp} {l:Addr} {vs:List V} {xs:List PV} (hF:W.F l) (e:H l=some (.lst vs)) (r:Reps (el.G W.F B) H vs xs):Src (a21 K l) el B W H (pK xs) where
 go:=λi W2 H2 x hi=>by
  rw[gE] at hi
  exact⟨vs,vs[i]'(by rw[r.len];exact hi),cS.of (x.kp l _ hF e),a0a _⟩
 stop:=λW2 H2 x=>⟨vs,cS.of (x.kp l _ hF e),by rw[r.len,gE];exact Nat.le_refl _⟩
 yld:=λi W2 H2 v H3 x w hi y=>by
  obtain⟨t,u,ht,rfl,rfl,y⟩:=y
  have:=y vs (cS.of (x.kp l _ hF e))
  obtain⟨z,ez,rz⟩:=r.getV this
  have g:Go W2 H2 W2 (b7 H2 t (.tup [.int i,u])):=Go.laid w ht
  have r2:=x.rep (G':=el.G W2.F B) (λ_ g=>El.GF g) (λ_ g=>El.up x.lF (λ_ h=>h) g) rz
  have r3:=g.rep w (G':=el.G W2.F B) (λ_ h=>El.nS w h) (λ_ h=>h) r2
  refine⟨g,.tup [.int i,z],by rw[nH,ez];rfl,.tup aU rfl λj v x e1 e2=>?_⟩
  match j,e1,e2 with
  |0,e1,e2=>cases e1;cases e2;exact .int _
  |1,e1,e2=>cases e1;cases e2;exact r3
theorem zB {elts:List Expr} {x1} {tpos:Pos} (hg:X.env.scope.names.lookup (Str.ofString "enumerate")=some NameKind.globalImplicit) (hm:X.mg "enumerate"=none) (ha:VE X md a (.v el) pa) (hs:starEach [a] X.env=[(false,eval a X.env)]:=by rfl) :
  VI X md el (.Tuple elts x1 tpos) (.Call (.Name "enumerate" p) [a] [] pos) (kO pa):=
 ⟨(R8 hg hm (a7 ha aC hs).h hs).imp λσ H R=>by
 rintro⟨env,W0,H0,W,Q,Rr,q,k⟩
 refine⟨env,W0,H0,W,λxs=>match xs with|[.lst zs]=>Q (pK zs)|_=>False,Rr,?_,λxs vs W1 H1 g1 r1 q1=>?_⟩
 ·show pa env _
  unfold kO at q
  refine (iff_of_eq (congrArg (pa env) (funext λx=>?_))).mp q
  cases x<;>rfl
 ·obtain ⟨v,x,rfl,rfl,r⟩:=r1.one
  cases x with
  | lst xs=>
   obtain⟨a,vs,rfl,g,e,rs⟩:=Rep.ofList r
   exact⟨a,rfl,⟨vs,cS.of e⟩,k _ W1 H1 _ g1 (N4 (El.GF g) e rs) q1⟩
  |_=>exact q1.elim⟩
end
section
variable{X:Cx}{elt target iter:Expr}{ifs:List Expr}{scope:Scope}{pos:Pos}{N':List Str}{n:Nat}{cap:List Nat}{wi:TI}{g:TG}{tt:TT}{te:TE}
theorem M9 {x:Str} {pos' pos2:Pos} {gg:TG} (hgx:PG X (.Name x pos') gg) (hsw:swapsWith (.ListComp elt [⟨target,iter,ifs,0⟩] scope pos) (some (.Name x pos')) pos2.line X.env=pure true) (hc:X.calm=true) (S:LcOk X.N X.env.scope scope N' n cap) (hi:PI X target iter wi) (hg:∀C s H fp,PG (aS X N' scope C s H fp) target g)
    (ht:∀C s H fp,IT (aS X N' scope C s H fp) ifs tt) (he:∀C s H fp,PE (aS X N' scope C s H fp) elt te) (hs:∀x,foldedSetIterable iter X.env x=pure x:=by intro _;rfl) :
    PS X (.Assign [.Name x pos'] (.ListComp elt [⟨target,iter,ifs,0⟩] scope pos) pos2) (BJ (a38 wi g tt te n cap) gg):=by
  intro pins s σ H D I h
  have hfree:∀y∈scope.names,y.2= .free->∃c,X.env.cells.lookup y.1=some c:=λy hy e=>I.ok.has y.1 (.inl (S.frees y hy e))
  rw[exec_Assign_Name_used x pos' _ pos2 hsw]
  refine a0b (wpAny_standAt (a0b ?_))
  rw[arm_evalThenUse_ListComp]
  refine a0b ?_
  refine wpAny_comprehension_free (use:=some (assign (.Name x pos') X.env)) (Q:=λ_ s'=>wpAny (model X.prog X.w) X.A (pure ()) (λ_ s'=>wpAny (model X.prog X.w) X.A (pure Flow.next) (SP X pins D) X.xe s') X.xe s') rfl hs (jD hfree) S.kind S.names ?_
  refine cH (hi pins s σ H _ I h) λv s1 h1=>cH h1 λitv s2 h2=>?_
  obtain⟨it,fp,tn,J,H2,rfl,I2,T,st2,f2,body⟩:=h2
  refine wpAny_newObj_type ?_
  have I3:=I2.lnew (ys:=[]) (its:=[]) (t':=s2.toks) .nil (Nat.zero_le _)
  have hacc:H2 s2.heap.objs.size=none:=I2.fresh
  obtain⟨W,⟨m0,w0⟩,turn⟩:=body _ hacc
  have hlt:∀b∈fp,b<s2.heap.objs.size:=λb hb=>by
    obtain⟨o,e,_⟩:=T.obj 0 _ st2 b hb
    exact Heap.lt_size e
  have hf3:∀b∈fp,iH X pins (b7 H2 s2.heap.objs.size (.lst [])) b:=λb hb=>
    ⟨by rw[aD (Nat.ne_of_lt (hlt b hb))];exact (f2 b hb).1,(f2 b hb).2⟩
  refine wpAny_newFunctionEnv S.nocell (by intro y hy;cases hy) (λh4 ns4 sb4=>?_) S.kind
  generalize hs3:({s2 with heap:=s2.heap.push {cls:=.type "list",dict:=none,data:=.seq ([]:List Value).toArray} }:Ab)=s3 at*
  have hsz:s2.heap.objs.size<s3.heap.objs.size:=by rw[<- hs3,Heap.size_push];exact Nat.lt_succ_self _
  have k4:∀b o,s3.heap.get? b=some o->h4.get? b=some o:=λb o e=>(sb4.2 b (Nat.ne_of_lt (Heap.lt_size e))).trans (a0e _ e)
  generalize hH3:b7 H2 s2.heap.objs.size (.lst [])=H3 at*
  have I3':Inv X pins σ H3 s3:=I3
  have IY:=nM (tk:=s3.toks+([]:List (Str×Value)).length) S I3' hf3 (λb hb=>Nat.lt_trans (hlt b hb) hsz) ns4 k4
  have fpY:∀H':Hp,(∀b∈fp,H' b=none)->∀b∈fp,iH (aS X N' scope s3.heap.objs.size s3 H3 fp) [] H' b:=λH' hn b hb=>by
    obtain⟨_,f1,f2',f3,f4,f5⟩:=hf3 b hb
    refine⟨hn b hb,Nat.ne_of_lt (Nat.lt_trans (hlt b hb) hsz),λz=>?_,.inl hb,λx c e=>f4 x c (kG hfree e),λp hp=>absurd hp (by simp[aS])⟩
    rcases List.mem_cons.mp (I3'.stkSub b z) with z|z
    · exact f1 z
    · exact f2' z
  have tn4:tn 0 h4:=T.keep 0 _ _ st2 λb hb o e=>k4 b o (by rw[<- hs3];exact a0e _ e)
  have loop:codeAny (model X.prog X.w) X.A (.compLoop (.ListComp elt [⟨target,iter,ifs,0⟩] scope pos) 0 (.ref it) (.ref s2.heap.objs.size) (aS X N' scope s3.heap.objs.size s3 H3 fp).env)
      (compPost (model X.prog X.w) X.A X.xe (some (assign (.Name x pos') X.env)) (λ_ s'=>wpAny (model X.prog X.w) X.A (pure ()) (λ_ s'=>wpAny (model X.prog X.w) X.A (pure Flow.next) (SP X pins D) X.xe s') X.xe s') (.ref s2.heap.objs.size) s3.heap.objs.size) {s3 with heap:=h4,toks:=s3.toks+([]:List (Str×Value)).length}:=by
    refine EO (λk s'=>∃i σ' H',Inv (aS X N' scope s3.heap.objs.size s3 H3 fp) [] σ' H' s'/\tn i s'.heap/\(∀b∈fp,H' b=none)/\W i k σ' H') ?_ m0 ⟨0,_,_,IY,tn4,λb hb=>(hf3 b hb).1,w0⟩
    rintro k s5 ⟨i,σ5,H5,I5,st5,fr5,w5⟩
    rcases turn i k σ5 H5 w5 with ⟨stop,qn⟩|⟨go,Nn,hN,step⟩
    · refine wpAny_mono (T.done (aS X N' scope s3.heap.objs.size s3 H3 fp) rfl rfl rfl hc i [] s5 σ5 H5 (λ_ _=>False) I5 (fpY H5 fr5) st5 stop) (λr s6 hr=>?_) (λ_ _ z=>z)
      obtain⟨rfl,I6⟩:=hr
      obtain⟨m,hn,_⟩:=I6.loc
      have hs':Heap.SameBut s3.heap.objs.size s6.heap s6.heap:=⟨rfl,λ_ _=>rfl⟩
      have IX:Inv X pins σ H5 s6:=by
        have ub:=I6.base
        have ne:∀b o,s3.heap.get? b=some o->b≠s3.heap.objs.size:=λb o e=>Nat.ne_of_lt (Heap.lt_size e)
        refine I3'.call' (s':=s6) (ch:=fp) I6.os ⟨λb o e z1 z2 z3=>(hs'.2 b (ne b o e)).trans (ub.keep b o e z1 z2 z3),λb o e z1 z2 z3=>?_,ub.free,λb o e z=>?_,ub.tups,ub.frzs,ub.tbls⟩ (qQ I6.hok I6.free hs') I6.bare λb hb=>⟨(hf3 b hb).2.2.2.1,(hf3 b hb).2.1,(hf3 b hb).2.2.2.2.1,(hf3 b hb).2.2.2.2.2⟩
        · obtain⟨sl,e'⟩:=ub.slot b o e z1 z2 z3
          exact⟨sl,(hs'.2 b (ne b o e)).trans e'⟩
        · obtain⟨o',e'⟩:=ub.there b o e z
          exact⟨o',(hs'.2 b (ne b o e)).trans e'⟩
      have fC:iH X pins H5 s3.heap.objs.size:=I3'.fpOk (Nat.le_refl _) I6.free
      have IXp := IX.pinned (fp := [s3.heap.objs.size]) (fun b hb => by have e : b=s3.heap.objs.size:=by simpa using hb
                                                                        subst e;exact fC) (λb hb=>by
        have e:b=s3.heap.objs.size:=by simpa using hb
        subst e
        obtain⟨o,es,ep,ho,hd,_⟩:=hn
        exact⟨o,ho,λv z=>by rw[hd] at z;cases z⟩)
      show wpAny _ _ (assign (.Name x pos') X.env (.ref s2.heap.objs.size)) _ _ s6
      refine cH (hgx _ s6 σ H5 (.ref s2.heap.objs.size) (.ref s2.heap.objs.size) _ IXp rfl qn) λ_ s7 h7=>?_
      obtain⟨σ7,H7,I7,q7⟩:=h7
      obtain⟨o,es,ep,ho,hd⟩:=id hn
      have z:=I7.pin (s3.heap.objs.size,o) (List.mem_append_right _ (List.mem_append_right _ (dX (by simp) ho)))
      refine⟨m,⟨o,es,ep,z.1,hd⟩,λh' hs'=>a0d (a0d ⟨σ7,H7,?_,q7⟩)⟩
      obtain⟨f0,f1,f2,f3,f4,f5⟩:=fC
      exact I7.unpinned.turned (t':=s7.toks) (it:=s3.heap.objs.size) (λb o hb e=>(hs'.2 b hb).trans e) z.2.1 f1 f3 f4 f5
    · refine wpAny_mono (T.item (aS X N' scope s3.heap.objs.size s3 H3 fp) rfl rfl rfl hc i [] s5 σ5 H5 (λ_ _=>False) I5 (fpY H5 fr5) st5 go) (λr s6 h6=>?_) (λ_ _ z=>z)
      obtain⟨u,rfl,h6⟩:=h6
      refine wpAny_mono h6 (λ_ s7 h7=>?_) (λ_ _ z=>z)
      obtain⟨x,H7,I7,r7,y7,st7,fr7⟩:=h7
      have I7':=I7.pinned (fpY H7 fr7) (T.obj _ _ st7)
      have again:∀ {σ':St} {H':Hp} {s':Shared},Inv (aS X N' scope s3.heap.objs.size s3 H3 fp) ([]++mM fp s7.heap) σ' H' s'->Nn σ' H'->
          ∃m,m<k/\∃i σ' H',Inv (aS X N' scope s3.heap.objs.size s3 H3 fp) [] σ' H' s'/\tn i s'.heap/\(∀b∈fp,H' b=none)/\W i m σ' H':=fun {σ' H' s'} J7 n7=>by
        obtain⟨m',hm,w7⟩:=hN σ' H' n7
        have pin:∀b∈fp,∀o,s7.heap.get? b=some o->s'.heap.get? b=some o/\H' b=none:=λb hb o e=>by
          have z:=J7.pin (b,o) (List.mem_append_right _ (List.mem_append_right _ (dX hb e)))
          exact⟨z.1,z.2.1⟩
        refine⟨m',hm,i+1,σ',H',J7.unpinned,T.keep _ _ _ st7 λb hb o e=>(pin b hb o e).1,λb hb=>?_,w7⟩
        obtain⟨o,e,_⟩:=T.obj _ _ st7 b hb
        exact (pin b hb o e).2
      refine cH (hg _ _ _ _ _ s7 σ5 H7 x u _ I7' r7 (step x H7 y7)) λ_ s8 h8=>?_
      obtain⟨σ8,H8,I8,q8⟩:=h8
      refine cH (ht _ _ _ _ _ s8 σ8 H8 _ I8 q8) λok s9 h9=>?_
      obtain⟨H9,I9,q9⟩:=h9
      cases ok with
      | false=>
        rw[if_neg Bool.false_ne_true] at q9 ⊢
        exact again I9 q9
      | true=>
        rw[if_pos rfl] at q9 ⊢
        refine cH (he _ _ _ _ _ s9 σ8 H9 _ I9 q9) λxv s10 h10=>?_
        obtain⟨v',H10,I10,r10,ys,ha,hl,q10⟩:=h10
        refine cH (oS (X:=aS X N' scope s3.heap.objs.size s3 H3 fp) _ s10 σ8 H10 (.ref s2.heap.objs.size) [v'] (.ref s2.heap.objs.size) [xv] (λ_ H'=>Nn σ8 H') I10 rfl (.cons r10 .nil) ⟨_,ys,v',rfl,rfl,ha,hl,q10⟩) λ_ s11 h11=>?_
        obtain⟨_,H11,I11,_,q11⟩:=h11
        exact again I11 q11
  exact codeAny_compStart_list loop (T.self _ 0 _ _ _ tn4 loop)
end
section
variable{X:Cx}{elt target iter:Expr}{ifs:List Expr}{scope:Scope}{pos pos2 pos':Pos}{N':List Str}{n i:Nat}{x:Str}{cap:List Nat}{md mb lm:List Md}{rm:Md}{el eli:El}{s:lM}{g:hW}{tt:eS}{te:aR}
theorem NQ {cp:b5->b5} (hN:X.N.Nodup) (hix:X.N[i]? =some x) (hx:FV X.env.scope x) (hsw:swapsWith (.ListComp elt [⟨target,iter,ifs,0⟩] scope pos) (some (.Name x pos')) pos2.line X.env=pure true) (hf:X.fn x=true\/X.env.scope.names.lookup x=some .local)
  (hm:fG (md.set i (.o el))=true) (hl:i<md.length)
  (hcp:∀env,cp env=oW n cap env) (hc:X.calm=true) (S:LcOk X.N X.env.scope scope N' n cap) (hle:iN mb (fE n cap md)=true) (hbl:jT mb=true) (hi:VI X md eli target iter s) (hg:∀C s H fp,VG (aS X N' scope C s H fp) (fE n cap md) mb eli target g)
  (ht:∀C s H fp,VTs (aS X N' scope C s H fp) mb ifs tt) (he:∀C s H fp,VE (aS X N' scope C s H fp) mb elt (.v el) te) (hs:∀x,foldedSetIterable iter X.env x=pure x:=by intro _;rfl) :
  VS X md (md.set i (.o el)) lm rm (.Assign [.Name x pos'] (.ListComp elt [⟨target,iter,ifs,0⟩] scope pos) pos2) (bN i (qU s g tt te cp)):=
 ⟨(M9 (qV hN hix hx hf) hsw hc S hi.h (λC s H fp=>(hg C s H fp).h) (λC s H fp=>(ht C s H fp).h) (λC s H fp=>(he C s H fp).h) hs).imp λD σ H=>by
 rintro⟨env,W0,H0,W,E,R,q,l⟩
 refine EN (el:=el) hcp hle hbl ⟨env,W0,H0,W,_,R,q,λx v W1 H1 g1 r1 q1=>?_⟩
 rw[dD] at q1
 exact l.nx _ W1 _ H1 (R.set g1 r1 hm hl) (g1.ex R.ok) q1⟩
end
def HW(i j:Nat)(pa:l6):bD:=λE env=>pa env λxs=>match xs with
 |[x,y]=>E.nx (dO (dO env i (some x)) j (some y))
 |_=>False
def a3D(r:V->Hp->VK->Prop)(te tk:TE):TE:=λσ H Q=>te σ H λx H1=>tk σ H1 λk H2=>k= .int (-1)/\r x H2 Q
def a0Y(K:Aa):V->Hp->VK->Prop:=λx H Q=>∃a xs,x= .ref a/\cS K H a xs/\∀p,H p=none->Q (.ref p) (b7 H p (.lst xs.reverse))
theorem yZ {vs:List V} {us:List Value} (r:aV vs us):aV vs.reverse us.reverse:=by
 induction r with
 |nil=>exact .nil
 | cons h r ih=>
  rw[List.reverse_cons,List.reverse_cons]
  exact ih.append (.cons h .nil)
theorem X4{X:Cx}{e k:Expr}{te tk:TE}{pos p2:Pos}(he:PE X e te)(hk:PE X k tk):PE X (.Subscript e (.Slice none none (some k) p2) pos) (a3D (a0Y X.K) te tk):=by
 intro pins s σ H Q I h
 refine Subscript_ (cH (he pins s σ H _ I h) λv s1 ⟨x,H1,I1,r1,q1⟩=>?_)
 refine wpAny_Slice ?_
 rw[evalPart_none]
 refine a0d (a0d ?_)
 rw[evalPart_some]
 refine cH (hk pins s1 σ H1 _ I1 q1) λvk s3 ⟨y,H3,I3,r3,q3⟩=>?_
 obtain⟨rfl,a,xs,rfl,hx,q⟩:=q3
 cases r1
 obtain⟨t,rfl⟩:=r3
 have I4:Inv X pins σ H3 {s3 with heap:=s3.heap.push {cls:=.type "slice",data:=.fields #[.none,.none,.int (-1) t]} }:=I3.kept (t':=s3.toks) λb ob q=>a0e _ q
 obtain⟨its,r,ht,hz⟩:=I4.list hx
 have hlen:=r.length
 show wpAny (model X.prog X.w) X.A (subscriptTail e (.Slice none none (some k) p2) (.ref a) (.ref s3.heap.objs.size)) (EP X pins σ Q) X.xe {s3 with heap:=s3.heap.push {cls:=.type "slice",data:=.fields #[.none,.none,.int (-1) t]} }
 refine tail_any (ops:=[.ref a,.ref s3.heap.objs.size]) ht.isList.typeIs slot_list_getitem.lookup ?_ (by with_unfolding_all rfl)
 refine wpAny_getItem_list_slice (st:=some (-1)) ht.isList (Heap.IsSliceOf.new ..) .none .none (.int (-1) t) (by decide) ?_ (by rw[List.size_toArray]<;>omega)
 rw[PySem.W.krv_pick]
 refine⟨.ref _,_,I4.laid (t':=s3.toks) (o:=.lst xs.reverse) (λb ob q=>a0e _ q) (Nat.le_refl _) ?_,rfl,q _ (I4.hok.fresh (Nat.le_refl _))⟩
 exact⟨by rw[List.length_reverse];exact hz,_,0,yZ r,Heap.get?_push_size _ rfl⟩
def LV(a k:aR):aR:=λenv Q=>a env λx=>k env λy=>match x,y with
 |.lst xs,.int i=>i=-1/\Q (.lst xs.reverse)
 |_,_=>False
theorem Reps.rev{G:Addr->Prop}{H:Hp}{vs:List V}{xs:List PV}(r:Reps G H vs xs):Reps G H vs.reverse xs.reverse:=by
 refine⟨by rw[List.length_reverse,List.length_reverse];exact r.len,λi v x e1 e2=>?_⟩
 have hi:=(List.getElem?_eq_some_iff.mp e2).1
 rw[List.length_reverse] at hi
 rw[List.getElem?_reverse hi] at e2
 rw[List.getElem?_reverse (by rw[r.len];exact hi),r.len] at e1
 exact r.at_ _ _ _ e1 e2
theorem YV {X:Cx} {md:List Md} {e k:Expr} {pe pk:aR} {el:El} {pos p2:Pos} (he:VE X md e (.p el) pe) (hk:VE X md k .bw pk):VE X md (.Subscript e (.Slice none none (some k) p2) pos) (.o el) (LV pe pk):=
 ⟨(X4 he.h hk.h).imp λσ H K=>by
  rintro⟨env,W0,H0,W,Q,R,q,kk⟩
  refine⟨env,W0,H0,W,_,R,q,λx v W1 H1 g1 r1 q1=>⟨env,W0,H0,W1,_,R.step g1,q1,λy u W2 H2 g2 r2 q2=>?_⟩⟩
  have k2:=kk.after (g1.trans g2)
  have r1':RepP (el.G W2.F H0) W2.S H2 v x:=ResE.go (m:=.p el) r1 g1.ok g2
  cases x with
  | lst xs=>cases y with
   | int n=>
    obtain⟨a,vs,rfl,e,rs⟩:=r1'.ofList
    have hu:=Rep.ofInt r2
    subst hu
    obtain⟨rfl,q2⟩:=q2
    exact⟨rfl,a,vs,rfl,cS.of e,λp hp=>k2.newL g2.ok hp rs.rev q2⟩
   |_=>exact q2.elim
  |_=>exact q2.elim⟩
section
variable{κ:Type}[DecidableEq κ]
def tX(kvs:List (κ×V))(k:κ):Option V:=(kvs.find? λkv=>decide (kv.1=k)).map (·.2)
def B3(kvs:List (κ×V))(k:κ)(v:V):List (κ×V):=
 if (kvs.any λkv=>decide (kv.1=k))=true then kvs.map (λkv=>if kv.1=k then (kv.1,v) else kv) else kvs++[(k,v)]
theorem tZ{p:κ×V}{r:List (κ×V)}{k:κ}(e:p.1=k):tX (p::r) k=some p.2:=by simp[tX,List.find?_cons,e]
theorem tY{p:κ×V}{r:List (κ×V)}{k:κ}(e:¬p.1=k):tX (p::r) k=tX r k:=by simp[tX,List.find?_cons,e]
theorem AC(kvs:List (κ×V))(k:κ)(v:V):(B3 kvs k v).length<=kvs.length+1:=by
 unfold B3
 split
 ·rw[a0f];omega
 ·rw[List.length_append,List.length_cons,List.length_nil];omega
theorem KV.val {kvs:List (κ×V)} {vs:List (κ×Value)} (r:KV kvs vs) (k:κ):wV (tX kvs k) (valueAt vs k):=by
 unfold KV at r
 induction r with
 |nil=>exact True.intro
 | @cons p q ps qs h t ih=>
  obtain⟨h1,h2⟩:=h
  by_cases e:p.1=k
  ·have e':q.1=k:=h1.symm.trans e
   have b:valueAt (q::qs) k=some q.2:=by simp[valueAt,List.find?_cons,e']
   rw[tZ e,b];exact h2
  ·have e':¬q.1=k:=λz=>e (h1.trans z)
   have b:valueAt (q::qs) k=valueAt qs k:=by simp[valueAt,List.find?_cons,e']
   rw[tY e,b];exact ih
theorem KV.any{kvs:List (κ×V)}{vs:List (κ×Value)}(r:KV kvs vs)(k:κ):(kvs.any λkv=>decide (kv.1=k))=vs.any λkv=>decide (kv.1=k):=by
 unfold KV at r
 induction r with
 |nil=>rfl
 |cons h t ih=>rw[List.any_cons,List.any_cons,ih,h.1]
theorem KV.repl {kvs:List (κ×V)} {vs:List (κ×Value)} (r:KV kvs vs) (k:κ) {y:V} {u:Value} (ry:bA y u) :
  KV (kvs.map λkv=>if kv.1=k then (kv.1,y) else kv) (vs.map λkv=>if kv.1=k then (kv.1,u) else kv):=by
 unfold KV at r ⊢
 induction r with
 |nil=>exact .nil
 | @cons p q ps qs h t ih=>
  rw[List.map_cons,List.map_cons]
  refine .cons ?_ ih
  obtain⟨h1,h2⟩:=h
  by_cases e:p.1=k
  ·rw[if_pos e,if_pos (h1.symm.trans e)];exact⟨h1,ry⟩
  ·rw[if_neg e,if_neg (λz=>e (h1.trans z))];exact⟨h1,h2⟩
theorem KV.put{kvs:List (κ×V)}{vs:List (κ×Value)}(r:KV kvs vs)(k:κ){y:V}{u:Value}(ry:bA y u):KV (B3 kvs k y) (stored vs k u):=by
 unfold B3 stored
 rw[r.any k]
 by_cases e:(vs.any λkv=>decide (kv.1=k))=true
 ·rw[if_pos e,if_pos e];exact r.repl k ry
 ·rw[if_neg e,if_neg e];exact Paired.snoc r ⟨rfl,ry⟩
theorem KV.length{kvs:List (κ×V)}{vs:List (κ×Value)}(r:KV kvs vs):kvs.length=vs.length:=Paired.length r
end
theorem KU{P:Program}{w:World}{k:cI}{u:Value}(r:bA (kV k) u):(dB P w).is k u=true:=by
 cases k with
 |inl i=>obtain⟨t,e⟩:=(show ∃t,u=Value.int i t from r);subst e;exact AD P w i t
 |inr x=>obtain⟨t,e⟩:=(show ∃t,u=Value.str x t from r);subst e;exact AE P w x t
theorem vJ {P:Program} {w:World}:∀ {ks:List cI} {us:List Value},aV (ks.map kV) us->ItemsAre (dB P w) ks us
 |[],_,r=>by rw[List.map_nil] at r;cases r;exact .nil
 | k::ks,_,r=>by
  rw[List.map_cons] at r
  cases r with
  |cons h t=>exact .cons (KU h) (vJ t)
abbrev KT(H:Hp):List (List cI×V)->List (List cI×Ac×Value)->Prop:=Paired λp q=>p.1=q.1/\H q.2.1=some (.tup (p.1.map kV))/\bA p.2 q.2.2
theorem KT.val {H:Hp} {kvs:List (List cI×V)} {xs:List (List cI×Addr×Value)} (r:KT H kvs xs) (k:List cI):wV (tX kvs k) ((atKey xs k).map (·.2)):=by
 induction r with
 |nil=>exact True.intro
 | @cons p q ps qs h t ih=>
  obtain⟨h1,_,h2⟩:=h
  by_cases e:p.1=k
  ·have e':q.1=k:=h1.symm.trans e
   have b:atKey (q::qs) k=some q.2:=by simp[atKey,List.find?_cons,e']
   rw[tZ e,b];exact h2
  ·have e':¬q.1=k:=λz=>e (h1.trans z)
   have b:atKey (q::qs) k=atKey qs k:=by simp[atKey,List.find?_cons,e']
   rw[tY e,b];exact ih
section
variable{P:Program}{w:World}{H:Hp}{h:Heap}{a:Ac}
theorem TK{u:HO}(ok:lL P w H h)(e:Rd H a u):bT P w H h a u:=e.ok ok
theorem JZ{kvs:List (cI×V)}(ok:lL P w H h)(e:Rd H a (.dK kvs)):kvs.length<=sizeLine/\(a==sysModules)=false/\∃vs,KV kvs vs/\h.DictOf (dB P w) a vs:=
 show bT P w H h a (.dK kvs) from TK ok e
theorem ZN{kvs:List (cI×V)}(ok:lL P w H h)(e:H a=some (.dK kvs)):kvs.length<=sizeLine/\(a==sysModules)=false/\∃vs,KV kvs vs/\h.DictOf (dB P w) a vs:=JZ ok (.inl e)
theorem KW{ks:List cI}(ok:lL P w H h)(e:H a=some (.tup (ks.map kV))):(tupleKind (dB P w)).is h ks a:=by
 obtain⟨_,its,r,o,h1,h2,n,h3⟩:=(show bT P w H h a (.tup (ks.map kV)) from ok a _ e)
 exact⟨o,its.toArray,n,h1,h2,h3,by simpa using vJ r⟩
theorem SX {kvs:List (List cI×V)} (ok:lL P w H h) (e:Rd H a (.dT kvs)):kvs.length<=sizeLine/\(a==sysModules)=false/\
  ∃xs,KT H kvs xs/\h.DictOfH (tupleKind (dB P w)) a xs:=by
 obtain⟨z,y,xs,r,o,es,ep,h1,h2,h3,h4,h5⟩:=(show bT P w H h a (.dT kvs) from TK ok e)
 refine⟨z,y,xs,r,o,es,ep,h1,h2,h3,h4,λx hx=>?_,h5⟩
 have all:∀ {l:List (List cI×V)} {m:List (List cI×Addr×Value)},KT H l m->∀x∈m,(tupleKind (dB P w)).is h x.1 x.2.1:=by
  intro l m q
  induction q with
  |nil=>intro x hx;exact nomatch hx
  | @cons p q ps qs hq t ih=>
   intro x hx
   rcases List.mem_cons.mp hx with e|hx
   ·subst e
    exact KW ok (by rw[<- hq.1];exact hq.2.1)
   ·exact ih x hx
 exact all r x hx
end
def FU(H:Hp)(a:Addr)(y:V)(r:Option V):Prop:=
 (∃kvs k,Rd H a (.dK kvs)/\y=kV k/\r=tX kvs k)\/∃kvs k b,Rd H a (.dT kvs)/\y= .ref b/\H b=some (.tup (k.map kV))/\r=tX kvs k
theorem FU.k{H:Hp}{a:Ac}{kvs:List (cI×V)}{k:cI}(e:H a=some (.dK kvs)):FU H a (kV k) (tX kvs k):=.inl ⟨kvs,k,.inl e,rfl,rfl⟩
section
variable{X:Cx}{pins:List (Ac×Obj)}{σ:St}{H:Hp}{s:Ab}{a:Ac}{y v:V}{u r:Value}{o:Option V}{A:Around}{E:Value->Ab->Prop}
theorem Inv.big(I:Inv X pins σ H s):sysModules<s.heap.objs.size:=by
 have h:mainGlobals<s.heap.objs.size:=(I.mod.glob.keeps I.bk).lt
 exact Nat.lt_trans (by decide) h
theorem GJ {Q:Value->Shared->Prop} (hu:A.units+1<cLine) (I:Inv X pins σ H s) (g:FU H a y (some v)) (ry:bA y u) (h:∀w' s',Inv X pins σ H s'->bA v w'->Q w' s') :
  wpAny (model X.prog X.w) A (getItem (.ref a) u) Q E s:=by
 rcases g with ⟨kvs,k,e,ey,l⟩|⟨kvs,k,b,e,ey,eb,l⟩
 ·subst ey
  obtain⟨z,hd,vs,rel,dd⟩:=JZ I.hok e
  obtain⟨w',hw,rw'⟩:=wV.some_of (v:=v) (o:=valueAt vs k) (by rw[l];exact rel.val k)
  exact wpAny_getItem_of (KU ry) dd.mapOf hw (h w' _ (I.tok _) rw')
 ·subst ey
  cases (show u=Value.ref b from ry)
  obtain⟨z,hd,xs,rel,dd⟩:=SX I.hok e
  obtain⟨w',hw,rw'⟩:=wV.some_of (v:=v) (o:=(atKey xs k).map (·.2)) (by rw[l];exact rel.val k)
  obtain⟨p,hp,hp2⟩:=Option.map_eq_some_iff.mp hw
  refine wpAny_getItem_heap (tupleKind_room_in1 hu) (KW I.hok eb) dd hp ?_
  rw[hp2]
  exact h w' _ (I.tok _) rw'
theorem OM {h':Heap} {t':Nat} {ob:HO} (I:Inv X pins σ H s) (mu:ZA (H a)) (hs:Heap.SameBut a s.heap h') (he:∃q,h'.get? a=some q) (new:bT X.prog X.w (b7 H a ob) h' a ob) :
  Inv X pins σ (b7 H a ob) {s with heap:=h',toks:=t'}:=
 I.write (x:=a) (e:=a) mu (.inl rfl) (λb q hb z=>(hs.2 b hb).trans z) he new
theorem UB {P:Program} {w:World} {H':Hp} {h':Heap} {kvs:List (cI×V)} {vs:List (cI×Value)} (z:kvs.length<=sizeLine) (hd:(a==sysModules)=false) (rel:KV kvs vs) (dd:h'.DictOf (dB P w) a vs) :
  bT P w H' h' a (.dK kvs):=⟨z,hd,vs,rel,dd⟩
end
def TX(i:Expr):Prop:=∀ov iv,subscripted i false ov iv=operate [ov,iv] (getItem ov iv)
theorem S3 {prog:Program} {w:World} {A:Around} {E:Value->Shared->Prop} {s:Shared} {env:Env} {value slice:Expr} {pos:Pos} {T id:String} {Q:Value->Shared->Prop}
  (hl:typeLookup (.type T) "__getitem__"=pure (some (.builtin id))) (hs:TX slice)
  (h:wpAny (model prog w) A (eval value env) (λo s₁=>wpAny (model prog w) A (eval slice env) (λi s₂=>s₂.TypeIs o T/\wpAny (model prog w) A (getItem o i) Q E s₂) E s₁) E s) :
  wpAny (model prog w) A (eval (.Subscript value slice pos) env) Q E s:=by
 refine Subscript_ (wpAny_mono h (λo s₁ h₁=>wpAny_mono h₁ (λi s₂ h₂=>?_) λ_ _ x=>x) λ_ _ x=>x)
 obtain⟨hT,h₂⟩:=h₂
 unfold subscriptTail
 refine a0b ?_
 rw[getitemInPython_of_ne hT.not_modules]
 refine a0b (wpAny_specialOf hT hl ?_)
 have fin:wpAny (model prog w) A (subscripted slice false o i) (λr s₃=>wpAny (model prog w) A (letTemporaryGo value o r >>=λ_=>pure r) Q E s₃) E s₂:=by
  rw[hs o i]
  exact wpAny_operating (wpAny_mono h₂ (λr s₃ h₃=>a0b (wpAny_letTemporaryGo (a0d h₃))) λ_ _ x=>x)
 first
  |exact a0d (a0b fin)
  |exact a0b (a0d (a0b fin))
  |exact a0b fin
theorem A2 {X:Cx} {pins:List (Addr×Obj)} {σ:St} {H:Hp} {s:Shared} {a:Addr} {y:V} {o:Option V} (I:Inv X pins σ H s) (g:FU H a y o):s.TypeIs (.ref a) "dict":=by
 rcases g with ⟨kvs,k,e,_,_⟩|⟨kvs,k,b,e,_,_,_⟩
 ·obtain⟨_,_,vs,_,dd⟩:=JZ I.hok e
  exact dd.typeIs
 ·obtain⟨_,_,xs,_,dd⟩:=SX I.hok e
  exact dd.typeIs
def a1C(td ty:TE):TE:=λσ H Q=>td σ H λx H1=>ty σ H1 λy H2=>∃a v,x= .ref a/\FU H2 a y (some v)/\Q v H2
section
variable{X:Cx}{o i e value:Expr}{pos pos' tpos:Pos}{td ty tv:TE}
theorem R7(hu:X.A.units+1<cLine)(ho:PE X o td)(hi:PE X i ty)(hs:TX i):PE X (.Subscript o i pos) (a1C td ty):=by
 intro pins s σ H Q I h
 refine S3 PySem.F.slot_dict_getitem.lookup hs (cH (ho pins s σ H _ I h) λu s1 ⟨x,H1,I1,rx,q1⟩=>cH (hi pins s1 σ H1 _ I1 q1) λiv s2 ⟨y,H2,I2,ry,a,v,ex,g,q2⟩=>?_)
 subst ex
 obtain rfl:u=Value.ref a:=rx
 exact⟨A2 I2 g,GJ hu I2 g ry λw' s3 I3 rw'=>⟨v,H2,I3,rw',q2⟩⟩
end
theorem JY{P:Program}{w:World}{H:Hp}(h:Heap)(hb:sysModules<h.objs.size):bT P w H (h.push {cls:=.type "dict",data:=.dict #[]}) h.objs.size (.dK []):=
 ⟨Nat.zero_le _,beq_eq_false_iff_ne.mpr (Ne.symm (Nat.ne_of_lt hb)),[],.nil,Heap.DictOf.new h⟩
abbrev VU:PV->Option cI
 |.int i=>some (.inl i)
 |.str s=>some (.inr s)
 |_=>none
def kIn(ks:List cI)(k:cI):Bool:=ks.any λa=>decide (a=k)
def OU(ks:List cI)(k:cI):List cI:=match kIn ks k with
 |true=>ks
 |false=>ks++[k]
def IV{α:Type}(ks:List cI)(xs:List α)(k:cI)(v:α):List α:=match kIn ks k with
 |true=>(ks.zip xs).map λp=>if p.1=k then v else p.2
 |false=>xs++[v]
def NY{α:Type}(ks:List cI)(xs:List α)(k:cI):Option α:=((ks.zip xs).find? λp=>decide (p.1=k)).map (·.2)
theorem SO {α:Type} {ks:List cI} {xs:List α} (h:ks.length=xs.length) (k:cI):((ks.zip xs).any λp=>decide (p.1=k))=kIn ks k:=by
 unfold kIn
 induction ks generalizing xs with
 |nil=>rfl
 | cons a ks ih=>cases xs with
  |nil=>cases h
  |cons x xs=>rw[List.zip_cons_cons,List.any_cons,List.any_cons,ih (by simpa using h)]
theorem RF {ks:List cI} {vs:List V} (h:ks.length=vs.length) (k:cI) (v:V):B3 (ks.zip vs) k v=(OU ks k).zip (IV ks vs k v):=by
 unfold B3 OU IV
 rw[SO h]
 cases kIn ks k with
 | true=>
  rw[if_pos rfl]
  dsimp only
  induction ks generalizing vs with
  |nil=>rfl
  | cons a ks ih=>cases vs with
   |nil=>cases h
   | cons x vs=>
    simp only[List.zip_cons_cons,List.map_cons]
    rw[ih (by simpa using h)]
    congr 1
    split<;>rfl
 | false=>
  rw[if_neg Bool.false_ne_true]
  dsimp only
  rw[List.zip_append h];rfl
theorem OV{α:Type}{ks:List cI}{xs:List α}(h:ks.length=xs.length)(k:cI)(v:α):(OU ks k).length=(IV ks xs k v).length:=by
 unfold OU IV
 split<;>simp[h]
section
variable{G:Ac->Prop}{H:Hp}{vs:List V}{xs:List PV}{ks:List cI}
theorem Reps.zipMap(r:Reps G H vs xs)(k:cI){v:V}{x:PV}(rx:Rep G H v x):Reps G H ((ks.zip vs).map λp=>if p.1=k then v else p.2) ((ks.zip xs).map λp=>if p.1=k then x else p.2):=by
 refine⟨by simp[r.len],λi u y e1 e2=>?_⟩
 rw[List.getElem?_map,Option.map_eq_some_iff] at e1 e2
 obtain⟨p,hp,rfl⟩:=e1
 obtain⟨p',hp',rfl⟩:=e2
 rw[List.getElem?_zip_eq_some] at hp hp'
 have e:p.1=p'.1:=Option.some.inj (hp.1.symm.trans hp'.1)
 rw[e]
 split
 ·exact rx
 ·exact r.at_ i _ _ hp.2 hp'.2
theorem Reps.dput(r:Reps G H vs xs)(k:cI){v:V}{x:PV}(rx:Rep G H v x):Reps G H (IV ks vs k v) (IV ks xs k x):=by
 unfold IV
 cases kIn ks k with
 |true=>exact r.zipMap k rx
 |false=>exact r.append (.cons rx .nil)
theorem Reps.dget:∀ {ks:List cI} {vs:List V} {xs:List PV},Reps G H vs xs->∀ {k:cI} {x:PV},NY ks xs k=some x->∃v,tX (ks.zip vs) k=some v/\Rep G H v x:=by
 intro ks
 induction ks with
 |nil=>intro vs xs r k x e;cases e
 | cons a ks ih=>
  intro vs xs r k x e
  cases xs with
  |nil=>cases e
  | cons y xs=>
   cases vs with
   |nil=>have:=r.len;cases this
   | cons v vs=>
    unfold NY at e
    rw[List.zip_cons_cons,List.find?_cons] at e
    rw[List.zip_cons_cons]
    by_cases h:a=k
    ·rw[decide_eq_true h] at e
     cases e
     exact⟨v,tZ (p:=(a,v)) h,r.at_ 0 _ _ rfl rfl⟩
    ·rw[decide_eq_false h] at e
     rw[tY (p:=(a,v)) h]
     refine ih (xs:=xs) ⟨by have:=r.len;simpa using this,λi u z e1 e2=>r.at_ (i+1) u z (by simpa using e1) (by simpa using e2)⟩ e
end
theorem T1{G S:Addr->Prop}{H:Hp}{z:PV}{u:V}{k:cI}(e:VU z=some k)(r:Rep G H u z):u=kV k:=by
 cases z with
 |int i=>cases e;exact Rep.ofInt r
 |str x=>cases e;exact RepP.ofStr (S:=λ_=>True) (.inl r)
 |_=>cases e
section
variable{X:Cx}{md lm:List Md}{rm:Md}{o i e:Expr}{pe pj pa pb:aR}{el:El}{pos p:Pos}{n:Nat}
def sI:P2:=λx y Q=>match x,VU y with
 | .dic ks xs,some k=>(match NY ks xs k with
  |some z=>Q z
  |none=>False)
 |_,_=>False
theorem rA (hu:X.A.units+64<cLine) (ha:VE X md o (.p el) pa) (hb:VE X md i .bw pb) (hs:TX i):VE X md (.Subscript o i pos) (.v el) (b9 sI pa pb):=
 ⟨(R7 (by omega) ha.h hb.h hs).imp λσ H K=>by
  rintro⟨env,W0,H0,W,Q,R,q,k⟩
  refine⟨env,W0,H0,W,_,R,q,λx v W1 H1 g1 r1 q1=>⟨env,W0,H0,W1,_,R.step g1,q1,λy u W2 H2 g2 r2 q2=>?_⟩⟩
  have k2:=k.after (g1.trans g2)
  have r1':RepP (el.G W2.F H0) W2.S H2 v x:=ResE.go (m:=.p el) r1 g1.ok g2
  unfold sI at q2
  cases x with
  | dic ks xs=>
   cases hk:VU y with
   |none=>rw[hk] at q2;exact q2.elim
   | some kk=>
    rw[hk] at q2
    dsimp only at q2
    cases hg:NY ks xs kk with
    |none=>rw[hg] at q2;exact q2.elim
    | some z=>
     rw[hg] at q2
     obtain⟨a,vs,rfl,e,hl,rs⟩:=r1'.ofDic
     have hu:u=kV kk:=T1 (S:=λ_=>True) hk r2
     subst hu
     obtain⟨w,e1,e2⟩:=rs.dget hg
     exact⟨a,w,rfl,by have:=FU.k (k:=kk) e;rw[e1] at this;exact this,k2.val g2.ok e2 q2⟩
  |_=>cases hk:VU y<;>(rw[hk] at q2;exact q2.elim)⟩
end
section
variable{X:Cx}
theorem QU{ys:Array (Int×Tok)}{ns:List Int}(h:numsOf (intItems ys).toList=ns):ns=ys.toList.map (·.1):=by rw[<- h,nums_intItems]
end
theorem Inv.turnedF {X:Cx} {pins:List (Addr×Obj)} {σ:St} {H:Hp} {s:Shared} {h':Heap} {t':Nat} {fp:List Addr} (I:Inv X pins σ H s) (hf:∀b∈fp,iH X pins H b) (k:∀b u,b∉fp->s.heap.get? b=some u->h'.get? b=some u) :
  Inv X pins σ H {s with heap:=h',toks:=t'}:=by
 have nf:∀b u,H b=some u->b∉fp:=λb u e z=>by rw[(hf b z).1] at e;cases e
 refine I.step (g':=s.gens) (d':=s.drawn) (ch:=fp) (λb hb=>?_) (λb o _ _ hc e _=>k b o hc e) (λb o _ _ hc e _=>⟨o.slots,k b o hc e⟩) (λb u _ e n=>n)
  (λb o hc e=>⟨o,k b o hc e⟩) (λb _ e=>e) (λb _ _ e=>e) (λb e=>e) (λm hm=>?_) (λb u e=>?_) I.bare
 ·obtain⟨f0,f1,f2,f3,f4,f5⟩:=hf b hb
  exact⟨f3,f1,f4,f5⟩
 ·obtain⟨o,es,ep,ho,r⟩:=hm
  exact⟨o,es,ep,k _ o (λz=>(hf _ z).2.1 rfl) ho,r⟩
 ·refine (I.hok b u e).stay (λc v hc q=>k c v ?_ q) (λ_ q=>q) λ_ _ q=>q
  rcases hc with z|z
  ·rw[z];exact nf b u e
  ·exact nf c _ z
def a24 (K:PySem.W.Frag) (a b:Addr):It:=
  ⟨fun i H=>∃xs ys x y, cS K H a xs∧cS K H b ys∧xs[i]? =some x∧ys[i]? =some y,
   λi H v H'=>∃t x y,H t=none/\v= .ref t/\H'=b7 H t (.tup [x,y])/\(∀xs,cS K H a xs->xs[i]? =some x)/\∀ys,cS K H b ys->ys[i]? =some y,
   λi H=>∃xs ys,cS K H a xs/\cS K H b ys/\(xs.length<=i\/ys.length<=i)⟩
structure ZAp(z TI TO i1 i2:Addr):Prop where
 TIz:TI≠z
 TOz:TO≠z
 i1z:i1≠z
 i2z:i2≠z
 TITO:TI≠TO
 TIi1:TI≠i1
 TIi2:TI≠i2
 TOi1:TO≠i1
 TOi2:TO≠i2
 i12:i1≠i2
def a3K(z TI TO i1 i2 a b:Ac)(i:Nat)(h:Heap):Prop:=IsZip h z TI TO .none/\IsPair h TI (.ref i1) (.ref i2)/\(∃x y,IsPair h TO x y)/\h.IsListIter i1 a i/\h.IsListIter i2 b i
theorem i5{h:Heap}{a c:Addr}{xs:Array Value}{o:Obj}(hl:h.IsList a xs)(e:h.get? c=some o)(hc:o.cls≠ .type "list"):a≠c:=by
 rintro rfl
 obtain⟨o',e',c',_⟩:=hl
 rw[e] at e';cases e'
 exact hc c'
theorem ZAp.full {z TI TO i1 i2 a b:Addr} (D:ZAp z TI TO i1 i2) {h:Heap} {i:Nat} (st:a3K z TI TO i1 i2 a b i h) {xs ys:Array Value} (ha:h.IsList a xs) (hb:h.IsList b ys):ZipApart z TI TO i1 i2 a b:=by
 obtain⟨hz,hTI,⟨x,y,hTO⟩,⟨o1,e1,c1,d1⟩,⟨o2,e2,c2,d2⟩⟩:=st
 have nl:∀ {o:Obj},o.cls= .type "list_iterator"->o.cls≠ .type "list":=λe z=>by rw[e] at z;exact absurd z (by decide)
 exact ⟨D.TIz,D.TOz,D.i1z,D.i2z,D.TITO,D.TIi1,D.TIi2,D.TOi1,D.TOi2,D.i12,i5 ha hz (show (Value.type "zip")≠ .type "list" by decide),i5 ha hTO (show (Value.type "tuple")≠ .type "list" by decide),i5 ha e1 (nl c1),i5 ha e2 (nl c2),
  i5 hb hz (show (Value.type "zip")≠ .type "list" by decide),i5 hb hTO (show (Value.type "tuple")≠ .type "list" by decide),i5 hb e1 (nl c1),i5 hb e2 (nl c2)⟩
theorem ND {P:Program} {w:World} {K:PySem.W.Frag} {elts:List Expr} {x1} {pos:Pos} (a b z TI TO i1 i2:Addr) (D:ZAp z TI TO i1 i2) :
  Turn P w K (.Tuple elts x1 pos) (a24 K a b) [z,TI,TO,i1,i2] z (a3K z TI TO i1 i2 a b) where
 mem:=by simp
 obj:=λi h st c hc=>by
  obtain⟨hz,hTI,⟨x,y,hTO⟩,⟨o1,e1,c1,d1⟩,⟨o2,e2,c2,d2⟩⟩:=st
  simp only[List.mem_cons,List.not_mem_nil,or_false] at hc
  rcases hc with rfl|rfl|rfl|rfl|rfl
  ·exact⟨_,hz,λv q=>by cases q⟩
  ·exact⟨_,hTI,λv q=>by cases q⟩
  ·exact⟨_,hTO,λv q=>by cases q⟩
  ·exact⟨_,e1,λv q=>by rw[d1] at q;cases q⟩
  ·exact⟨_,e2,λv q=>by rw[d2] at q;cases q⟩
 keep:=λi h h' st k=>by
  obtain⟨hz,hTI,⟨x,y,hTO⟩,h1,h2⟩:=st
  exact⟨k z (by simp) _ hz,k TI (by simp) _ hTI,⟨x,y,k TO (by simp) _ hTO⟩,h1.at λo e=>k i1 (by simp) o e,h2.at λo e=>k i2 (by simp) o e⟩
 item:=by
  intro X hP hw hK hc i pins s σ H E I hf st hg
  subst hP hw hK
  obtain⟨xs,ys,x,y,hq,hq2,hx,hy⟩:=hg
  obtain⟨its,rv,p,hz0⟩:=I.list hq
  obtain⟨its2,rv2,p2,hz2⟩:=I.list hq2
  obtain⟨u,hu,ru⟩:=rv.get hx
  obtain⟨u2,hu2,ru2⟩:=rv2.get hy
  have DD:=D.full st p.isList p2.isList
  have st0:=st
  obtain⟨hz,hTI,⟨va,vb,hTO⟩,h1,h2⟩:=st
  refine wpAny_pyNext_zip_item DD hz hTI hTO h1 h2 p.isList p2.isList (x:=u) (y:=u2) (by simpa using hu) (by simpa using hu2) λh' a1 a2 a3 a4 a5 a6 hk=>?_
  refine⟨.ref s.heap.objs.size,rfl,wpAny_letOwnedTupleGo_zip (s:={s with heap:=h'}) a1 λh'' b1 sb=>?_⟩
  have hfr:H s.heap.objs.size=none:=I.hok.fresh (Nat.le_refl _)
  have lt:∀c∈[z,TI,TO,i1,i2],c<s.heap.objs.size:=λc hc=>by
   obtain⟨_,_,_,⟨o1,e1,_⟩,⟨o2,e2,_⟩⟩:=st0
   simp only[List.mem_cons,List.not_mem_nil,or_false] at hc
   rcases hc with rfl|rfl|rfl|rfl|rfl
   ·exact Heap.lt_size hz
   ·exact Heap.lt_size hTI
   ·exact Heap.lt_size hTO
   ·exact Heap.lt_size e1
   ·exact Heap.lt_size e2
  have nz:s.heap.objs.size≠z:=Nat.ne_of_gt (lt z (by simp))
  have hf2:∀c∈[z,TI,TO,i1,i2],(b7 H s.heap.objs.size (.tup [x,y])) c=none:=λc hc=>by
   rw[aD (Nat.ne_of_lt (lt c hc))];exact (hf c hc).1
  refine⟨.ref s.heap.objs.size,b7 H s.heap.objs.size (.tup [x,y]),I.turnL (t':=s.toks) hf (λc v hc q=>?_) (Nat.le_refl _) ?_,rfl,⟨_,x,y,hfr,rfl,rfl,λzs hz=>by rw[I.list_inj hz hq];exact hx,λzs hz=>by rw[I.list_inj hz hq2];exact hy⟩,?_,hf2⟩
  ·simp only[List.mem_cons,List.not_mem_nil,or_false,not_or] at hc
   exact (sb.2 c hc.1).trans (hk c v hc.1 hc.2.2.1 hc.2.2.2.1 hc.2.2.2.2 q)
  ·exact⟨(by decide:2<=sizeLine),[u,u2],.cons ru (.cons ru2 .nil),_,(sb.2 _ nz).trans a5,rfl,_,rfl⟩
  ·refine⟨b1,(sb.2 _ D.TIz).trans (hk TI _ D.TIz D.TITO D.TIi1 D.TIi2 hTI),⟨_,_,(sb.2 _ D.TOz).trans a2⟩,a3.at λo q=>(sb.2 _ D.i1z).trans q,a4.at λo q=>(sb.2 _ D.i2z).trans q⟩
 done:=by
  intro X hP hw hK hc i pins s σ H E I hf st hg
  subst hP hw hK
  obtain⟨xs,ys,hq,hq2,hx⟩:=hg
  obtain⟨its,rv,p,hz0⟩:=I.list hq
  obtain⟨its2,rv2,p2,hz2⟩:=I.list hq2
  have DD:=D.full st p.isList p2.isList
  obtain⟨hz,hTI,⟨va,vb,hTO⟩,h1,h2⟩:=st
  have l1:=rv.length
  have l2:=rv2.length
  have he:its.toArray[i]? =none\/its2.toArray[i]? =none:=by
   rcases hx with z|z
   ·exact .inl (by simp;omega)
   ·exact .inr (by simp;omega)
  refine wpAny_pyNext_zip_end (I.ok.hd hc) DD hz hTI hTO h1 h2 p.isList p2.isList he λh' hk=>⟨rfl,?_⟩
  exact I.turnedF (t':=s.toks) hf λc v hc q=>by
   simp only[List.mem_cons,List.not_mem_nil,or_false,not_or] at hc
   exact hk c v hc.1 hc.2.2.1 hc.2.2.2.1 hc.2.2.2.2 q
 self:=λ_ _ _ _ _ st h=>wpAny_pyIter_zip st.1 h
def a2M(K:Aa)(ta:TA):TI:=λσ H R=>ta σ H λvs H1=>∃a b,vs=[.ref a,.ref b]/\(∃xs,cS K H1 a xs)/\(∃ys,cS K H1 b ys)/\R (a24 K a b) H1
theorem JG:bootBuiltins "zip"=some (.type "zip"):=by rfl
theorem XA {X:Cx} {a b:Expr} {ta:TA} {elts:List Expr} {x1} {tpos p pos:Pos} (hg:Gl X "zip") (hm:X.mg "zip"=none) (ha:PA X [a,b] ta) (hs:starEach [a,b] X.env=[(false,eval a X.env),(false,eval b X.env)]) (hs1:starEach [b] X.env=[(false,eval b X.env)]) :
  PI X (.Tuple elts x1 tpos) (.Call (.Name "zip" p) [a,b] [] pos) (a2M X.K ta):=by
 intro pins s σ H R I h
 refine Call_ (mE I hg hm JG (PyProof.Rows.callWith_type1 (cH (ha pos pins s σ H _ I h) λus s1 ⟨vs,H1,I1,r1,q1⟩=>?_) (hs.trans (by rw[hs1])) (by rw[hs1];rfl)))
 obtain⟨l,l2,e,⟨xs,hq⟩,⟨ys,hq2⟩,q⟩:=q1
 subst e
 cases r1 with
 | cons r rr=>
  cases rr with
  | cons r2 rr=>
   cases rr
   cases r
   cases r2
   obtain⟨its,rv,p,hz⟩:=I1.list hq
   obtain⟨its2,rv2,p2,hz2⟩:=I1.list hq2
   refine call_zip_2 p.isList p2.isList λh' z1 z2 z3 z4 z5 z6 hk=>?_
   refine wpAny_pyIter_zip z1 ?_
   have I2:Inv X pins σ H1 {s1 with heap:=h'}:=I1.kept (t':=s1.toks) hk
   have D:ZAp (s1.heap.objs.size+4) (s1.heap.objs.size+2) (s1.heap.objs.size+3) s1.heap.objs.size (s1.heap.objs.size+1):=by
    have n:∀ {x y:Nat},x<y\/y<x->x≠y:=λh=>by omega
    exact⟨n (by omega),n (by omega),n (by omega),n (by omega),n (by omega),n (by omega),n (by omega),n (by omega),n (by omega),n (by omega)⟩
   refine⟨s1.heap.objs.size+4,[s1.heap.objs.size+4,s1.heap.objs.size+2,s1.heap.objs.size+3,s1.heap.objs.size,s1.heap.objs.size+1],_,_,H1,rfl,I2,ND l l2 _ _ _ _ _ D,⟨z1,z2,⟨_,_,z3⟩,z4,z5⟩,λb hb=>?_,q⟩
   have hb':s1.heap.objs.size<=b:=by
    simp only[List.mem_cons,List.not_mem_nil,or_false] at hb
    rcases hb with rfl|rfl|rfl|rfl|rfl<;>omega
   exact I1.fpOk hb' (I1.hok.fresh hb')
def uV(xs ys:List PV):List PV:=(xs.zip ys).map λz=>.tup [z.1,z.2]
theorem j4(xs ys:List PV):(uV xs ys).length=min xs.length ys.length:=by simp[uV]
theorem zI {xs ys:List PV} {i:Nat} {z:PV}:(uV xs ys)[i]? =some z↔∃x y,xs[i]? =some x/\ys[i]? =some y/\z= .tup [x,y]:=by
 rw[uV,List.getElem?_map,Option.map_eq_some_iff]
 constructor
 ·rintro⟨⟨x,y⟩,h,rfl⟩
  have:=List.getElem?_zip_eq_some.mp h
  exact⟨x,y,this.1,this.2,rfl⟩
 ·rintro⟨x,y,h1,h2,rfl⟩
  exact⟨(x,y),List.getElem?_zip_eq_some.mpr ⟨h1,h2⟩,rfl⟩
def sY(a b:aR):lM:=λenv Q=>a env λx=>b env λy=>match x,y with
 |.lst xs,.lst ys=>Q (uV xs ys)
 |_,_=>False
section
variable{X:Cx}{md:List Md}{el:El}{a b e tg:Expr}{pa pb pe:aR}{p pos:Pos}
theorem RY {K:PySem.W.Frag} {B:Hp} {W:Wd} {H:Hp} {l l2:Addr} {vs vs2:List V} {xs ys:List PV} (hF:W.F l) (e:H l=some (.lst vs)) (r:Reps (el.G W.F B) H vs xs) (hF2:W.F l2) (e2:H l2=some (.lst vs2)) (r2:Reps (el.G W.F B) H vs2 ys):Src (a24 K l l2) el B W H (uV xs ys) where
 go:=λi W2 H2 x hi=>by
  rw[j4] at hi
  exact⟨vs,vs2,vs[i]'(by rw[r.len];omega),vs2[i]'(by rw[r2.len];omega),cS.of (x.kp l _ hF e),cS.of (x.kp l2 _ hF2 e2),a0a _,a0a _⟩
 stop:=λW2 H2 x=>⟨vs,vs2,cS.of (x.kp l _ hF e),cS.of (x.kp l2 _ hF2 e2),by rw[r.len,r2.len,j4];omega⟩
 yld:=λi W2 H2 v H3 x w hi y=>by
  obtain⟨t,u,u2,ht,rfl,rfl,y,y2⟩:=y
  have h1:=y vs (cS.of (x.kp l _ hF e))
  have h2:=y2 vs2 (cS.of (x.kp l2 _ hF2 e2))
  obtain⟨z,ez,rz⟩:=r.getV h1
  obtain⟨z2,ez2,rz2⟩:=r2.getV h2
  have g:Go W2 H2 W2 (b7 H2 t (.tup [u,u2])):=Go.laid w ht
  have q1:=g.rep w (G':=el.G W2.F B) (λ_ h=>El.nS w h) (λ_ h=>h) (x.rep (G':=el.G W2.F B) (λ_ g=>El.GF g) (λ_ g=>El.up x.lF (λ_ h=>h) g) rz)
  have q2:=g.rep w (G':=el.G W2.F B) (λ_ h=>El.nS w h) (λ_ h=>h) (x.rep (G':=el.G W2.F B) (λ_ g=>El.GF g) (λ_ g=>El.up x.lF (λ_ h=>h) g) rz2)
  refine⟨g,.tup [z,z2],zI.mpr ⟨z,z2,ez,ez2,rfl⟩,.tup aU rfl λj v x e1 e2=>?_⟩
  match j,e1,e2 with
  |0,e1,e2=>cases e1;cases e2;exact q1
  |1,e1,e2=>cases e1;cases e2;exact q2
theorem NN {elts:List Expr} {x1} {tpos:Pos} (hg:X.env.scope.names.lookup (Str.ofString "zip")=some NameKind.globalImplicit) (hm:X.mg "zip"=none) (ha:VE X md a (.v el) pa) (hb:VE X md b (.v el) pb) (hs:starEach [a,b] X.env=[(false,eval a X.env),(false,eval b X.env)]:=by rfl) (hs1:starEach [b] X.env=[(false,eval b X.env)]:=by rfl) :
  VI X md el (.Tuple elts x1 tpos) (.Call (.Name "zip" p) [a,b] [] pos) (sY pa pb):=
 ⟨(XA hg hm (a7 ha (a7 hb aC hs1) (by rw[hs,hs1])).h hs hs1).imp λσ H R=>by
 rintro⟨env,W0,H0,W,Q,Rr,q,k⟩
 refine⟨env,W0,H0,W,λxs=>match xs with|[.lst zs,.lst ws]=>Q (uV zs ws)|_=>False,Rr,?_,λxs vs W1 H1 g1 r1 q1=>?_⟩
 ·show pa env λx=>pb env λy=>_
  unfold sY at q
  refine (iff_of_eq (congrArg (pa env) (funext λx=>congrArg (pb env) (funext λy=>?_)))).mp q
  cases x<;>cases y<;>rfl
 ·cases r1 with
  | cons r ra=>cases ra with
   | cons r2 ra=>cases ra with
    | nil=>
     rename_i v x v2 x2
     cases x with
     | lst xs=>cases x2 with
      | lst ys=>
       obtain⟨a,vs,rfl,g,e,rs⟩:=Rep.ofList r
       obtain⟨a2,vs2,rfl,g2,e2,rs2⟩:=Rep.ofList r2
       exact⟨a,a2,rfl,⟨vs,cS.of e⟩,⟨vs2,cS.of e2⟩,k _ W1 H1 _ g1 (RY (El.GF g) e rs (El.GF g2) e2 rs2) q1⟩
      |_=>exact q1.elim
     |_=>exact q1.elim⟩
end
theorem FP {X:Cx} {md lm:List Md} {rm:Md} {i j:Nat} {x y:Str} {a b:Expr} {pa pb:aR} {m1 m2:Md} {px py pt pos:Pos} {kt k2 pt2} (hc:X.calm=true) (hN:X.N.Nodup) (hi:X.N[i]? =some x) (hj:X.N[j]? =some y) (hij:i≠j)
  (hx:X.env.scope.names.lookup x=some .local) (hy:X.env.scope.names.lookup y=some .local) (ha:VE X md a m1 pa) (hb:VE X md b m2 pb)
  (hw:swappedStores [.Tuple [.Name x px,.Name y py] kt pt] (.Tuple [a,b] k2 pt2) X.env=pure (some [x,y]))
  (hs:swapsWithSole [.Tuple [.Name x px,.Name y py] kt pt] (.Tuple [a,b] k2 pt2) pos.line X.env=pure false)
  (h1:fG (md.set i m1)=true) (l1:i<md.length) (h2:fG ((md.set i m1).set j m2)=true) (l2:j<md.length)
  (hs1:starEach [b] X.env=(false,eval b X.env)::starEach [] X.env:=by rfl) (hs2:starEach [a,b] X.env=(false,eval a X.env)::starEach [b] X.env:=by rfl) :
  VS X md ((md.set i m1).set j m2) lm rm (.Assign [.Tuple [.Name x px,.Name y py] kt pt] (.Tuple [a,b] k2 pt2) pos) (HW i j (a8 pa (a8 pb aG))):=
 ⟨(XD hc hN hi hj hij hx hy (dP ha.h (dP hb.h gR hs1) hs2) hw hs).imp λD σ H=>by
  rintro⟨env,W0,H0,W,E,R,q,l⟩
  refine⟨env,W0,H0,W,_,R,q,λx v W1 H1 g1 r1 q1=>⟨env,W0,H0,W1,_,R.step g1,q1,λy u W2 H2 g2 r2 q2=>?_⟩⟩
  refine⟨v,u,rfl,?_⟩
  dsimp only[aG] at q2
  rw[dD,dD] at q2
  exact l.nx _ W2 _ H2 ((R.set g1 r1 h1 l1).set g2 r2 h2 (by rw[List.length_set];exact l2)) ((g1.trans g2).ex R.ok) q2⟩
def a3B(K:Aa)(ta tb:TE):TE:=λσ H Q=>ta σ H λx H1=>∃k,ZE K x H1 k/\if k=true then Q x H1 else tb σ H1 Q
theorem X3{X:Cx}{a b:Expr}{rest:List Expr}{ta tb:TE}{pos:Pos}(ha:PE X a ta)(hb:PE X (.BoolOp .Or (b::rest) pos) tb):PE X (.BoolOp .Or (a::b::rest) pos) (a3B X.K ta tb):=by
 intro pins s σ H Q I h
 refine BoolOp_or (cH (ha pins s σ H _ I h) λv s1 ⟨x,H1,I1,r1,q1⟩=>?_)
 obtain⟨k,t,q1⟩:=q1
 refine cH (YI pins s1 σ H1 x v (λk' H2=>k'=k/\H2=H1) I1 r1 ⟨k,t,rfl,rfl⟩) λk' s2 ⟨H2,I2,e⟩=>?_
 obtain⟨rfl,rfl⟩:=e
 cases k' with
 |true=>exact⟨x,H2,I2,r1,q1⟩
 |false=>exact hb pins s2 σ H2 Q I2 q1
def LR(a b:aR):aR:=λenv Q=>a env λx=>match x with
 |.lst xs=>Br (!xs.isEmpty) (Q (.lst xs)) (b env Q)
 |_=>False
theorem YU {X:Cx} {md:List Md} {el:El} {a b:Expr} {rest:List Expr} {pa pb:aR} {pos:Pos} (ha:VE X md a (.o el) pa) (hb:VE X md (.BoolOp .Or (b::rest) pos) (.o el) pb):VE X md (.BoolOp .Or (a::b::rest) pos) (.o el) (LR pa pb):=⟨(X3 ha.h hb.h).imp λσ H K=>by
 rintro⟨env,W0,H0,W,Q,R,q,k⟩
 refine⟨env,W0,H0,W,_,R,q,λx v W1 H1 g1 r1 q1=>?_⟩
 cases x with
 | lst xs=>
  have r0:=r1
  obtain⟨a,o,rfl,oq⟩:=r1
  have b:=oq.its
  have hat:=oq.at_
  cases b with
  | @lst us _ h=>
   have he:(!us.isEmpty)= !xs.isEmpty:=by
    have:=h.len
    cases us<;>cases xs<;>simp at this ⊢
   refine⟨!us.isEmpty,.inl ⟨us,cS.of hat,rfl⟩,?_⟩
   rw[he]
   dsimp only at q1
   cases hb':(!xs.isEmpty) with
   |true=>rw[hb'] at q1;rw[if_pos rfl];exact k _ _ W1 H1 g1 r0 q1
   |false=>rw[hb'] at q1;rw[if_neg Bool.false_ne_true];exact⟨env,W0,H0,W1,Q,R.step g1,q1,k.after g1⟩
 |_=>exact q1.elim⟩
def jJ (i:Nat) (y:PV) (pj:aR) (Kp:b5->Prop) (env:b5):Prop:=match lR env i with
 | some (some (.lst xs))=>pj env λj=>(match j with
  | .int k=>(match rZ xs.length k with
   |some n=>Kp (dO env i (some (.lst (xs.set n y))))
   |none=>False)
  |_=>False)
 |_=>False
def vS(i i':Nat)(pe pj pj':aR):bD:=λE env=>pe env λt=>match t with
 |.tup [y,z]=>jJ i y pj (λenv1=>jJ i' z pj' E.nx env1) env
 |_=>False
section
variable{X:Cx}{md lm:List Md}{rm:Md}{i i':Nat}{el el':El}{e o o' j j':Expr}{pe pj pj':aR}{p p' pt pos:Pos}
theorem MD {W0 W1:Wd} {H0 H1:Hp} {σ:St} {env:b5} {v:V} {y:PV} {Kp:b5->Prop} {Q:St->Hp->Prop} (hi:md.getD i .no= .o el) (R1:Rl X.K md W0 H0 W1 σ env H1) (r1:Rep (λ_=>False) H1 v y) (q1:jJ i y pj Kp env)
  (k:∀env' W2 H2,Rl X.K md W0 H0 W2 σ env' H2->Ex W1 H1 W2 H2->Kp env'->Q σ H2):KM (eH i) (eK X.K md .bw pj) wH v σ H1 Q:=by
 unfold jJ at q1
 rw[iO] at q1
 cases ev:env[i]? with
 |none=>rw[ev] at q1;exact q1.elim
 | some ox=>
  cases ox with
  |none=>rw[ev] at q1;exact q1.elim
  | some x=>
   rw[ev] at q1
   cases x with
   | lst xs=>
    obtain⟨a,ob,sv,oq⟩:=R1.ownAt hi ev
    refine⟨.ref a,sv,env,W0,H0,W1,_,R1,q1,λjv u W2 H2 g2 r2 q2=>?_⟩
    have R2:=R1.step g2
    obtain⟨a2,o2,sv2,oq2⟩:=R2.ownAt hi ev
    rw[sv] at sv2;cases sv2
    cases jv with
    | int k'=>
     dsimp only at q2
     cases hn:rZ xs.length k' with
     |none=>rw[hn] at q2;exact q2.elim
     | some n=>
      rw[hn] at q2
      have b:=oq2.its
      have oq3:=oq2
      have hat:=oq2.at_
      generalize o2=oo at b hat oq3
      cases b with
      | @lst us _ h=>
       have r1':Rep (el.G W2.F H0) H2 v y:=(r1.mono (G':=λ_=>False) (λ_ z=>z) λa o z e=>(g2.ex R1.ok).im a o (z.elim (λz=>z.elim) λz=>z) e).weak λ_ z=>z.elim
       refine⟨a,us,k',n,rfl,Rep.ofInt r2,hat,by rw[h.len];exact hn,?_⟩
       have q2:Kp (dO env i (some (PV.lst (xs.set n y)))):=q2
       rw[dD] at q2
       exact k _ W2 _ (R2.put hi ev sv (.lst (h.set r1' n)) rfl) ((g2.ex R1.ok).trans (yG (K:=X.K) (md:=md) (W0:=W0) (σ:=σ) (env:=env) (i:=i) oq3)) q2
    |_=>exact q2.elim
   |_=>exact q1.elim
theorem SK {kt:Nat} (hc:X.calm=true) (ho:QE X o (eH i)) (hi:md.getD i .no= .o el) (ho':QE X o' (eH i')) (hi':md.getD i' .no= .o el') (he:VE X md e (.v .fl) pe) (hj:VE X md j .bw pj) (hj':VE X md j' .bw pj')
  (ha:∀v,assign (.Subscript o j p) X.env v=(do
   let ov <- holding [v] (eval o X.env)
   let iv <- holding [v,ov] (eval j X.env)
   standAt p
   holding [v,ov,iv] (setItem ov iv v)
   release [v,ov,iv] []):=by intro _;rfl)
  (ha':∀v,assign (.Subscript o' j' p') X.env v=(do
   let ov <- holding [v] (eval o' X.env)
   let iv <- holding [v,ov] (eval j' X.env)
   standAt p'
   holding [v,ov,iv] (setItem ov iv v)
   release [v,ov,iv] []):=by intro _;rfl)
  (hg1:(assignEach [.Subscript o j p,.Subscript o' j' p'] X.env).map (·.2)=assign (.Subscript o j p) X.env::(assignEach [.Subscript o' j' p'] X.env).map (·.2):=by rfl)
  (hg2:(assignEach [.Subscript o' j' p'] X.env).map (·.2)=assign (.Subscript o' j' p') X.env::(assignEach [] X.env).map (·.2):=by rfl)
  (hn:(assignEach [.Subscript o j p,.Subscript o' j' p'] X.env).length=2:=by rfl) (hst:(assignEach [.Subscript o j p,.Subscript o' j' p'] X.env).findIdx? (·.1)=none:=by rfl)
  (hs:swapsWithSole [.Tuple [.Subscript o j p,.Subscript o' j' p'] kt pt] e pos.line X.env=pure false:=by rfl) (hw:swappedStores [.Tuple [.Subscript o j p,.Subscript o' j' p'] kt pt] e X.env=pure none:=by rfl)
  (h1:(assignEach [.Tuple [.Subscript o j p,.Subscript o' j' p'] kt pt] X.env).map (·.2)=[assign (.Tuple [.Subscript o j p,.Subscript o' j' p'] kt pt) X.env]:=by rfl) :
  VS X md md lm rm (.Assign [.Tuple [.Subscript o j p,.Subscript o' j' p'] kt pt] e pos) (vS i i' pe pj pj'):=
 ⟨(yF he.h (M5 hc (sX (yD ho.h hj.h oE ha) (sX (yD ho'.h hj'.h oE ha') F0 hg2) hg1) hn hst) hs hw h1).imp λD σ H=>by
 rintro⟨env,W0,H0,W,E,R,q,l⟩
 refine⟨env,W0,H0,W,_,R,q,λt v W1 H1 g1 r1 q1=>?_⟩
 match t,r1,q1 with
 | .tup [y,z],r1,q1=>
  have r1':Rep (λ_=>False) H1 v (.tup [y,z]):=r1
  obtain⟨a,vs,rfl,e,rs⟩:=r1'.ofTup
  match vs,rs,e with
  | [v1,v2],rs,e=>
   refine⟨a,[v1,v2],rfl,d7.of e,rfl,v1,[v2],rfl,?_⟩
   refine MD hi (R.step g1) (rs.at_ 0 v1 y rfl rfl) q1 λenv' W2 H2 R2 x2 q2=>?_
   refine⟨v2,[],rfl,?_⟩
   have r2:Rep (λ_=>False) H2 v2 z:=(rs.at_ 1 v2 z rfl rfl).mono (λ_ z=>z) λa o z e=>x2.im a o (z.elim (λz=>z.elim) λz=>z) e
   refine MD hi' R2 r2 q2 λenv3 W3 H3 R3 x3 q3=>⟨rfl,?_⟩
   exact l.nx env3 W3 σ H3 R3 (((g1.ex R.ok).trans x2).trans x3) q3
  |[],rs,e=>have:=rs.len;simp at this
  |[_],rs,e=>have:=rs.len;simp at this
  |_::_::_::_,rs,e=>have:=rs.len;simp at this⟩
end
def N9(tk tv:TE)(acc:Ac):TS:=λD σ H=>tk σ H λx H1=>tv σ H1 λy H2=>∃k kvs,x=kV k/\H2 acc=some (.dK kvs)/\kvs.length<sizeLine/\D.nx σ (b7 H2 acc (.dK (B3 kvs k y)))
def JV (k v:Expr) (acc:Value) (env:Env):Sem Unit:=do
 let kv <- eval k env
 let vv <- holding [kv] (eval v env)
 match acc with
 | .ref d=>do
  standAt {k.pos with endLine:=v.pos.endLine,endCol:=v.pos.endCol}
  holding [kv,vv] (dictSet d kv vv)
 |_=>unsupported "internal:dictcomp"
theorem QY{Y:Cx}(hx:Y.xe=λ_ _=>False){k v:Expr}{tk tv:TE}{acc:Addr}(hk:PE Y k tk)(hv:PE Y v tv):PB Y (JV k v (.ref acc) Y.env) (N9 tk tv acc):=by
 intro pins s σ H D I h
 have h0:=hk pins s σ H _ I h
 rw[hx] at h0
 unfold JV
 refine a0b (wpAny_mono h0 (λkv s1 h1=>?_) λ_ _ z=>z)
 obtain⟨x,H1,I1,r1,q1⟩:=h1
 have h1:=hv pins s1 σ H1 _ I1 q1
 rw[hx] at h1
 refine a0b (wpAny_holding (wpAny_mono h1 (λvv s2 h2=>?_) λ_ _ z=>z))
 obtain⟨y,H2,I2,r2,kk,kvs,rfl,ha,hl,q2⟩:=h2
 refine a0b (wpAny_standAt (wpAny_holding ?_))
 obtain⟨z,hd,vs,rel,dd⟩:=ZN I2.hok ha
 have hz:vs.length<=sizeLine:=by rw[<- rel.length];exact z
 have hl2:(B3 kvs kk y).length<=sizeLine:=by have:=AC kvs kk y;omega
 refine wpAny_dictSet_pairs (hsz:=hz) (KU r1) dd λh' dd' hs=>⟨σ,_,?_,q2⟩
 have he:∃q,h'.get? acc=some q:=let ⟨q,_,_,hq,_⟩:=dd';⟨q,hq⟩
 exact OM I2 (by rw[ha];exact True.intro) hs he (UB hl2 hd (rel.put kk r2) dd')
def a3S(wi:TI)(g:TG)(tt:TT)(tk tv:TE)(n:Nat)(cap:List Nat):TE:=λσ H Q=>wi σ H λJ H1=>∀acc,H1 acc=none->
 n0 J g (ID tt (N9 tk tv acc)) {nx:=λ_ H'=>Q (.ref acc) H',rt:=λ_ _=>False} (CU n cap σ) (b7 H1 acc (.dK []))
section
variable{X:Cx}{kx vx target iter:Expr}{ifs:List Expr}{scope:Scope}{pos:Pos}{N':List Str}{n:Nat}{cap:List Nat}{wi:TI}{g:TG}{tt:TT}{tk tv:TE}
theorem M8 {x:Str} {pos' pos2:Pos} {gg:TG} (hgx:PG X (.Name x pos') gg) (hsw:swapsWith (.DictComp kx vx [⟨target,iter,ifs,0⟩] scope pos) (some (.Name x pos')) pos2.line X.env=pure true) (hc:X.calm=true) (S:LcOk X.N X.env.scope scope N' n cap) (hi:PI X target iter wi) (hg:∀C s H fp,PG (aS X N' scope C s H fp) target g)
    (ht:∀C s H fp,IT (aS X N' scope C s H fp) ifs tt) (hk:∀C s H fp,PE (aS X N' scope C s H fp) kx tk) (hv:∀C s H fp,PE (aS X N' scope C s H fp) vx tv) (hs:∀x,foldedSetIterable iter X.env x=pure x:=by intro _;rfl) :
    PS X (.Assign [.Name x pos'] (.DictComp kx vx [⟨target,iter,ifs,0⟩] scope pos) pos2) (BJ (a3S wi g tt tk tv n cap) gg):=by
  intro pins s σ H D I h
  have hfree:∀y∈scope.names,y.2= .free->∃c,X.env.cells.lookup y.1=some c:=λy hy e=>I.ok.has y.1 (.inl (S.frees y hy e))
  rw[exec_Assign_Name_used x pos' _ pos2 hsw]
  refine a0b (wpAny_standAt (a0b ?_))
  rw[arm_evalThenUse_DictComp]
  refine a0b ?_
  refine wpAny_comprehension_free (use:=some (assign (.Name x pos') X.env)) (Q:=λ_ s'=>wpAny (model X.prog X.w) X.A (pure ()) (λ_ s'=>wpAny (model X.prog X.w) X.A (pure Flow.next) (SP X pins D) X.xe s') X.xe s') rfl hs (jD hfree) S.kind S.names ?_
  refine cH (hi pins s σ H _ I h) λv s1 h1=>cH h1 λitv s2 h2=>?_
  obtain⟨it,fp,tn,J,H2,rfl,I2,T,st2,f2,body⟩:=h2
  refine wpAny_newObj_type ?_
  have I3:Inv X pins σ (b7 H2 s2.heap.objs.size (.dK [])) {s2 with heap:=s2.heap.push {cls:=.type "dict",dict:=none,data:=.dict #[]} }:=I2.laid (a:=s2.heap.objs.size) (o:=.dK []) (t':=s2.toks) (λ_ _ q=>a0e _ q) (Nat.le_refl _) (JY s2.heap I2.big)
  have hacc:H2 s2.heap.objs.size=none:=I2.fresh
  have body:=body _ hacc
  have hlt:∀b∈fp,b<s2.heap.objs.size:=λb hb=>by
    obtain⟨o,e,_⟩:=T.obj 0 _ st2 b hb
    exact Heap.lt_size e
  have hf3:∀b∈fp,iH X pins (b7 H2 s2.heap.objs.size (.dK [])) b:=λb hb=>
    ⟨by rw[aD (Nat.ne_of_lt (hlt b hb))];exact (f2 b hb).1,(f2 b hb).2⟩
  refine wpAny_newFunctionEnv S.nocell (by intro y hy;cases hy) (λh4 ns4 sb4=>?_) S.kind
  generalize hs3:({s2 with heap:=s2.heap.push {cls:=.type "dict",dict:=none,data:=.dict #[]} }:Ab)=s3 at*
  have hsz:s2.heap.objs.size<s3.heap.objs.size:=by rw[<- hs3,Heap.size_push];exact Nat.lt_succ_self _
  have k4:∀b o,s3.heap.get? b=some o->h4.get? b=some o:=λb o e=>(sb4.2 b (Nat.ne_of_lt (Heap.lt_size e))).trans (a0e _ e)
  generalize hH3:b7 H2 s2.heap.objs.size (.dK [])=H3 at*
  have I3':Inv X pins σ H3 s3:=I3
  have IY:=nM (tk:=s3.toks+([]:List (Str×Value)).length) S I3' hf3 (λb hb=>Nat.lt_trans (hlt b hb) hsz) ns4 k4
  have fpY:∀b∈fp,iH (aS X N' scope s3.heap.objs.size s3 H3 fp) [] H3 b:=λb hb=>by
    obtain⟨f0,f1,f2',f3,f4,f5⟩:=hf3 b hb
    refine⟨f0,Nat.ne_of_lt (Nat.lt_trans (hlt b hb) hsz),λz=>?_,.inl hb,λx c e=>f4 x c (kG hfree e),λp hp=>absurd hp (by simp[aS])⟩
    rcases List.mem_cons.mp (I3'.stkSub b z) with z|z
    · exact f1 z
    · exact f2' z
  have tn4:tn 0 h4:=T.keep 0 _ _ st2 λb hb o e=>k4 b o (by rw[<- hs3];exact a0e _ e)
  have loop:codeAny (model X.prog X.w) X.A (.compLoop (.DictComp kx vx [⟨target,iter,ifs,0⟩] scope pos) 0 (.ref it) (.ref s2.heap.objs.size) (aS X N' scope s3.heap.objs.size s3 H3 fp).env)
      (compPost (model X.prog X.w) X.A X.xe (some (assign (.Name x pos') X.env)) (λ_ s'=>wpAny (model X.prog X.w) X.A (pure ()) (λ_ s'=>wpAny (model X.prog X.w) X.A (pure Flow.next) (SP X pins D) X.xe s') X.xe s') (.ref s2.heap.objs.size) s3.heap.objs.size) {s3 with heap:=h4,toks:=s3.toks+([]:List (Str×Value)).length}:=by
    refine rP (Y:=aS X N' scope s3.heap.objs.size s3 H3 fp) (act:=JV kx vx (.ref s2.heap.objs.size) (aS X N' scope s3.heap.objs.size s3 H3 fp).env) (.dict _ _ _ _ _) hc rfl rfl (hg _ _ _ _) (ht _ _ _ _) (QY rfl (hk _ _ _ _) (hv _ _ _ _)) T IY tn4 fpY body λi σ5 H5 s6 I6 qn=>?_
    obtain⟨m,hn,_⟩:=I6.loc
    have hs':Heap.SameBut s3.heap.objs.size s6.heap s6.heap:=⟨rfl,λ_ _=>rfl⟩
    have IX:Inv X pins σ H5 s6:=by
      have ub:=I6.base
      have ne:∀b o,s3.heap.get? b=some o->b≠s3.heap.objs.size:=λb o e=>Nat.ne_of_lt (Heap.lt_size e)
      refine I3'.call' (s':=s6) (ch:=fp) I6.os ⟨λb o e z1 z2 z3=>(hs'.2 b (ne b o e)).trans (ub.keep b o e z1 z2 z3),λb o e z1 z2 z3=>?_,ub.free,λb o e z=>?_,ub.tups,ub.frzs,ub.tbls⟩ (qQ I6.hok I6.free hs') I6.bare λb hb=>⟨(hf3 b hb).2.2.2.1,(hf3 b hb).2.1,(hf3 b hb).2.2.2.2.1,(hf3 b hb).2.2.2.2.2⟩
      · obtain⟨sl,e'⟩:=ub.slot b o e z1 z2 z3
        exact⟨sl,(hs'.2 b (ne b o e)).trans e'⟩
      · obtain⟨o',e'⟩:=ub.there b o e z
        exact⟨o',(hs'.2 b (ne b o e)).trans e'⟩
    have fC:iH X pins H5 s3.heap.objs.size:=I3'.fpOk (Nat.le_refl _) I6.free
    have IXp := IX.pinned (fp := [s3.heap.objs.size]) (fun b hb => by have e : b=s3.heap.objs.size:=by simpa using hb
                                                                      subst e;exact fC) (λb hb=>by
      have e:b=s3.heap.objs.size:=by simpa using hb
      subst e
      obtain⟨o,es,ep,ho,hd,_⟩:=hn
      exact⟨o,ho,λv z=>by rw[hd] at z;cases z⟩)
    show wpAny _ _ (assign (.Name x pos') X.env (.ref s2.heap.objs.size)) _ _ s6
    refine cH (hgx _ s6 σ H5 (.ref s2.heap.objs.size) (.ref s2.heap.objs.size) _ IXp rfl qn) λ_ s7 h7=>?_
    obtain⟨σ7,H7,I7,q7⟩:=h7
    obtain⟨o,es,ep,ho,hd⟩:=id hn
    have z:=I7.pin (s3.heap.objs.size,o) (List.mem_append_right _ (List.mem_append_right _ (dX (by simp) ho)))
    refine⟨m,⟨o,es,ep,z.1,hd⟩,λh' hs'=>a0d (a0d ⟨σ7,H7,?_,q7⟩)⟩
    obtain⟨f0,f1,f2,f3,f4,f5⟩:=fC
    exact I7.unpinned.turned (t':=s7.toks) (it:=s3.heap.objs.size) (λb o hb e=>(hs'.2 b hb).trans e) z.2.1 f1 f3 f4 f5
  exact iM (.dict _ _ _ _ _) rfl loop (T.self _ 0 _ _ _ tn4 loop)
end
def uM (g:hW) (tt:eS) (tk tv:aR) (Q:PV->Prop):List PV->List cI->List PV->b5->Prop
 |[],ks,xs,_=>Q (.dic ks xs)
 | i::r,ks,xs,env=>g i env λenv1=>tt env1 λb=>Br b (tk env1 λx=>tv env1 λy=>match VU x with
   |some k=>ks.length<1000/\uM g tt tk tv Q r (OU ks k) (IV ks xs k y) env1
   |none=>False) (uM g tt tk tv Q r ks xs env1)
def Z4(s:lM)(g:hW)(tt:eS)(tk tv:aR)(cp:b5->b5):aR:=λenv Q=>s env λitems=>uM g tt tk tv Q items [] [] (cp env)
structure DicIn(acc:Addr)(H0:Hp)(W:Wd)(H:Hp)(ks:List cI)(xs:List PV):Prop where
 ex:∃vs,H acc=some (.dK (ks.zip vs))/\ks.length=vs.length/\Reps (λ_=>False) H vs xs
 new:H0 acc=none
 nF:¬W.F acc
 nS:¬W.S acc
 nL:¬W.L acc
 nZ:¬W.Z acc
theorem DicIn.go{acc:Addr}{H0:Hp}{W W':Wd}{H H':Hp}{ks:List cI}{xs:List PV}(x:DicIn acc H0 W H ks xs)(w:Wok W H)(g:Go W H W' H'):DicIn acc H0 W' H' ks xs:=by
 obtain⟨vs,h1,h2,h3⟩:=x.ex
 exact⟨⟨vs,g.kp acc _ h1 x.nS,h2,h3.mono (λ_ z=>z) λa o z e=>g.kp a o e (w.imm e (z.elim (λz=>z.elim) λz=>z))⟩,x.new,g.nFF h1 x.nF,g.nSS h1 x.nS,by rw[g.kl];exact x.nL,g.nZZ h1 x.nZ⟩
theorem OO {K:PySem.W.Frag} {mb m1:List Md} {eli:El} {g:hW} {tt:eS} {tk tv:aR} {acc:Addr} {J:It} {items:List PV} {W0 W1:Wd} {H0 H1:Hp} {Q:PV->Prop} {D:Ends} (hle:iN m1 mb=true) (hbl:jT m1=true) (sr:Src J eli H0 W1 H1 items)
  {σ:St} {env:b5} {ks:List cI} {xs:List PV} (q:uM g tt tk tv Q items ks xs env) {W2:Wd} {H2:Hp} (R:Rl K mb W0 H0 W2 σ env H2) (x12:Ex W1 H1 W2 H2) (x:DicIn acc H0 W2 H2 ks xs)
  (k:∀(env':b5) (W':Wd) (σ':St) (H':Hp) (ks':List cI) (xs':List PV),Rl K mb W0 H0 W' σ' env' H'->Ga acc W2 H2 W' H'->DicIn acc H0 W' H' ks' xs'->Q (.dic ks' xs')->D.nx σ' H') :
  n0 J (sD K mb m1 eli g) (ID (pN K m1 tt) (N9 (eK K m1 .bw tk) (eK K m1 (.v .fl) tv) acc)) D σ H2:=by
 refine ⟨λi m σb Hb=>m=items.length-i/\i<=items.length/\∃(envb:b5) (Wb:Wd) (kb:List cI) (xb:List PV),Rl K mb W0 H0 Wb σb envb Hb/\Ga acc W2 H2 Wb Hb/\DicIn acc H0 Wb Hb kb xb/\uM g tt tk tv Q (items.drop i) kb xb envb,
  ⟨items.length,by simp,Nat.zero_le _,env,W2,ks,xs,R,.refl,x,by simpa using q⟩,?_⟩
 rintro i m σb Hb ⟨rfl,hi,envb,Wb,kb,xb,Rb,gab,ib,qb⟩
 have exb:Ex W1 H1 Wb Hb:=x12.trans gab.ex
 by_cases hlt:i<items.length
 ·rw [List.drop_eq_getElem_cons hlt] at qb
  refine .inr ⟨sr.go i Wb Hb exb hlt,λσ' H'=>i+1<=items.length/\∃(envb:b5) (Wb:Wd) (kb:List cI) (xb:List PV),Rl K mb W0 H0 Wb σ' envb H'/\Ga acc W2 H2 Wb H'/\DicIn acc H0 Wb H' kb xb/\uM g tt tk tv Q (items.drop (i+1)) kb xb envb,λσ' H' z=>⟨items.length-(i+1),by omega,rfl,z.1,z.2⟩,λv H3 y=>?_⟩
  obtain⟨g3,xx,ex,rx⟩:=sr.yld i Wb Hb v H3 exb Rb.ok hlt y
  rw[a0a hlt] at ex
  cases ex
  refine⟨envb,W0,H0,Wb,_,_,Rb.step g3,rx,qb,λenv' σ' R' z=>?_⟩
  refine⟨env',W0,H0,Wb,_,R',z,λkk W4 H4 g4 q4=>?_⟩
  have x4:=(ib.go Rb.ok g3).go g3.ok g4
  have ga4:Ga acc W2 H2 W4 H4:=(gab.trans (g3.toGa Rb.ok)).trans (g4.toGa g3.ok)
  cases kk with
  | false=>
   dsimp only
   rw[if_neg Bool.false_ne_true]
   exact⟨hlt,env',W4,kb,xb,(R'.step g4).less hle,ga4,x4,q4⟩
  | true=>
   dsimp only
   rw[if_pos rfl]
   have R4:=R'.step g4
   refine⟨env',W0,H0,W4,_,R4,q4,λkp u W5 H5 g5 r5 q5=>⟨env',W0,H0,W5,_,R4.step g5,q5,λyp u2 W6 H6 g6 r6 q6=>?_⟩⟩
   cases hk:VU kp with
   |none=>rw[hk] at q6;exact q6.elim
   | some kk=>
    rw[hk] at q6
    obtain⟨hlen,q6⟩:=q6
    have hu:u=kV kk:=T1 (S:=λ_=>True) hk r5
    subst hu
    have x6:=(x4.go R4.ok g5).go g5.ok g6
    obtain⟨vs,h1,h2,h3⟩:=x6.ex
    refine⟨kk,_,rfl,h1,by rw[List.length_zip,<- h2,Nat.min_self];exact Nat.lt_trans hlen (by decide),hlt,env',W6,OU kb kk,IV kb xb kk yp,?_⟩
    rw[RF h2]
    have R6:=(R4.step g5).step g6
    have keep:∀a o,(False\/o.imm=true)->H6 a=some o->(b7 H6 acc (.dK ((OU kb kk).zip (IV kb vs kk u2)))) a=some o:=λa o z e=>by
     rw[aD (λz2=>by subst z2;rw[h1] at e;cases e;exact z.elim (λz=>z) λz=>by cases z)];exact e
    refine⟨(R6.tmp hbl x6.new x6.nF x6.nS x6.nL x6.nZ h1 rfl (λ_ _ z=>by cases z)).less hle,?_,⟨⟨_,aU,OV h2 kk u2,?_⟩,x6.new,x6.nF,x6.nS,x6.nL,x6.nZ⟩,q6⟩
    ·refine (ga4.trans ((g5.trans g6).toGa R4.ok)).trans ⟨λV G hG g=>g.tmp hG x6.nF x6.nS x6.nZ,⟨λ_ h=>h,λb o f e=>by rw[aD (λz=>by subst z;exact x6.nF f)];exact e,λb o im e=>keep b o (.inr im) e⟩⟩
    ·exact (h3.dput kk r6).mono (λ_ z=>z) λa o z e=>keep a o z e
 ·have e:i=items.length:=by omega
  subst e
  rw[List.drop_length] at qb
  exact .inl ⟨sr.stop Wb Hb exb,k envb Wb σb Hb kb xb Rb gab ib qb⟩
theorem ON {K:PySem.W.Frag} {md mb:List Md} {eli:El} {s:lM} {g:hW} {tt:eS} {tk tv:aR} {n:Nat} {cap:List Nat} {σ:St} {H:Hp} {Q:VK} {cp:b5->b5} (hcp:∀env,cp env=oW n cap env) (hle:iN mb (fE n cap md)=true) (hbl:jT mb=true)
  (h:eK K md (.o .fl) (Z4 s g tt tk tv cp) σ H Q):a3S (vN K md eli s) (sD K (fE n cap md) mb eli g) (pN K mb tt) (eK K mb .bw tk) (eK K mb (.v .fl) tv) n cap σ H Q:=by
 obtain⟨env,W0,H0,W,Q',R,q,k⟩:=h
 refine⟨env,W0,H0,W,_,R,q,λitems W1 H1 J g1 sr q1=>?_⟩
 intro acc hacc
 rw[hcp] at q1
 have h0acc:H0 acc=none:=R.go.free (g1.free hacc)
 have R1:=R.step g1
 have Rb:=DN (n:=n) (cap:=cap) R1 (λa=>∃o,H1 a=some o) (λa o e=>⟨o,e⟩)
 generalize hW1b:({W1 with L:=λa=>∃o,H1 a=some o}:Wd)=W1b at Rb
 generalize hW0b:({W0 with L:=λa=>∃o,H1 a=some o}:Wd)=W0b at Rb
 have f1:W1b.F=W1.F:=by rw[<- hW1b]
 have s1:W1b.S=W1.S:=by rw[<- hW1b]
 have l1:¬W1b.L acc:=by rw[<- hW1b];rintro⟨o,e⟩;rw[hacc] at e;cases e
 have okb:Wok W1b H1:=Rb.ok
 have nF1:¬W1b.F acc:=λz=>okb.offF hacc z
 have nS1:¬W1b.S acc:=λz=>okb.offS hacc z
 have nZ1:¬W1b.Z acc:=λz=>okb.offZ hacc z
 have z1:W1b.Z=W1.Z:=by rw[<- hW1b]
 have gl:Go W1b H1 W1b (b7 H1 acc (.dK [])):=Go.laid okb hacc
 have exW:Ex W1 H1 W1b (b7 H1 acc (.dK [])):=by
  have x:=gl.ex okb
  exact⟨λa h=>by rw[f1];exact h,λa o h e=>x.kp a o (by rw[f1];exact h) e,x.im⟩
 refine OO hle hbl sr q1 (Rb.step gl) exW ⟨⟨[],aU,rfl,.nil⟩,h0acc,nF1,nS1,l1,nZ1⟩ λenvb Wb σb Hb kb xb Rr ga x qb=>?_
 have gb:Go W1b H1 Wb Hb:=ga.ga W1b H1 hacc gl
 have gf:Go W H {Wb with L:=W.L} Hb:=by
  have a:=g1
  refine⟨λb h=>gb.lF b (by rw[f1];exact a.lF b h),λb h=>gb.lS b (by rw[s1];exact a.lS b h),λb h=>?_,λb h=>?_,λb o e s=>?_,⟨gb.ok.fF,gb.ok.sS,gb.ok.dj,gb.ok.zZ,gb.ok.zF,gb.ok.zS⟩,?_,rfl,λb h=>gb.lZ b (by rw[z1];exact a.lZ b h),λb h=>?_⟩
  ·rcases gb.nF b h with z|z
   ·exact a.nF b (by rw[<- f1];exact z)
   ·exact .inr (a.free z)
  ·rcases gb.nS b h with z|z
   ·exact a.nS b (by rw[<- s1];exact z)
   ·exact .inr (a.free z)
  ·refine gb.kp b o (a.kp b o e s) ?_
   rw[s1];exact a.nSS e s
  ·show Wb.K=W.K
   rw[gb.kk,<- hW1b];exact a.kk
  ·rcases gb.nZ b h with z|z
   ·exact a.nZ b (by rw[<- z1];exact z)
   ·exact .inr (a.free z)
 obtain⟨vs,h1,h2,h3⟩:=x.ex
 refine k _ (.ref acc) {Wb with L:=W.L} Hb gf ⟨acc,.dK (kb.zip vs),rfl,?_⟩ qb
 exact⟨g1.free hacc,x.nF,x.nS,h1,.dic h2 (h3.weak λ_ z=>z.elim),x.nZ⟩
section
variable{X:Cx}{kx vx target iter:Expr}{ifs:List Expr}{scope:Scope}{pos pos2 pos':Pos}{N':List Str}{n i:Nat}{x:Str}{cap:List Nat}{md mb lm:List Md}{rm:Md}{eli:El}{s:lM}{g:hW}{tt:eS}{tk tv:aR}
theorem NP {cp:b5->b5} (hN:X.N.Nodup) (hix:X.N[i]? =some x) (hx:FV X.env.scope x) (hsw:swapsWith (.DictComp kx vx [⟨target,iter,ifs,0⟩] scope pos) (some (.Name x pos')) pos2.line X.env=pure true) (hf:X.fn x=true\/X.env.scope.names.lookup x=some .local)
  (hm:fG (md.set i (.o .fl))=true) (hl:i<md.length)
  (hcp:∀env,cp env=oW n cap env) (hc:X.calm=true) (S:LcOk X.N X.env.scope scope N' n cap) (hle:iN mb (fE n cap md)=true) (hbl:jT mb=true) (hi:VI X md eli target iter s) (hg:∀C s H fp,VG (aS X N' scope C s H fp) (fE n cap md) mb eli target g)
  (ht:∀C s H fp,VTs (aS X N' scope C s H fp) mb ifs tt) (hk:∀C s H fp,VE (aS X N' scope C s H fp) mb kx .bw tk) (hv:∀C s H fp,VE (aS X N' scope C s H fp) mb vx (.v .fl) tv) (hs:∀x,foldedSetIterable iter X.env x=pure x:=by intro _;rfl) :
  VS X md (md.set i (.o .fl)) lm rm (.Assign [.Name x pos'] (.DictComp kx vx [⟨target,iter,ifs,0⟩] scope pos) pos2) (bN i (Z4 s g tt tk tv cp)):=
 ⟨(M8 (qV hN hix hx hf) hsw hc S hi.h (λC s H fp=>(hg C s H fp).h) (λC s H fp=>(ht C s H fp).h) (λC s H fp=>(hk C s H fp).h) (λC s H fp=>(hv C s H fp).h) hs).imp λD σ H=>by
 rintro⟨env,W0,H0,W,E,R,q,l⟩
 refine ON hcp hle hbl ⟨env,W0,H0,W,_,R,q,λx v W1 H1 g1 r1 q1=>?_⟩
 rw[dD] at q1
 exact l.nx _ W1 _ H1 (R.set g1 r1 hm hl) (g1.ex R.ok) q1⟩
end
section
variable{prog:Program}{w:World}{A:Around}{E:Value->Ab->Prop}{s:Ab}
abbrev aX(w:World):Obj:={cls:=.type "set",dict:=none,data:=.set #[] 0 (.fresh 0 0 (!w.params.followText "set-order"))}
theorem EI{h:Heap}{a:Addr}(e:h.get? a=some (aX w)):bC prog w a (λ_=>false) 0 h:=by
 refine⟨_,#[],0,_,e,⟨rfl,rfl,rfl⟩,rfl,λe he=>by simp at he,λk=>by simp,by decide,by rfl,rfl,?_,by simp⟩
 cases w.params.followText "set-order" with
 |true=>exact .inl rfl
 |false=>exact .inr ⟨rfl,λ_=>List.Pairwise.nil⟩
theorem rO (a:Value) {Q₁:Value->Shared->Prop}
  (h:Q₁ (.ref s.heap.objs.size) {s with heap:=s.heap.push (aX w)}) :
  codeAny (model prog w) A (.call (.builtin "set.__new__") ⟨[.type "set",a],[]⟩) (wants Q₁ E) s:=by
 refine codeAny_of_tree ?_
 show wpAny _ A.in1 (do checkBuiltinCall "set.__new__" ⟨[.type "set",a],[]⟩;again (.builtin "set.__new__" ⟨[.type "set",a],[]⟩)) _ _ s
 refine a0b (wpAny_of_eq (F.newCall_set_1 a) (a0d ⟨plainId_quiet F.plain_set_new _,codeAny_builtin F.entry_set_new ?_⟩))
 rw[Around.under_plainId F.plain_set_new _]
 unfold Builtin.«set.__new__» Builtin.Frozenset.newClass
 have hsub:=sub_set_self
 obtain⟨hp,g,d,tk,os⟩:=s
 dsimp only
 wp_walk
 refine wpAny_askSetting (a0d ?_)
 dsimp only
 simp only[newObj]
 refine a0b (wpAny_alloc (a0d ?_))
 exact a0d h
section
variable{R:Result->Ab->Prop}{I:Ac}{fp wr:List Ac}{G:Array GenState->Array GenState->Prop}{n:Nat}{P:Nat->Value->Prop}{St:Nat->Ab->Prop}
theorem bC.congr{a:Addr}{S S':Int->Bool}{n n':Nat}{h:Heap}(x:bC prog w a S n h)(e:∀k,S k=S' k)(en:n=n'):bC prog w a S' n' h:=by
 have:S=S':=funext e
 subst this;subst en;exact x
theorem yY (W:WalksS prog w A.in1 I fp wr G n P St) (S:Addr) (hSf:S∉fp)
  (val:Nat->Int) (hval:∀i v,P i v->∃t,v= .int (val i) t) (hb:n+1<scanBound) :
  ∀ (k i:Nat) (s:Shared),n-i=k->i<=n->St i s->
   bC prog w S (λk'=>(firstMet val i).any (·==k')) (firstMet val i).length s.heap->
   (∀s',Moved (S::wr) G s s'->bC prog w S (λk'=>(firstMet val n).any (·==k')) (firstMet val n).length s'.heap->R (.ok (.ret .none)) s')->
   codeAny (model prog w) A (.builtin "set.update.loop" ⟨[.ref S,.ref I],[]⟩) R s:=by
 have hSw:S∉wr:=λh=>hSf (W.sub _ h)
 have hsub:∀b∈wr,b∈S::wr:=λb hb=>List.mem_cons_of_mem _ hb
 intro k
 induction k with
 | zero=>
  intro i s hk hi hst hS hR
  have hin:i=n:=by omega
  subst hin
  refine codeAny_builtin F.entry_set_update_loop ?_
  rw[Around.under_plainId F.plain_set_update_loop _]
  show wpAny _ A.in1 (pyNext (.ref I) >>=_) _ _ s
  refine a0b (W.done s _ _ hst λs' hm=>?_)
  show wpAny _ A.in1 (ret Value.none) _ _ s'
  exact a0d (hR s' (hm.mono hsub) (hS.mono λo e=>hm.heap S _ hSw e))
 | succ k ih=>
  intro i s hk hi hst hS hR
  have hlt:i<n:=by omega
  refine codeAny_builtin F.entry_set_update_loop ?_
  rw[Around.under_plainId F.plain_set_update_loop _]
  show wpAny _ A.in1 (pyNext (.ref I) >>=_) _ _ s
  refine a0b (W.item i s _ _ hlt hst λv s' hP hst' hm=>?_)
  obtain⟨t,rfl⟩:=hval i v hP
  have hS':bC prog w S (λk'=>(firstMet val i).any (·==k')) (firstMet val i).length s'.heap:=hS.mono λo e=>hm.heap S _ hSw e
  show wpAny _ A.in1 (holding [Value.int (val i) t] (setAdd S (.int (val i) t)) >>=_) _ _ s'
  refine a0b (wpAny_holding ?_)
  unfold setAdd
  refine wpAny_holding ?_
  refine a0b ((intKind prog w).pyHash (k:=val i) (intKind_is _ _ _ _) ?_)
  have hroom:(firstMet val i).length+1<scanBound:=by have:=firstMet_length_le val i;omega
  refine kF (s:={s' with toks:=s'.toks+1}) (intKind_is _ _ _ _) rfl hS' hroom λh' hsb hS2=>?_
  have hSi:bC prog w S (λk'=>(firstMet val (i+1)).any (·==k')) (firstMet val (i+1)).length h':=
   hS2.congr (λk'=>by rw[firstMet_succ,step_any]) (by rw[firstMet_succ,step_length])
  refine a0d ⟨plainId_quiet F.plain_set_update_loop _,ih (i+1) _ (by omega) hlt (W.frame _ s' _ _ hst' (Nat.le_succ _) λb hb o e=>?_) hSi λs'' hm'' hS''=>?_⟩
  ·rw[hsb.2 b (λh:b=S=>hSf (by rw[<- h];exact hb))];exact e
  ·refine hR s'' (Moved.trans W.gtrans ((hm.mono hsub).then_heap (Nat.le_succ _) λb o hb e=>?_) hm'') hS''
   rw[hsb.2 b (λh:b=S=>hb (by rw[h];exact List.mem_cons_self))];exact e
end
end
end L2
namespace PySem
section
variable{prog:Program}{w:World}{A:Around}{E:Value->Ab->Prop}{s:Ab}
set_option maxHeartbeats 3200000 in
theorem call_set_list_x {l:Addr} {items:Array Value} {ns:List Int} {Q:Value->Shared->Prop}
  (hh:A.handled=none) (hl:s.heap.IsList l items) (hi:PyProof.Rows.IntsAre items.toList ns) (hb:items.size+1<scanBound)
  (h:∀(h':Heap) (tk:Nat),L2.bC prog w s.heap.objs.size (λk'=>(PyProof.Rows.firstMet (λi=>ns.getD i 0) items.size).any (·==k')) (PyProof.Rows.firstMet (λi=>ns.getD i 0) items.size).length h'->
   (∀b o,b<s.heap.objs.size->s.heap.get? b=some o->h'.get? b=some o)->Q (.ref s.heap.objs.size) {s with heap:=h',toks:=tk}) :
  wpAny (model prog w) A (call (.type "set") [.ref l]) Q E s:=by
 obtain⟨c,tl,hmro⟩:=F.called_set.mro
 have hmade:=F.called_set.made
 have hsub:=F.called_set.sub
 refine wpAny_call (codeAny_of_tree ?_)
 show wpAny _ _ (callAny (.type "set") _) _ _ _
 refine a0d ⟨Code.quiet_builtin _ (by decide+kernel),codeAny_builtin F.entry_type_call ?_⟩
 rw[Around.under_plain (weight_type_call_type "set" [.ref l] []) rfl]
 have h1:=F.called_set.notType
 have h2:=F.called_set.canCreate
 have hct:=F.typeCall_set_1 (.ref l)
 repeat (any_goals (first|assumption|wp_step))
 refine codeAny_mono (L2.rO (w:=w) (.ref l) (E:=E) (Q₁:=λobj s₁=>obj= .ref s.heap.objs.size/\s₁={s with heap:=s.heap.push (L2.aX w)}) ⟨rfl,rfl⟩) λr s₁ hr=>?_
 cases r with
 |error e=>exact hr
 | ok fl=>
  cases fl with
  | ret obj=>
   obtain⟨rfl,rfl⟩:=hr
   have hS:(s.heap.push (L2.aX w)).get? s.heap.objs.size=some (L2.aX w):=Heap.get?_push_size _ rfl
   have hT:Shared.TypeIs {s with heap:=s.heap.push (L2.aX w)} (.ref s.heap.objs.size) "set":=⟨_,hS,rfl⟩
   have hli:=F.called_set.init.lookup
   have hbi:=F.called_set.init.bind (.ref s.heap.objs.size)
   repeat (any_goals (first|assumption|wp_step))
   refine codeAny_mono (codeAny_call_builtin (R:=wants (λr s₂=>r= .none/\∃h' tk,s₂={s with heap:=h',toks:=tk}/\
     L2.bC prog w s.heap.objs.size (λk'=>(PyProof.Rows.firstMet (λi=>ns.getD i 0) items.size).any (·==k')) (PyProof.Rows.firstMet (λi=>ns.getD i 0) items.size).length h'/\
     (∀b o,b<s.heap.objs.size->s.heap.get? b=some o->h'.get? b=some o)) E) F.called_set.init.plain F.entry_set_init (check_set_init_1 hT ?_)) λr₂ s₂ hr₂=>?_
   ·obtain ⟨ol,hol,hcl,nl,hdl⟩:=hl
    obtain⟨ocls,odict,odata,oslots⟩:=ol
    simp only at hcl hdl
    subst hcl;subst hdl
    have hol':(s.heap.push (L2.aX w)).get? l=some {cls:=.type "list",dict:=odict,data:=.seq items nl,slots:=oslots}:=a0e _ hol
    have hsls:=F.sub_list_set
    have hslf:=F.sub_list_frozenset
    have hne:(Value.type "list"==Value.type "dict")=false:=by decide
    have hl1:(s.heap.push (L2.aX w)).IsList l items:=⟨_,hol',rfl,nl,rfl⟩
    unfold Builtin.«set.__init__» noKeywords Builtin.Frozenset.updateFrom
    generalize hPI:pyIter=PI
    wp_walk
    subst hPI
    refine wpAny_pyIter_list hl1 ?_
    refine a0b (wpAny_runValue ?_)
    have hlS:l<s.heap.objs.size:=Heap.lt_size hol
    have hh3:A.in1.in1.in1.handled=none:=by simp[hh]
    have hneI:l≠(s.heap.push (L2.aX w)).objs.size:=by
     rw[Heap.size_push];exact Nat.ne_of_lt (Nat.lt_succ_of_lt hlS)
    have hSf:s.heap.objs.size∉[(s.heap.push (L2.aX w)).objs.size,l]:=by
     rw[Heap.size_push];simp only[List.mem_cons,List.mem_singleton,List.not_mem_nil,or_false,not_or]
     exact⟨Nat.ne_of_lt (Nat.lt_succ_self _),Nat.ne_of_gt hlS⟩
    have hval:∀(i:Nat) (v:Value),items[i]? =some v->∃t,v= .int ((λi=>ns.getD i 0) i) t:=λi v hv=>
     PyProof.Rows.IntsAre.int_at hi i v (by rw[Array.getElem?_toList];exact hv)
    refine L2.yY ((Walks.list hh3 _ l hneI items).toS) s.heap.objs.size
     hSf (λi=>ns.getD i 0) hval hb (items.size-0) 0 _ (by omega) (Nat.zero_le _)
     ⟨⟨_,Heap.get?_push_size _ rfl,rfl,rfl⟩,(hl1.push _)⟩ ?hS0 ?hR
    case hS0=>
     have hget:((s.heap.push (L2.aX w)).push {cls:=.type "list_iterator",data:=.fields #[.ref l,.int 0 0]}).get? s.heap.objs.size
       =some (L2.aX w):=a0e _ hS
     exact (L2.EI hget).congr (λ_=>rfl) rfl
    case hR=>
     intro s' hm hS'
     obtain⟨h',g',d',tk',os'⟩:=s'
     have eg:g'=s.gens:=hm.gens
     have ed:d'=s.drawn:=hm.drawn
     have eo:os'=s.os:=hm.os
     subst eg;subst ed;subst eo
     show wpAny _ _ _ _ _ _
     refine a0d ?_
     show wpAny _ _ (ret Value.none) _ _ _
     refine a0d ⟨rfl,h',tk',rfl,hS',λb o hb e=>?_⟩
     have hb1:b≠s.heap.objs.size:=Nat.ne_of_lt hb
     have hb2:b≠(s.heap.push (L2.aX w)).objs.size:=by
      rw[Heap.size_push];exact Nat.ne_of_lt (Nat.lt_succ_of_lt hb)
     exact hm.heap b o (by simp only[List.mem_cons,List.mem_singleton,List.not_mem_nil,or_false,not_or];exact⟨hb1,hb2⟩) (a0e _ (a0e _ e))
   ·cases r₂ with
    |error e=>exact hr₂
    | ok fl₂=>
     cases fl₂ with
     | ret r=>
      obtain⟨rfl,h',tk,rfl,hS',hk'⟩:=hr₂
      repeat (any_goals (first|assumption|wp_step))
      exact h _ _ hS' hk'
     |_=>exact hr₂.elim
  |_=>exact hr.elim
end
end PySem
namespace L2
open PySem PySem.Spec PyProof.Rows
theorem A4{α β:Type}{f f':α->Option β}:∀ {l:List α},(∀a∈l,f' a=f a)->l.filterMap f'=l.filterMap f
 |[],_=>rfl
 |a::l,h=>by rw[List.filterMap_cons,List.filterMap_cons,h a List.mem_cons_self,A4 λb hb=>h b (List.mem_cons_of_mem _ hb)]
theorem EG {α β:Type} {a:α} {x:β} {f f':α->Option β} (h1:f a=none) (h2:f' a=some x):∀ {l:List α},l.Nodup->a∈l->(∀b∈l,b≠a->f' b=f b)->(l.filterMap f').Perm (x::l.filterMap f)
 |[],_,h,_=>by cases h
 | b::l,nd,h,h3=>by
  have nd':=List.nodup_cons.mp nd
  by_cases e:b=a
  ·subst e
   have same:l.filterMap f'=l.filterMap f:=A4 λc hc=>h3 c (List.mem_cons_of_mem _ hc) λz=>nd'.1 (z▸hc)
   rw[List.filterMap_cons,List.filterMap_cons,h1,h2,same]
  ·have hm:a∈l:=(List.mem_cons.mp h).resolve_left λz=>e z.symm
   have ih:=EG h1 h2 nd'.2 hm λc hc=>h3 c (List.mem_cons_of_mem _ hc)
   rw[List.filterMap_cons,List.filterMap_cons,h3 b List.mem_cons_self e]
   cases f b with
   |none=>exact ih
   |some y=>exact (ih.cons y).trans (List.Perm.swap x y _)
theorem KF {α β:Type} {f:α->Option β}:∀ {l:List α},(∀a∈l,(f a).isSome=true)->(l.filterMap f).length=l.length
 |[],_=>rfl
 | a::l,h=>by
  have:=h a List.mem_cons_self
  rw[List.filterMap_cons]
  cases e:f a with
  |none=>rw[e] at this;cases this
  |some y=>simp[KF λb hb=>h b (List.mem_cons_of_mem _ hb)]
def lv(M:Nat)(owner:Array (Option Nat)):List (Nat×Nat):=(List.range M).filterMap λj=>(owner.getD j none).map (j,·)
theorem WF {M j k:Nat} {owner:Array (Option Nat)} (hs:owner.size=M) (hj:j<M) (hn:owner.getD j none=none):((lv M (owner.setIfInBounds j (some k))).map (·.2)).Perm (k::(lv M owner).map (·.2)):=by
 have get:∀b,(owner.setIfInBounds j (some k)).getD b none=if b=j then some k else owner.getD b none:=λb=>by
  rw[Array.getD_eq_getD_getElem?,Array.getD_eq_getD_getElem?,Array.getElem?_setIfInBounds]
  by_cases e:b=j
  ·subst e;simp[hs,hj]
  ·have e':¬j=b:=λz=>e z.symm
   simp[e,e']
 have:=EG (a:=j) (x:=(j,k)) (f:=λi=>(owner.getD i none).map (i,·)) (f':=λi=>((owner.setIfInBounds j (some k)).getD i none).map (i,·)) (by rw[hn];rfl) (by rw[get,if_pos rfl];rfl) (l:=List.range M) List.nodup_range (List.mem_range.mpr hj) λb _ hb=>by rw[get,if_neg hb]
 exact this.map (·.2)
theorem QO {M:Nat} {owner:Array (Option Nat)} (h:(lv M owner).length<M):∃j,j<M/\owner.getD j none=none:=by
 refine Classical.byContradiction λhc=>?_
 have:(lv M owner).length=(List.range M).length:=KF λj hj=>by
  cases e:owner.getD j none with
  |none=>exact absurd ⟨j,List.mem_range.mp hj,e⟩ hc
  |some y=>rfl
 rw[List.length_range] at this
 omega
def lp(mask:Nat):Nat->Nat->Nat->Nat×Nat
 |0,i,p=>(i,p)
 |t+1,i,p=>lp mask t (SetTable.leap mask i p).1 (SetTable.leap mask i p).2
theorem LB(mask:Nat):∀(a b i p:Nat),lp mask (a+b) i p=lp mask b (lp mask a i p).1 (lp mask a i p).2
 |0,b,i,p=>by rw[Nat.zero_add];rfl
 |a+1,b,i,p=>by rw[Nat.succ_add];exact LB mask a b _ _
theorem a07 (mask:Nat):∀(t i p:Nat),(lp mask t i p).2=p / 32^t
 |0,i,p=>by simp[lp]
 | t+1,i,p=>by
  rw[lp,a07 mask t]
  show (p / 32) / 32^t=_
  rw[Nat.div_div_eq_div_mul,Nat.pow_succ,Nat.mul_comm]
theorem T4(mask:Nat):∀(t i p:Nat),i<mask+1->(lp mask t i p).1<mask+1
 |0,i,p,h=>h
 |t+1,i,p,h=>T4 mask t _ _ (Nat.mod_lt _ (Nat.succ_pos _))
def a2V(M:Nat):Nat->Nat->List Nat
 |0,_=>[]
 |n+1,i=>i::a2V M n ((i*5+1) % M)
def full(M:Nat):Bool:=(List.range M).all λi=>(λo:List Nat=>(List.range M).all λj=>o.contains j) (a2V M M i)
theorem LL {mask:Nat}:∀ {n i j:Nat},j∈a2V (mask+1) n i->∃u,u<n/\(lp mask u i 0).1=j
 |0,i,j,h=>by cases h
 | n+1,i,j,h=>by
  rcases List.mem_cons.mp h with z|z
  ·exact⟨0,Nat.succ_pos _,z.symm⟩
  ·obtain⟨u,hu,e⟩:=LL z
   exact⟨u+1,Nat.succ_lt_succ hu,e⟩
theorem KL {mask:Nat} (hf:full (mask+1)=true) (h:Int) {j0:Nat} (hj:j0<mask+1):∃t,t<SetTable.turns mask/\(lp mask t (SetTable.bits h % (mask+1)) (SetTable.bits h)).1=j0:=by
 have p0:(lp mask 13 (SetTable.bits h % (mask+1)) (SetTable.bits h)).2=0:=by
  rw[a07]
  refine Nat.div_eq_of_lt ?_
  unfold SetTable.bits
  have:(h % (2^64:Int)).toNat<2^64:=by
   have h1:h % (2^64:Int)<2^64:=Int.emod_lt_of_pos _ (by decide)
   have h0:0<=h % (2^64:Int):=Int.emod_nonneg _ (by decide)
   omega
  exact Nat.lt_of_lt_of_le this (by decide)
 have i0:=T4 mask 13 (SetTable.bits h % (mask+1)) (SetTable.bits h) (Nat.mod_lt _ (Nat.succ_pos _))
 unfold full at hf
 rw[List.all_eq_true] at hf
 have h1:=hf _ (List.mem_range.mpr i0)
 dsimp only at h1
 rw[List.all_eq_true] at h1
 have h2:=h1 j0 (List.mem_range.mpr hj)
 rw[List.contains_iff_mem] at h2
 obtain⟨u,hu,e⟩:=LL h2
 refine⟨13+u,by unfold SetTable.turns;omega,?_⟩
 rw[LB,p0];exact e
theorem A6 {mask:Nat} {owner:Array (Option Nat)} {j0:Nat} (h0:(owner.getD j0 (some 0)).isNone=true):∀(fuel i p:Nat),(∃t,t<fuel/\(lp mask t i p).1=j0)->∃j,SetTable.layClean.free mask owner fuel i p=some j
 |0,i,p,h=>by obtain⟨t,ht,_⟩:=h;omega
 | fuel+1,i,p,h=>by
  rw[SetTable.layClean.free]
  cases e:(List.range (SetTable.runEnd mask i+1-i)).find? λk=>(owner.getD (i+k) (some 0)).isNone with
  |some k=>exact⟨_,rfl⟩
  | none=>
   dsimp only
   obtain⟨t,ht,hl⟩:=h
   cases t with
   | zero=>
    exfalso
    have hi:i=j0:=hl
    subst hi
    have:=List.find?_eq_none.mp e 0 (List.mem_range.mpr (by unfold SetTable.runEnd;split<;>omega))
    rw[Nat.add_zero] at this
    exact this h0
   |succ t=>exact A6 h0 fuel _ _ ⟨t,by omega,hl⟩
theorem EH {mask:Nat} {owner:Array (Option Nat)} {j:Nat}:∀(fuel i p:Nat),SetTable.layClean.free mask owner fuel i p=some j->(owner.getD j (some 0)).isNone=true
 |0,i,p,h=>by rw[SetTable.layClean.free] at h;cases h
 | fuel+1,i,p,h=>by
  rw[SetTable.layClean.free] at h
  cases e:(List.range (SetTable.runEnd mask i+1-i)).find? λk=>(owner.getD (i+k) (some 0)).isNone with
  | some k=>
   rw[e] at h
   cases h
   have:=List.find?_some e
   exact this
  | none=>
   rw[e] at h
   exact EH fuel _ _ h
theorem QR {owner:Array (Option Nat)} {j:Nat} (h:(owner.getD j (some 0)).isNone=true):j<owner.size/\owner.getD j none=none:=by
 rw[Array.getD_eq_getD_getElem?] at h
 by_cases hj:j<owner.size
 ·rw[Array.getElem?_eq_getElem hj] at h
  refine⟨hj,?_⟩
  rw[Array.getD_eq_getD_getElem?,Array.getElem?_eq_getElem hj]
  simpa using h
 ·rw[Array.getElem?_eq_none (Nat.le_of_not_lt hj)] at h
  cases h
theorem AB {mask:Nat} (hf:full (mask+1)=true):∀(hs:List Int) (owner:Array (Option Nat)) (k:Nat),owner.size=mask+1->((lv (mask+1) owner).map (·.2)).Perm (List.range k)->k+hs.length<=mask+1->
  ∃ owner',(hs.foldl (λ(acc:Option (Array (Option Nat)×Nat)) h=>do
   let (owner,k) <- acc
   let j <- SetTable.layClean.free mask owner (SetTable.turns mask) (SetTable.bits h % (mask+1)) (SetTable.bits h)
   pure (owner.setIfInBounds j (some k),k+1)) (some (owner,k)))=some (owner',k+hs.length)/\owner'.size=mask+1/\((lv (mask+1) owner').map (·.2)).Perm (List.range (k+hs.length))
 |[],owner,k,h1,h2,_=>⟨owner,rfl,h1,h2⟩
 | h::hs,owner,k,h1,h2,h3=>by
  rw[List.length_cons] at h3
  have hl:(lv (mask+1) owner).length=k:=by have:=h2.length_eq;simpa using this
  obtain⟨j0,hj0,hn0⟩:=QO (M:=mask+1) (owner:=owner) (by omega)
  have h0:(owner.getD j0 (some 0)).isNone=true:=by
   rw[Array.getD_eq_getD_getElem?,Array.getElem?_eq_getElem (by omega)] at hn0 ⊢
   simpa using hn0
  obtain⟨j,hj⟩:=A6 h0 _ _ _ (KL hf h hj0)
  obtain⟨jlt,jn⟩:=QR (EH _ _ _ hj)
  have perm:((lv (mask+1) (owner.setIfInBounds j (some k))).map (·.2)).Perm (List.range (k+1)):=by
   refine (WF h1 (by omega) jn).trans ((h2.cons k).trans ?_)
   rw[List.range_succ]
   exact (List.perm_append_singleton k (List.range k)).symm
  obtain⟨o',e1,e2,e3⟩:=AB hf hs (owner.setIfInBounds j (some k)) (k+1) (by simp[h1]) perm (by omega)
  refine⟨o',?_,e2,?_⟩
  ·rw [List.foldl_cons]
   have e4:(do
    let (owner,k) <- (some (owner,k):Option (Array (Option Nat)×Nat))
    let j <- SetTable.layClean.free mask owner (SetTable.turns mask) (SetTable.bits h % (mask+1)) (SetTable.bits h)
    pure (owner.setIfInBounds j (some k),k+1))=some (owner.setIfInBounds j (some k),k+1):=by
    show (SetTable.layClean.free mask owner (SetTable.turns mask) (SetTable.bits h % (mask+1)) (SetTable.bits h)).bind (λj=>some (owner.setIfInBounds j (some k),k+1))=_
    rw[hj];rfl
   refine Eq.trans (congrArg (λz=>List.foldl _ z hs) e4) ?_
   rw[e1,List.length_cons];congr 2;omega
  ·rw[List.length_cons,show k+(hs.length+1)=k+1+hs.length by omega];exact e3
theorem EU{M m:Nat}:lv M (Array.replicate m none)=[]:=by
 unfold lv
 rw[List.filterMap_eq_nil_iff]
 intro j _
 rw[Array.getD_eq_getD_getElem?,Array.getElem?_replicate]
 split<;>rfl
theorem Q7 {mask finger moves:Nat} {led plain:Bool} {hs:Array Int} (hf:full (mask+1)=true) (hl:hs.size<=mask+1) :
  ∃t order,SetTable.laid mask finger moves led plain hs=some (t,order)/\order.toList.Perm (List.range hs.size)/\t.mask=mask/\t.place.size=hs.size/\t.dummies= #[]:=by
 obtain⟨o,e1,e2,e3⟩:=AB hf hs.toList (Array.replicate (mask+1) none) 0 (by simp) (by rw[EU];exact .refl _) (by simpa using hl)
 have e4:SetTable.layClean mask hs=some o:=by
  unfold SetTable.layClean
  rw[<- Array.foldl_toList]
  refine Eq.trans (congrArg (Option.map (·.1)) e1) rfl
 rw[Nat.zero_add,Array.length_toList] at e3
 have len:(lv (mask+1) o).length=hs.size:=by have:=e3.length_eq;simpa using this
 refine⟨_,_,by unfold SetTable.laid;rw[e4];rfl,?_,rfl,?_,rfl⟩
 ·show (((lv (mask+1) o).map (·.2)).toArray).toList.Perm _
  simpa using e3
 ·show (((lv (mask+1) o).map (·.1)).toArray).size=_
  simpa using len
theorem ZY:full 8=true:=by decide+kernel
theorem VD:full 16=true:=by decide+kernel
theorem VF:full 32=true:=by decide+kernel
theorem VH:full 64=true:=by decide+kernel
section
variable{prog:Program}{w:World}{A:Around}{E:Value->Ab->Prop}{s:Ab}
theorem LG{Q:Value->Shared->Prop}(h:Q (.ref s.heap.objs.size) {s with heap:=s.heap.push (aX w)}):wpAny (model prog w) A (newSet (.type "set")) Q E s:=by
 unfold newSet setsByText
 refine a0b (a0b (wpAny_askSetting (a0d ?_)))
 dsimp only
 simp only[newObj]
 exact a0b (wpAny_alloc (a0d h))
def O1(w:World)(h:Heap)(a:Ac)(mask:Nat):Prop:=∃o ep mv,h.get? a=some o/\o.ExactSet/\o.data= .set #[] ep ⟨mask,#[],#[],0,!w.params.followText "set-order",mv,true⟩
theorem L0 {mask finger moves:Nat} {led plain:Bool}:SetTable.laid mask finger moves led plain #[]=some (⟨mask,#[],#[],finger,led,moves,plain⟩,#[]):=by
 unfold SetTable.laid
 have e:SetTable.layClean mask #[]=some (Array.replicate (mask+1) none):=by
  unfold SetTable.layClean
  rw[<- Array.foldl_toList];rfl
 rw[e]
 show some (_,_)=_
 have e2:(List.range (mask+1)).filterMap (λj=>((Array.replicate (mask+1) (none:Option Nat)).getD j none).map (j,·))=[]:=EU
 rw[e2];rfl
theorem BA {a:Addr} {m0 wanted:Nat} {Q:Unit->Shared->Prop} (hE:O1 w s.heap a m0) (hw:SetTable.sizeAbove wanted<=64) (k:∀h',Heap.SameBut a s.heap h'->O1 w h' a (SetTable.sizeAbove wanted-1)->Q () {s with heap:=h'}) :
  wpAny (model prog w) A (setRelay a wanted) Q E s:=by
 obtain⟨o,ep,mv,ho,hex,hd⟩:=hE
 unfold setRelay
 refine a0b (wpAny_setState_of ho hd (by simp[SetTable.fits,SetTable.fill]) ?_)
 dsimp only
 rw[if_neg (by rw[sizeLine_eq];omega)]
 have e:SetTable.relaid ⟨m0,#[],#[],0,!w.params.followText "set-order",mv,true⟩ (Array.map (·.1) (#[]:Array (Int×Value))) wanted=some (⟨SetTable.sizeAbove wanted-1,#[],#[],0,!w.params.followText "set-order",SetTable.movedTo ⟨m0,#[],#[],0,!w.params.followText "set-order",mv,true⟩ (SetTable.sizeAbove wanted-1),true⟩,#[]):=by
  unfold SetTable.relaid
  rw[show Array.map (·.1) (#[]:Array (Int×Value))= #[] by simp]
  exact L0
 rw[e]
 show wpAny _ _ (pure (#[],_) >>=_) _ _ _
 refine a0b (a0d ?_)
 refine wpAny_storeSet_of ho hd (k _ (Heap.SameBut.update _ a _) ?_) (by simp)
 obtain⟨h1,_⟩:=SetOf_store (knd:=intKind prog w) (S':=λ_=>false) (es':=#[]) (t':=⟨SetTable.sizeAbove wanted-1,#[],#[],0,!w.params.followText "set-order",SetTable.movedTo ⟨m0,#[],#[],0,!w.params.followText "set-order",mv,true⟩ (SetTable.sizeAbove wanted-1),true⟩) ho hex hd (λe he=>by simp at he) (λk=>by simp) (by decide) (by simp[SetTable.fits,SetTable.fill])
 exact⟨_,_,_,h1,hex,rfl⟩
def bJ(m:Nat):Nat:=if m*5≥21 then SetTable.sizeAbove (m*2)-1 else 7
def EV(m:Nat):Bool:=[7,15,31,63].contains (bJ m)&&decide (m<=bJ m)&&decide (SetTable.sizeAbove (m*2)<=64)
theorem QP:(List.range 32).all EV=true:=by decide+kernel
theorem mG(m:Fin 32):(bJ m=7\/bJ m=15\/bJ m=31\/bJ m=63)/\(m:Nat)<=bJ m/\SetTable.sizeAbove (m*2)<=64:=by
 have h:=List.all_eq_true.mp QP m.1 (List.mem_range.mpr m.2)
 unfold EV at h
 rw[Bool.and_eq_true,Bool.and_eq_true,decide_eq_true_iff,decide_eq_true_iff,List.contains_iff_mem] at h
 refine⟨?_,h.1.2,h.2⟩
 simpa using h.1.1
theorem LC{m:Nat}(h:m<32):full (bJ m+1)=true:=by
 have h1:bJ m=7\/bJ m=15\/bJ m=31\/bJ m=63:=(mG ⟨m,h⟩).1
 generalize bJ m=M at h1
 rcases h1 with e|e|e|e
 ·subst e;exact ZY
 ·subst e;exact VD
 ·subst e;exact VF
 ·subst e;exact VH
theorem uQ {a:Addr} {m:Nat} {Q:Unit->Shared->Prop} (hE:s.heap.get? a=some (aX w)) (hm:m<32) (k:∀h',Heap.SameBut a s.heap h'->O1 w h' a (bJ m)->Q () {s with heap:=h'}) :
  wpAny (model prog w) A (setRoomFor a m) Q E s:=by
 have hE0:O1 w s.heap a 7:=⟨_,0,0,hE,⟨rfl,rfl,rfl⟩,rfl⟩
 unfold setRoomFor
 refine a0b (wpAny_setState_of (es:=#[]) (ep:=0) (t:=.fresh 0 0 (!w.params.followText "set-order")) hE rfl (by rfl) ?_)
 dsimp only
 have e:(SetTable.fresh 0 0 (!w.params.followText "set-order")).roomFor m=if m*5≥21 then some (m*2) else none:=by
  unfold SetTable.roomFor
  show (if (0+m)*5≥7*3 then some ((0+m)*2) else none)=_
  rw[Nat.zero_add]
 rw[e]
 by_cases h:m*5≥21
 ·rw[if_pos h]
  have em:bJ m=SetTable.sizeAbove (m*2)-1:=if_pos h
  refine BA hE0 (mG ⟨m,hm⟩).2.2 λh' sb hE'=>k h' sb ?_
  rw[em];exact hE'
 ·rw[if_neg h]
  have em:bJ m=7:=if_neg h
  have:=k s.heap (Heap.SameBut.refl a s.heap) (by rw[em];exact hE0)
  exact a0d this
theorem KG {α:Type} (xs:Array α):(List.range xs.size).filterMap (λi=>xs[i]?)=xs.toList:=by
 have:(List.range xs.size).filterMap (λi=>xs[i]?)=(List.range xs.toList.length).filterMap (λi=>xs.toList[i]?):=by simp
 rw[this]
 induction xs.toList with
 |nil=>rfl
 | cons a l ih=>
  rw[List.length_cons,List.range_succ_eq_map,List.filterMap_cons]
  simp only[List.getElem?_cons_zero,List.filterMap_map]
  congr 1
theorem QQ {a b:Addr} {S:Int->Bool} {n:Nat} {each:Sem Unit} {Q:Unit->Shared->Prop} (hE:s.heap.get? a=some (aX w)) (hne:a≠b) (hX:bC prog w b S n s.heap) (hn:n<32)
  (k:∀h',Heap.SameBut a s.heap h'->bC prog w a S n h'->Q () {s with heap:=h'}):wpAny (model prog w) A (setMerge a b each) Q E s:=by
 obtain⟨o,es,ep,t,ho,hex,hd,hel,hmem,hb,hf,hsz,hwk,hnd⟩:=hX
 unfold setMerge
 rw[if_neg (by simpa using hne)]
 refine a0b (wpAny_setState_of ho hd hf ?_)
 dsimp only
 by_cases he:es.isEmpty=true
 ·rw [if_pos he]
  have e0:es= #[]:=by simpa using he
  subst e0
  have:=k s.heap (Heap.SameBut.refl a s.heap) ((EI hE).congr (λj=>by
   cases hj:S j with
   |false=>rfl
   |true=>obtain⟨e,h,_⟩:=(hmem j).mp hj;simp at h) (by simpa using hsz))
  exact a0d this
 ·rw [if_neg he]
  refine a0b (uQ hE (by omega) λh1 sb1 hE1=>?_)
  obtain⟨o1,ep1,mv1,ho1,hex1,hd1⟩:=hE1
  refine a0b (wpAny_setState_of (s:={s with heap:=h1}) ho1 hd1 (by simp[SetTable.fits,SetTable.fill]) ?_)
  dsimp only
  have ok:=mG ⟨es.size,by omega⟩
  have hle:es.size<=bJ es.size:=ok.2.1
  have wkled:w.params.followText "set-order"=true\/t.led=true:=hwk.imp id λz=>z.1
  have fin:∀(es':Array (Int×Value)) (t':SetTable),es'.toList.Perm es.toList->t'.fits es'.size=true->IU (w.params.followText "set-order") t'->wpAny (model prog w) A (storeSet a es' t') Q E {s with heap:=h1}:=by
   intro es' t' hp hf' hw'
   have hel':ElemsOf (intKind prog w) es'.toList:=hel.perm hp
   have hmem':∀k,S k=true↔∃e∈es'.toList,(intKind prog w).is k e.2=true:=λk=>by
    rw[hmem k]
    constructor
    ·rintro⟨e,h,z⟩;exact⟨e,hp.mem_iff.mpr h,z⟩
    ·rintro⟨e,h,z⟩;exact⟨e,hp.mem_iff.mp h,z⟩
   have hz:es'.size=es.size:=by rw[<- Array.length_toList,hp.length_eq,Array.length_toList]
   have hb':es'.size<scanBound:=by rw[hz];exact hb
   refine wpAny_storeSet_of (s:={s with heap:=h1}) ho1 hd1 (k _ (sb1.trans (Heap.SameBut.update _ a _)) ?_) (fits_of_scanBound hb')
   obtain⟨h2,_⟩:=SetOf_store (knd:=intKind prog w) (S':=S) ho1 hex1 hd1 hel' hmem' hb' hf'
   exact⟨_,es',_,t',h2,hex1,rfl,hel',hmem',hb',hf',by rw[hz];exact hsz,hw',(hp.map _).nodup_iff.mpr hnd⟩
  have hfits:=hf
  simp only[SetTable.fits,Bool.and_eq_true,beq_iff_eq,decide_eq_true_eq] at hfits
  unfold SetTable.road
  rw[if_neg (by simp[SetTable.fill])]
  by_cases hr:((bJ es.size==t.mask)&&t.dummies.isEmpty)=true
  ·rw [if_pos hr]
   refine fin es _ (.refl _) ?_ ?_
   ·have:SetTable.fits {t with finger:=0,led:=(!w.params.followText "set-order")&&t.led,moves:=mv1,plain:=true&&t.plain} es.size=t.fits es.size:=rfl
    exact this.trans hf
   ·rcases hwk with z|z
    ·exact .inl z
    ·cases hbt:w.params.followText "set-order" with
     |true=>exact .inl rfl
     |false=>exact .inr ⟨by simp[z.1],λq=>z.2 (by simpa using q)⟩
  ·rw [if_neg hr]
   obtain⟨t',order,e1,e2,e3,e4,e5⟩:=Q7 (mask:=bJ es.size) (finger:=0) (moves:=mv1) (led:=(!w.params.followText "set-order")&&t.led) (plain:=true&&t.plain) (hs:=es.map (·.1)) (LC (by omega)) (by simp;omega)
   obtain⟨r1,r2,r3⟩:=AA e1
   rw[Array.size_map] at e2 e4
   have hperm:(order.filterMap (es[·]?)).toList.Perm es.toList:=by
    rw[Array.toList_filterMap]
    have:=e2.filterMap (λi=>es[i]?)
    rw[KG] at this
    exact this
   have hsz':(order.filterMap (es[·]?)).size=es.size:=by rw[<- Array.length_toList,hperm.length_eq,Array.length_toList]
   have e1':SetTable.laid (SetTable.mask ⟨bJ es.size,#[],#[],0,!w.params.followText "set-order",mv1,true⟩) 0 mv1 ((!w.params.followText "set-order")&&t.led) (true&&t.plain) (es.map (·.1))=some (t',order):=e1
   dsimp only
   rw[e1']
   show wpAny _ _ ((if ((order.filterMap (es[·]?)).size !=es.size)=true then (unsupported "internal:set-table-lost-an-element" >>=λ_=>pure (order.filterMap (es[·]?),t')) else pure (order.filterMap (es[·]?),t')) >>=_) _ _ _
   rw[hsz',if_neg (by simp)]
   refine a0b (a0d ?_)
   refine fin _ t' hperm ?_ ?_
   ·rw[hsz']
    simp only[SetTable.fits,Bool.and_eq_true,beq_iff_eq,decide_eq_true_eq]
    refine⟨e4,?_⟩
    unfold SetTable.fill
    rw[e4,e5,e3]
    simpa using hle
   ·rcases hwk with z|z
    ·exact .inl z
    ·cases hbt:w.params.followText "set-order" with
     |true=>exact .inl rfl
     |false=>exact .inr ⟨by rw[r1,hbt];simp[z.1],λ_=>r3⟩
end
theorem eJ{α:Type}(xs:Array α)(p:Nat):(SetTable.eraseAt xs p).toList=xs.toList.eraseIdx p:=by
 unfold SetTable.eraseAt
 rw[List.eraseIdx_eq_take_drop_succ,Array.toList_append]
 congr 1
 ·simp
 ·simp[List.take_of_length_le]
theorem jE{α:Type}{xs:Array α}{p:Nat}(h:p<xs.size):(SetTable.eraseAt xs p).size=xs.size-1:=by
 rw[<- Array.length_toList,eJ,List.length_eraseIdx,Array.length_toList,if_pos h]
theorem uF{α:Type}(xs:Array α)(p:Nat)(x:α):(SetTable.insertAt xs p x).size=xs.size+1:=by
 unfold SetTable.insertAt
 simp
 omega
theorem GN {t:SetTable} {i n:Nat} (hf:t.fits n=true) (hi:i<n):(t.drop i).fits (n-1)=true/\(t.drop i).led=t.led/\(t.drop i).plain=t.plain/\(wW t.place->wW (t.drop i).place):=by
 simp only[SetTable.fits,Bool.and_eq_true,beq_iff_eq,decide_eq_true_eq] at hf ⊢
 have hp:i<t.place.size:=by omega
 unfold SetTable.drop
 rw[Array.getElem?_eq_getElem hp]
 dsimp only
 refine⟨⟨by rw[jE hp];omega,?_⟩,rfl,rfl,λhr=>?_⟩
 ·have h2:=hf.2
  unfold SetTable.fill at h2 ⊢
  dsimp only
  rw[jE hp,uF]
  omega
 ·unfold wW at hr ⊢
  rw[eJ]
  exact hr.sublist (List.eraseIdx_sublist ..)
theorem J8{α:Type}{l:List α}{i:Nat}{e:α}(h:l[i]? =some e):l=l.take i++e::l.drop (i+1)/\l.eraseIdx i=l.take i++l.drop (i+1):=by
 obtain⟨hi,rfl⟩:=List.getElem?_eq_some_iff.mp h
 refine⟨?_,List.eraseIdx_eq_take_drop_succ ..⟩
 rw[<- List.drop_eq_getElem_cons hi,List.take_append_drop]
section
variable{prog:Program}{w:World}{A:Around}{E:Value->Ab->Prop}{s:Ab}
theorem VN{k k':Int}{v:Value}(h:(intKind prog w).is k v=true)(h':(intKind prog w).is k' v=true):k=k':=by
 obtain⟨t,rfl⟩:=cB h
 obtain⟨t',e⟩:=cB h'
 cases e;rfl
theorem GM {a:Addr} {S:Int->Bool} {n:Nat} {k:Int} {x:Value} {Q:Bool->Shared->Prop} (hkey:(intKind prog w).is k x=true) (hsc:x.scannable=true) (hS:bC prog w a S n s.heap)
  (h:∀h',Heap.SameBut a s.heap h'->bC prog w a (λk'=>S k'&& !decide (k'=k)) (if S k then n-1 else n) h'->Q (S k) {s with heap:=h'}) :
  wpAny (model prog w) A (setDiscardHashed a x ((intKind prog w).hash k)) Q E s:=by
 obtain⟨o,es,ep,t,ho,hex,hd,hel,hmem,hb,hf,hn,hwk,hnd⟩:=hS
 unfold setDiscardHashed setFind setFindIn
 refine a0b (a0b (wpAny_setState_of ho hd hf ?_))
 dsimp only
 rw[byScan_of hsc hb hel]
 simp only[↓reduceIte]
 refine a0b (wpAny_rule ?_)
 refine a0b (wpAny_setScan_of hkey ho hd hf hel ?_)
 cases hr:List.findIdx? (λe=>(intKind prog w).is k e.2) es.toList with
 | none=>
  dsimp only
  have hSk:S k=false:=by
   cases hk:S k with
   |false=>rfl
   |true=>obtain⟨e,he,hp⟩:=(hmem k).mp hk;have:=List.findIdx?_eq_none_iff.mp hr e he;rw[hp] at this;exact Bool.noConfusion this
  have:=h s.heap (Heap.SameBut.refl a s.heap) ⟨o,es,ep,t,ho,hex,hd,hel,λk'=>by
   rw[<- hmem k',Bool.and_eq_true]
   refine⟨λz=>z.1,λz=>⟨z,?_⟩⟩
   by_cases e:k'=k
   ·rw[e,hSk] at z;cases z
   ·simp[e],hb,hf,by rw[hSk];exact hn,hwk,hnd⟩
  rw[hSk] at this
  exact a0d (a0d this)
 | some j=>
  dsimp only
  obtain⟨hj,hpj,_⟩:=List.findIdx?_eq_some_iff_getElem.mp hr
  have hSk:S k=true:=(hmem k).mpr ⟨es.toList[j],List.getElem_mem hj,hpj⟩
  have hj':j<es.size:=by simpa using hj
  obtain⟨sp,er⟩:=J8 (a0a hj)
  rw[Nat.zero_add]
  refine a0d ?_
  refine a0b (wpAny_setState_of ho hd hf ?_)
  dsimp only
  obtain⟨f1,f2,f3,f4⟩:=GN hf hj'
  have hel':ElemsOf (intKind prog w) (SetTable.eraseAt es j).toList:=by
   rw[eJ,er]
   intro e he
   refine hel e ?_
   rw[sp]
   rcases List.mem_append.mp he with z|z
   ·exact List.mem_append_left _ z
   ·exact List.mem_append_right _ (List.mem_cons_of_mem _ z)
  have hmem':∀k',(S k'&& !decide (k'=k))=true↔∃e∈(SetTable.eraseAt es j).toList,(intKind prog w).is k' e.2=true:=by
   intro k'
   rw[Bool.and_eq_true,hmem k',eJ,er]
   constructor
   ·rintro ⟨⟨e,he,z⟩,hne⟩
    have hne:k'≠k:=by simpa using hne
    refine⟨e,?_,z⟩
    rw[sp] at he
    rcases List.mem_append.mp he with y|y
    ·exact List.mem_append_left _ y
    ·rcases List.mem_cons.mp y with y|y
     ·subst y;exact absurd (VN z hpj) hne
     ·exact List.mem_append_right _ y
   ·rintro ⟨e,he,z⟩
    have hin:e∈es.toList:=by
     rw[sp]
     rcases List.mem_append.mp he with y|y
     ·exact List.mem_append_left _ y
     ·exact List.mem_append_right _ (List.mem_cons_of_mem _ y)
    refine⟨⟨e,hin,z⟩,?_⟩
    have:k'≠k:=by
     rintro rfl
     obtain⟨t1,e1⟩:=cB z
     obtain⟨t2,e2⟩:=cB hpj
     rw[sp,List.map_append,List.map_cons] at hnd
     have nd:=List.nodup_append.mp hnd
     have i1:cA e.2=k':=by rw[e1];rfl
     have i2:cA (es.toList[j]).2=k':=by rw[e2];rfl
     rcases List.mem_append.mp he with y|y
     ·exact nd.2.2 _ (List.mem_map.mpr ⟨e,y,i1⟩) _ List.mem_cons_self i2.symm
     ·exact (List.nodup_cons.mp nd.2.1).1 (by rw[i2];exact List.mem_map.mpr ⟨e,y,i1⟩)
    simp[this]
  have hz:(SetTable.eraseAt es j).size=es.size-1:=jE hj'
  have hb':(SetTable.eraseAt es j).size<scanBound:=by rw[hz];omega
  have hff:(t.drop j).fits (SetTable.eraseAt es j).size=true:=by rw[hz];exact f1
  refine a0b (wpAny_storeSet_of ho hd ?_ (fits_of_scanBound hb'))
  obtain⟨h2,_⟩:=SetOf_store (knd:=intKind prog w) (S':=λk'=>S k'&& !decide (k'=k)) ho hex hd hel' hmem' hb' hff
  have:=h _ (Heap.SameBut.update _ a _) ⟨_,_,_,_,h2,hex,rfl,hel',hmem',hb',hff,by rw[hSk,hz,hn];rfl,hwk.imp id λz=>⟨f2.trans z.1,λq=>f4 (z.2 (f3▸q))⟩,by
   rw[eJ,er]
   refine hnd.sublist ?_
   conv=>rhs;rw[sp]
   exact (List.Sublist.append (List.Sublist.refl _) (List.sublist_cons_self _ _)).map _⟩
  rw[hSk] at this
  exact a0b (wpAny_point (a0d this))
theorem V8 {a:Addr} {S:Int->Bool} {n m:Nat} {k:Int} {x:Value} {Q:Unit->Shared->Prop} (hkey:(intKind prog w).is k x=true) (hsc:x.scannable=true) (hS:bC prog w a S n s.heap) (hn:n<=m) (hm:m+1<scanBound)
  (h:∀h' n',Heap.SameBut a s.heap h'->bC prog w a (λk'=>if k'=k then !S k else S k') n' h'->n'<=m+1->Q () {s with heap:=h'}) :
  wpAny (model prog w) A (holding [x] (do if !(<- setDiscardHashed a x ((intKind prog w).hash k)) then let _ <- setAddHashed a x ((intKind prog w).hash k))) Q E s:=by
 refine wpAny_holding (a0b (GM hkey hsc hS λh1 sb1 hS1=>?_))
 cases hSk:S k with
 | true=>
  rw[hSk] at hS1
  refine a0d (h h1 _ sb1 (hS1.congr (λk'=>?_) rfl) (by show n-1<=m+1;omega))
  by_cases e:k'=k
  ·subst e;simp[hSk]
  ·simp[e]
 | false=>
  rw[hSk] at hS1
  refine a0b (kF (s:={s with heap:=h1}) hkey hsc hS1 (by show n+1<scanBound;omega) λh2 sb2 hS2=>a0d (h h2 _ (sb1.trans sb2) (hS2.congr (λk'=>?_) rfl) ?_))
  ·by_cases e:k'=k
   ·subst e;simp[hSk]
   ·simp[e]
  ·rw[if_neg Bool.false_ne_true]
   split<;>omega
end
section
variable{prog:Program}{w:World}{A:Around}{E:Value->Ab->Prop}{s:Ab}
theorem Z2 {b:Addr} {es:Array (Int×Value)} {ep:Nat} {t:SetTable} {Q:Array (Int×Value)->Shared->Prop} (hS:SetAt s.heap b es ep t) (hd:w.params.followText "set-order"=true\/((!t.plain&&decide (es.size>1))=false/\(!t.led&&decide (es.size>1))=false))
  (h:∀ys:Array (Int×Value),ys.toList.Perm es.toList->Q ys s):wpAny (model prog w) A (setWalk b) Q E s:=by
 unfold setWalk
 refine a0b (hS.state ?_)
 dsimp only
 refine a0b (g9 ?_)
 cases hbt:w.params.followText "set-order" with
 | true=>
  rw[if_pos rfl]
  exact a0b (wpAny_askSetting (a0d (h _ (eM _ _))))
 | false=>
  obtain⟨h1,h2⟩:=hd.resolve_left (by rw[hbt];exact Bool.false_ne_true)
  rw[if_neg Bool.false_ne_true]
  rw[if_neg (by show ¬((!t.plain&&decide (es.size>1))=true);rw[h1];exact Bool.false_ne_true)]
  refine a0b ?_
  show wpAny _ _ (if (!t.led&&decide (es.size>1))=true then unsupported "set:maker-not-led" else pure ()) _ _ _
  rw[h2,if_neg Bool.false_ne_true]
  exact a0d (a0d (h es (.refl _)))
theorem rT {β:Type} (b:β) (g:(Int×Value)->β->Sem (ForInStep β)):∀(l:List (Int×Value)),(∀e∈l,g e b=pure (.yield b))->(forIn l b g:Sem β)=pure b
 |[],_=>by simp
 | e::l,h=>by
  rw[List.forIn_cons,h e List.mem_cons_self]
  simp only[pure_bind]
  exact rT b g l λx hx=>h x (List.mem_cons_of_mem _ hx)
theorem RN {a b:Addr} {es es':Array (Int×Value)} {ep ep':Nat} {t t':SetTable} {Q:Bool->Shared->Prop} (hS:SetAt s.heap b es ep t) (hS':SetAt s.heap a es' ep' t') (h1:ElemsOf (intKind prog w) es.toList) (h2:ElemsOf (intKind prog w) es'.toList)
  (h:Q true s):wpAny (model prog w) A (setsQuiet [b,a]) Q E s:=by
 have isInt:∀ {l:List (Int×Value)},ElemsOf (intKind prog w) l->∀e∈l,∃k t,e.2=Value.int k t:=λhl e he=>by
  obtain⟨⟨k,hk,_⟩,_⟩:=hl e he
  obtain⟨t,e2⟩:=cB hk
  exact⟨k,t,e2⟩
 unfold setsQuiet setEntries
 have inner:∀ {l:Array (Int×Value)},ElemsOf (intKind prog w) l.toList->(forIn l ((none:Option Bool),()) (λx __s=>match x with
   | (fst,x)=>match x with
    | Value.ref a=>do
     let __do_lift <- specialOf x (Str.ofString "__eq__")
     if (__do_lift !=some (Value.builtin "object.__eq__"))=true then pure (ForInStep.done (some false,())) else pure (ForInStep.yield (none,()))
    |x=>pure (ForInStep.yield (none,()))):Sem (Option Bool×Unit))=pure (none,()):=by
  intro l hl
  rw[<- Array.forIn_toList]
  refine rT _ _ _ λe he=>?_
  obtain⟨k,t,ev⟩:=isInt hl e he
  obtain⟨e1,e2⟩:=e
  dsimp only at ev
  subst ev
  rfl
 refine a0b ?_
 rw[List.forIn_cons]
 refine a0b (a0b (a0b (hS.state (a0d ?_))))
 refine a0b (wpAny_of_eq (inner h1) (a0d ?_))
 dsimp only
 rw[List.forIn_cons]
 refine a0b (a0b (a0b (hS'.state (a0d ?_))))
 refine a0b (wpAny_of_eq (inner h2) (a0d ?_))
 dsimp only
 rw[List.forIn_nil]
 exact a0d (a0d h)
theorem bC.at_{a:Addr}{S:Int->Bool}{n:Nat}{h:Heap}(x:bC prog w a S n h):∃es ep t,SetAt h a es ep t/\ElemsOf (intKind prog w) es.toList/\(∀k,S k=true↔∃e∈es.toList,(intKind prog w).is k e.2=true)/\es.size<scanBound/\es.size=n/\IU (w.params.followText "set-order") t/\(es.toList.map λe=>cA e.2).Nodup:=by
 obtain⟨o,es,ep,t,ho,hex,hd,hel,hmem,hb,hf,hn,hwk,hnd⟩:=x
 exact⟨es,ep,t,⟨⟨o,ho,hex,hd⟩,hf⟩,hel,hmem,hb,hn,hwk,hnd⟩
theorem NF {a b:Addr} {S S':Int->Bool} {n n':Nat} {es:Array (Int×Value)} {ep:Nat} {t:SetTable} {Q:Array (Int×Value)->Shared->Prop} (hab:a≠b) (hS:SetAt s.heap b es ep t) (hel:ElemsOf (intKind prog w) es.toList) (hwk:IU (w.params.followText "set-order") t) (hX:bC prog w a S' n' s.heap)
  (h:∀(ys:Array (Int×Value)) h',ys.toList.Perm es.toList->Heap.SameBut a s.heap h'->bC prog w a S' n' h'->Q ys {s with heap:=h'}):wpAny (model prog w) A (setWalkUnseen b [a] (some a)) Q E s:=by
 unfold setWalkUnseen
 refine a0b (hS.state ?_)
 dsimp only
 refine a0b (g9 ?_)
 have stay:∀ys:Array (Int×Value),ys.toList.Perm es.toList->Q ys s:=λys hp=>h ys s.heap hp (Heap.SameBut.refl a s.heap) hX
 by_cases hc:(w.params.followText "set-order"||t.led&&t.plain||decide (es.size<=1))=true
 ·rw [if_pos hc]
  refine Z2 hS ?_ stay
  cases hbt:w.params.followText "set-order" with
  |true=>exact .inl rfl
  | false=>
   right
   rw[hbt,Bool.false_or,Bool.or_eq_true] at hc
   have hl:=(hwk.resolve_left (by rw[hbt];exact Bool.false_ne_true)).1
   rw[hl]
   refine⟨?_,by simp⟩
   rcases hc with z|z
   ·rw[Bool.and_eq_true] at z;rw[z.2];rfl
   ·have:¬es.size>1:=by have:=of_decide_eq_true z;omega
    simp[this]
 ·rw [if_neg hc]
  obtain⟨es',ep',t',hS',hel',hmem',hb',hn',hwk',hnd'⟩:=hX.at_
  refine a0b (RN hS hS' hel hel' ?_)
  rw[if_neg (by simp)]
  refine a0b (wpAny_rule ?_)
  refine a0b (hS'.state ?_)
  dsimp only
  have hbt:w.params.followText "set-order"=false:=by
   cases hq:w.params.followText "set-order" with
   |false=>rfl
   |true=>rw[hq] at hc;exact absurd rfl hc
  have hl:=(hwk.resolve_left (by rw[hbt];exact Bool.false_ne_true)).1
  split
  ·obtain⟨⟨o,ho,hex,hd⟩,hf⟩:=hS'
   refine a0b (wpAny_storeSet_of ho hd ?_ (fits_of_scanBound hb'))
   have hf2:SetTable.fits {t' with led:=t'.led&&t.led,plain:=t'.plain&&t.plain} es'.size=true:=hf
   obtain⟨h2,_⟩:=SetOf_store (knd:=intKind prog w) (S':=S') ho hex hd hel' hmem' hb' hf2
   refine a0d (h es _ (.refl _) (Heap.SameBut.update _ a _) ⟨_,_,_,_,h2,hex,rfl,hel',hmem',hb',hf2,hn',?_,hnd'⟩)
   exact hwk'.imp id λz=>⟨by show (t'.led&&t.led)=true;rw[z.1,hl];rfl,λq=>z.2 (by have:(t'.plain&&t.plain)=true:=q;rw[Bool.and_eq_true] at this;exact this.1)⟩
  ·exact a0d (stay es (.refl _))
theorem EF {a b:Addr} {es0:Array (Int×Value)} {ep:Nat} {t:SetTable} {Q:Unit->Shared->Prop} (id:String) (hab:a≠b):∀(ys:List (Int×Value)) (s:Shared) (S:Int->Bool) (n m:Nat),SetAt s.heap b es0 ep t->ElemsOf (intKind prog w) ys->bC prog w a S n s.heap->n<=m->m+ys.length+1<scanBound->
  (∀h' n' S',Heap.SameBut a s.heap h'->bC prog w a S' n' h'->n'<=m+ys.length->(∀k,S' k=((ys.filter λe=>decide (cA e.2=k)).foldl (λq _=>!q) (S k)))->Q () {s with heap:=h'})->
  wpAny (model prog w) A (forIn ys PUnit.unit (λ(x:Int×Value) (__s:PUnit)=>match x with
   | (h,x)=>do
    (holding [x] (do
     let __do_lift <- setDiscardHashed a x h
     if (!__do_lift)=true then do
      let _ <- setAddHashed a x h
      pure ()
     else pure ()):Sem Unit)
    Builtin.Frozenset.unchanged id b ep
    pure (ForInStep.yield PUnit.unit))) (λ_ s'=>Q () s') E s
 | [],s,S,n,m,hb,hel,hX,hn,hm,k=>by
  rw[List.forIn_nil]
  exact a0d (k s.heap n S (Heap.SameBut.refl a s.heap) hX hn λj=>rfl)
 | e::ys,s,S,n,m,hb,hel,hX,hn,hm,k=>by
  obtain⟨⟨k0,hk0,hh0⟩,hsc⟩:=hel e List.mem_cons_self
  obtain⟨e1,e2⟩:=e
  dsimp only at hk0 hh0 hsc
  rw[List.length_cons] at hm
  rw[List.forIn_cons]
  dsimp only
  subst hh0
  refine a0b (a0b (V8 hk0 hsc hX hn (by omega) λh1 n1 sb1 hX1 hn1=>?_))
  have hb1:SetAt h1 b es0 ep t:=hb.keeps λo e=>(sb1.2 b (Ne.symm hab)).trans e
  unfold Builtin.Frozenset.unchanged setEpoch
  refine a0b (a0b (a0b (hb1.state (s:={s with heap:=h1}) (a0d ?_))))
  rw[if_neg (by simp)]
  refine a0d (a0d ?_)
  dsimp only
  refine EF id hab ys {s with heap:=h1} _ n1 (m+1) hb1 (λx hx=>hel x (List.mem_cons_of_mem _ hx)) hX1 hn1 (by omega) λh2 n2 S2 sb2 hX2 hn2 hS2=>?_
  refine k h2 n2 S2 (sb1.trans sb2) hX2 (by rw[List.length_cons];omega) λj=>?_
  rw[hS2 j,List.filter_cons]
  obtain⟨tk,rfl⟩:=cB hk0
  show List.foldl _ (if j=k0 then !S k0 else S j) _=List.foldl _ (S j) (if decide (k0=j)=true then _ else _)
  by_cases z:k0=j
  ·subst z;simp
  ·have z':¬j=k0:=λq=>z q.symm
   simp[z,z']
end
theorem uD:entryFor table "set.__xor__"=some Builtin.«frozenset.__xor__»:=entryFor_alias (id':="frozenset.__xor__") (by kernel_rfl) rfl (by decide+kernel) (by kernel_rfl)
section
variable{prog:Program}{w:World}{A:Around}{E:Value->Ab->Prop}{s:Ab}
theorem bC.typeIs{a:Addr}{S:Int->Bool}{n:Nat}{s:Shared}(x:bC prog w a S n s.heap):s.TypeIs (.ref a) "set":=by
 obtain⟨o,es,ep,t,ho,hex,_⟩:=x
 exact⟨o,ho,hex.1⟩
theorem n5{a:Addr}{Q:Bool->Shared->Prop}(hT:s.TypeIs (.ref a) "set")(h:Q true s):wpAny (model prog w) A (Builtin.Frozenset.isAnySet (.ref a)) Q E s:=by
 unfold Builtin.Frozenset.isAnySet
 show wpAny _ _ (isInstance (.ref a) (.type "set") >>=_) _ _ _
 exact a0b (wpAny_isInstance hT sub_set_self (a0d h))
theorem vG {α:Type}:∀(l:List α) (q:Bool),l.foldl (λq _=>!q) q=if l.length % 2=0 then q else !q
 |[],q=>rfl
 | a::l,q=>by
  rw[List.foldl_cons,vG l,List.length_cons]
  by_cases h:l.length % 2=0
  ·rw[if_pos h,if_neg (by omega)]
  ·rw[if_neg h,if_pos (by omega),Bool.not_not]
theorem a1S {a b:Addr} {S T:Int->Bool} {n m:Nat} {Q:Value->Shared->Prop} (hA:bC prog w a S n s.heap) (hB:bC prog w b T m s.heap) (hn:n<1000) (hm:m<32)
  (k:∀h' r U,(∀b o,s.heap.get? b=some o->h'.get? b=some o)->bC prog w s.heap.objs.size U r h'->r<=n+m->(∀j,U j=(S j !=T j))->Q (.ref s.heap.objs.size) {s with heap:=h'}) :
  wpAny (model prog w) A (binaryOp .BitXor (.ref a) (.ref b)) Q E s:=by
 have tA:=hA.typeIs
 have tB:=hB.typeIs
 refine wpAny_binaryOp_same (op:=.BitXor) tA tB F.fills_set_xor F.slot_set_xor (wpAny_call_entry F.slot_set_xor tA uD ?_ (F.args_set_xor_2 _ _))
 unfold Builtin.«frozenset.__xor__»
 show wpAny _ _ (do
  let (self,other) <- Builtin.Frozenset.slot1 "__xor__" ⟨[.ref a,.ref b],[]⟩
  if !(<- (Builtin.Frozenset.isAnySet self <&&> Builtin.Frozenset.isAnySet other)) then rule (toString "frozenset."++toString "__xor__"++toString ".declined");return <- ret .notImplemented
  ret (<- (do
   let result <- Builtin.Frozenset.newFrom (toString "frozenset."++toString "__xor__"++toString "") (<- Builtin.Frozenset.baseOf (<- Builtin.Frozenset.addrOf self)) other
   holding [result] (Builtin.Frozenset.symmetricDifferenceUpdate (toString "frozenset."++toString "__xor__"++toString "") (<- Builtin.Frozenset.addrOf result) (.ref a))
   return result))) _ _ _
 unfold Builtin.Frozenset.slot1
 refine a0b (wpAny_of_eq (a:=(Value.ref a,Value.ref b)) rfl ?_)
 dsimp only
 refine a0b ?_
 show wpAny _ _ (Builtin.Frozenset.isAnySet (.ref a) >>=_) _ _ _
 refine a0b (n5 tA ?_)
 show wpAny _ _ (Builtin.Frozenset.isAnySet (.ref b)) _ _ _
 refine n5 tB ?_
 rw[if_neg (by simp)]
 refine a0b ?_
 unfold Builtin.Frozenset.baseOf Builtin.Frozenset.newFrom Builtin.Frozenset.addrOf
 refine a0b (a0d (a0b (a0b (wpAny_isInstance tA sub_set_self (a0d ?_)))))
 rw[if_pos rfl]
 refine a0b (a0b (LG ?_))
 generalize hp:s.heap.objs.size=p at*
 have hE:(s.heap.push (aX w)).get? p=some (aX w):=by rw[<- hp];exact Heap.get?_push_size _ rfl
 have kp:∀c o,s.heap.get? c=some o->(s.heap.push (aX w)).get? c=some o:=λc o e=>a0e _ e
 have nep:∀ {c:Ac} {o:Obj},s.heap.get? c=some o->p≠c:=λe=>by rw[<- hp];exact Nat.ne_of_gt (Heap.lt_size e)
 have hA0:bC prog w a S n (s.heap.push (aX w)):=hA.mono λo e=>kp a o e
 have hB0:bC prog w b T m (s.heap.push (aX w)):=hB.mono λo e=>kp b o e
 have hpa:p≠a:=by obtain⟨o,_,_,_,e,_⟩:=hA;exact nep e
 have hpb:p≠b:=by obtain⟨o,_,_,_,e,_⟩:=hB;exact nep e
 generalize s.heap.push (aX w)=h0 at hE kp hA0 hB0
 refine a0b (a0d (a0b (wpAny_holding ?_)))
 unfold Builtin.Frozenset.updateFrom
 refine a0b (n5 (s:={s with heap:=h0}) hB0.typeIs ?_)
 rw[if_pos rfl]
 unfold Builtin.Frozenset.addrOf Builtin.Frozenset.merge setEpoch
 refine a0b (a0d ?_)
 obtain⟨esb,epb,tb,hSb,_⟩:=hB0.at_
 refine a0b (a0b (hSb.state (s:={s with heap:=h0}) (a0d ?_)))
 refine QQ (s:={s with heap:=h0}) hE hpb hB0 hm λh1 sb1 hX1=>?_
 have hA1:bC prog w a S n h1:=hA0.mono λo e=>(sb1.2 a (Ne.symm hpa)).trans e
 refine a0d ?_
 refine a0b (a0d (a0b (wpAny_holding ?_)))
 unfold Builtin.Frozenset.symmetricDifferenceUpdate
 rw[if_neg (by simpa using Ne.symm hpa)]
 refine a0b (wpAny_typeOf (s:={s with heap:=h1}) hA1.typeIs ?_)
 rw[if_neg (by decide)]
 refine a0b (n5 (s:={s with heap:=h1}) hA1.typeIs ?_)
 rw[if_pos rfl]
 unfold Builtin.Frozenset.addrOf setEpoch
 refine a0b (a0d (a0b (a0d ?_)))
 obtain⟨esa,epa,ta,hSa,hela,hmema,hba,hna,hwka,hnda⟩:=hA1.at_
 refine a0b (a0b (hSa.state (s:={s with heap:=h1}) (a0d ?_)))
 refine wpAny_holding (a0b (NF (s:={s with heap:=h1}) (S:=S) (n:=n) hpa hSa hela hwka hX1 λys h2 hperm sb2 hX2=>?_))
 have hS2:SetAt h2 a esa epa ta:=hSa.keeps λo e=>(sb2.2 a (Ne.symm hpa)).trans e
 have hly:ys.toList.length=n:=by rw[hperm.length_eq,Array.length_toList,hna]
 rw[<- Array.forIn_toList]
 have h4096:scanBound=4096:=rfl
 refine a0b (EF (Q:=λ_ s'=>wpAny (model prog w) A.in1 (pure ()) _ E s') _ hpa ys.toList {s with heap:=h2} T m m hS2 (λe he=>hela e (hperm.mem_iff.mp he)) hX2 (Nat.le_refl _) (by rw[hly];omega) λh3 r U sb3 hX3 hr hU=>?_)
 refine a0d (a0d (a0d ⟨_,rfl,(λz=>by cases z),k h3 r U (λc o e=>?_) hX3 (by rw[hly] at hr;omega) λj=>?_⟩))
 ·have hc:=Ne.symm (nep e)
  exact (sb3.2 c hc).trans ((sb2.2 c hc).trans ((sb1.2 c hc).trans (kp c o e)))
 ·rw [hU j,vG]
  have e1:(ys.toList.filter λe=>decide (cA e.2=j)).length=(esa.toList.filter λe=>decide (cA e.2=j)).length:=(hperm.filter _).length_eq
  have e2:(esa.toList.filter λe=>decide (cA e.2=j)).length=(esa.toList.map λe=>cA e.2).count j:=by
   rw[List.count_eq_countP,List.countP_map,List.countP_eq_length_filter]
   first
    |rfl
    |(congr 2;funext e;show decide (cA e.2=j)=(cA e.2==j);by_cases z:cA e.2=j<;>simp[z])
  have e3:S j=true↔j∈esa.toList.map λe=>cA e.2:=by
   rw[hmema j,List.mem_map]
   constructor
   ·rintro⟨e,he,hk⟩
    obtain⟨t,e2⟩:=cB hk
    exact⟨e,he,by rw[e2];rfl⟩
   ·rintro⟨e,he,hk⟩
    obtain⟨⟨k',hk',_⟩,_⟩:=hela e he
    obtain⟨t,e2⟩:=cB hk'
    have:k'=j:=by rw[<- hk,e2];rfl
    subst this
    exact⟨e,he,hk'⟩
  rw[e1,e2]
  cases hS:S j with
  | true=>
   have hm1:=e3.mp hS
   have c1:(esa.toList.map λe=>cA e.2).count j=1:=by
    have h1:=List.nodup_iff_count.mp hnda j
    have h2:=List.count_pos_iff.mpr hm1
    omega
   rw[c1]
   cases T j<;>rfl
  | false=>
   have hm1:j∉esa.toList.map λe=>cA e.2:=λz=>by rw[e3.mpr z] at hS;cases hS
   rw[List.count_eq_zero.mpr hm1]
   cases T j<;>rfl
end
section
variable{X:Cx}
theorem JL:bootBuiltins "set"=some (.type "set"):=by rfl
def MS(P:Program)(w:World)(K:PySem.W.Frag):List V->Hp->VK->Prop:=λxs H Q=>∃p ns,xs=[.ref p]/\cS K H p (List.map V.int ns)/\ns.length<=1000/\
 ∀(a:Ac) (S:Int->Bool) (n:Nat),H a=none->(∀k,S k=true↔k∈ns)->n<=ns.length->Q (.ref a) (b7 H a (dG P w a S n))
theorem vD (hc:X.calm=true):dI X (.type "set") (MS X.prog X.w X.K):=by
 intro pins s σ H xs us Q I r h
 obtain⟨p,ns,rfl,hp,hl,q⟩:=h
 obtain⟨u,rfl,ru⟩:=kZ r
 cases ru
 obtain⟨its,rv,hp',hz⟩:=I.list hp
 have hi:IntsAre its ns:=mB rv
 have hvl:its.length=ns.length:=IntsAre.length hi
 have h4096:scanBound=4096:=rfl
 refine call_set_list_x (I.ok.hd hc) hp'.isList (by simpa using hi) (by simp;omega) λh' tk hX hk=>?_
 have kp:∀b u,s.heap.get? b=some u->h'.get? b=some u:=λb o e=>hk b o (Heap.lt_size e) e
 refine⟨.ref s.heap.objs.size,_,I.laid (a:=s.heap.objs.size) (t':=tk) kp (Nat.le_refl _) hX.ok,rfl,q _ _ _ (I.hok.fresh (Nat.le_refl _)) (λk=>?_) ?_⟩
 ·have e1:((List.range its.length).map λi=>ns.getD i 0)=ns:=by
   rw[hvl]
   apply List.ext_getElem
   ·simp
   ·intro i h1 h2
    simp[a0c,a0a h2]
  rw[firstMet_any]
  simp only[List.size_toArray]
  rw[e1,List.any_eq_true]
  simp
 ·have:=firstMet_length_le (λi=>ns.getD i 0) its.toArray.size
  simp only[List.size_toArray] at this ⊢
  omega
def a12(P:Program)(w:World):R2:=λx y H Q=>∃a b S T n m,x= .ref a/\y= .ref b/\H a=some (dG P w a S n)/\H b=some (dG P w b T m)/\n<1000/\m<32/\
 ∀(c:Ac) (U:Int->Bool) (r:Nat),H c=none->r<=n+m->(∀j,U j=(S j !=T j))->Q (.ref c) (b7 H c (dG P w c U r))
theorem Inv.setX{pins:List (Addr×Obj)}{σ:St}{H:Hp}{s:Shared}{p:Addr}{S:Int->Bool}{n:Nat}(I:Inv X pins σ H s)(hp:H p=some (dG X.prog X.w p S n)):bC X.prog X.w p S n s.heap:=by
 obtain⟨hX,_,_⟩ : bC X.prog X.w p S n s.heap/\(∃o,s.heap.get? p=some o)/\(∀h1 h2:Heap,bC X.prog X.w p S n h1->(∀o,h1.get? p=some o->h2.get? p=some o)->bC X.prog X.w p S n h2):=I.hok p _ hp
 exact hX
theorem a0A:m8 X (binaryOp .BitXor) (a12 X.prog X.w):=by
 intro pins s σ H x y v u Q I rx ry h
 obtain⟨a,b,S,T,n,m,rfl,rfl,ha,hb,hn,hm,q⟩:=h
 cases rx;cases ry
 refine a1S (I.setX ha) (I.setX hb) hn hm λh' r U kp hX hr hU=>?_
 exact⟨.ref s.heap.objs.size,_,I.laid (a:=s.heap.objs.size) (t':=s.toks) kp (Nat.le_refl _) hX.ok,rfl,q _ _ _ (I.hok.fresh (Nat.le_refl _)) hr hU⟩
end
def lK(ns ms:List Int):List Int:=(ns.filter λk=>!decide (k∈ms))++(ms.filter λk=>!decide (k∈ns))
theorem kK{ns ms:List Int}{k:Int}:k∈lK ns ms↔(k∈ns/\k∉ms)\/(k∈ms/\k∉ns):=by
 unfold lK
 rw[List.mem_append,List.mem_filter,List.mem_filter]
 simp
def i6 (n:Nat) (x:PV) (K:List Int->Prop):Prop:=match x with
 | .lst xs=>(match PV.ints xs with
  |some ns=>ns.length<n/\K ns
  |none=>False)
 |_=>False
theorem vO{n:Nat}{ns:List Int}{K:List Int->Prop}(hl:ns.length<n)(q:K ns):i6 n (.lst (ns.map PV.int)) K:=by unfold i6;simp only[PV.ints_map];exact⟨hl,q⟩
theorem sL {n:Nat} {x:PV} {K:List Int->Prop} (h:i6 n x K):∃xs ns,x= .lst xs/\PV.ints xs=some ns/\ns.length<n/\K ns:=by
 unfold i6 at h
 cases x with
 | lst xs=>
  dsimp only at h
  cases hi:PV.ints xs with
  |none=>rw[hi] at h;exact h.elim
  |some ns=>rw[hi] at h;exact⟨xs,ns,rfl,hi,h.1,h.2⟩
 |_=>exact h.elim
def kL(a b:aR):aR:=λenv Q=>a env λx=>i6 32 x λns=>b env λy=>i6 32 y λms=>Q (.lst ((aM (lK ns ms)).map PV.int))
section
variable{X:Cx}{md:List Md}{a b:Expr}{pa pb:aR}{p p1 p2 pos pos1 pos2 pos3:Pos}
theorem BB{G:Addr->Prop}{H:Hp}{v:V}{xs:List PV}{ns:List Int}(r:Rep G H v (.lst xs))(h:PV.ints xs=some ns):∃l,v= .ref l/\H l=some (.lst (List.map V.int ns)):=by
 rw[PV.ints_of h] at r
 obtain⟨l,vs,rfl,_,e,rs⟩:=Rep.ofList r
 rw[rs.ints] at e
 exact⟨l,rfl,e⟩
theorem DY (hc:X.calm=true) (hg0:X.env.scope.names.lookup ("sorted" : Str)=some .globalImplicit) (hm0:X.mg "sorted"=none) (hg1:X.env.scope.names.lookup ("set" : Str)=some .globalImplicit) (hm1:X.mg "set"=none) (ha:VE X md a .bw pa) (hb:VE X md b .bw pb)
  (h1:starEach [a] X.env=(false,eval a X.env)::starEach [] X.env:=by rfl) (h1':starEach [b] X.env=(false,eval b X.env)::starEach [] X.env:=by rfl)
  (h2:starEach [.BinOp (.Call (.Name "set" p1) [a] [] pos1) .BitXor (.Call (.Name "set" p2) [b] [] pos2) pos3] X.env=(false,eval (.BinOp (.Call (.Name "set" p1) [a] [] pos1) .BitXor (.Call (.Name "set" p2) [b] [] pos2) pos3) X.env)::starEach [] X.env:=by rfl)
  (hl1:(backTo pos1 (starEach [] X.env)).any (·.1)=false:=by rfl) (hl1':(backTo pos2 (starEach [] X.env)).any (·.1)=false:=by rfl) (hl2:(backTo pos (starEach [] X.env)).any (·.1)=false:=by rfl) :
  VE X md (.Call (.Name "sorted" p) [.BinOp (.Call (.Name "set" p1) [a] [] pos1) .BitXor (.Call (.Name "set" p2) [b] [] pos2) pos3] [] pos) (.o .fl) (kL pa pb):=
 ⟨(kN (vE hc) hg0 hm0 v9 (dP (AZ a0A (gF (vD hc) hg1 hm1 JL (dP ha.h gR h1) (by decide) (by decide) h1 hl1) (gF (vD hc) hg1 hm1 JL (dP hb.h gR h1') (by decide) (by decide) h1' hl1')) gR h2) (by decide) (by decide) h2 hl2).imp λσ H Q h=>by
 obtain⟨env,W0,H0,W,Q',R,q,k⟩:=h
 refine⟨env,W0,H0,W,_,R,q,λx v W1 H1 g1 r1 q1=>?_⟩
 obtain⟨xs,ns,rfl,hi,hlt,q1⟩:=sL q1
 obtain⟨l,rfl,e⟩:=BB r1 hi
 have R1:=R.step g1
 refine⟨l,ns,rfl,cS.of e,by omega,λc S n hc' hS hn=>?_⟩
 have gl:Go W1 H1 W1 (b7 H1 c (dG X.prog X.w c S n)):=Go.laid R1.ok hc'
 have R2:=R1.step gl
 refine⟨env,W0,H0,W1,_,R2,q1,λy u W3 H3 g3 r3 q3=>?_⟩
 obtain⟨ys,ms,rfl,hi2,hlt2,q3⟩:=sL q3
 obtain⟨l',rfl,e'⟩:=BB r3 hi2
 have R3:=R2.step g3
 refine⟨l',ms,rfl,cS.of e',by omega,λc2 T m hc2 hT hm=>?_⟩
 have gl2:Go W3 H3 W3 (b7 H3 c2 (dG X.prog X.w c2 T m)):=Go.laid R3.ok hc2
 have at1:H3 c=some (dG X.prog X.w c S n):=g3.kp c _ aU λz=>R1.ok.offS hc' z
 have nc:c≠c2:=λz=>by rw[z,hc2] at at1;cases at1
 refine⟨c,c2,S,T,n,m,rfl,rfl,by rw[aD nc];exact at1,aU,by omega,by omega,λc3 U r hc3 hr hU=>?_⟩
 have gl3:Go W3 (b7 H3 c2 (dG X.prog X.w c2 T m)) W3 (b7 (b7 H3 c2 (dG X.prog X.w c2 T m)) c3 (dG X.prog X.w c3 U r)):=Go.laid gl2.ok hc3
 refine⟨c3,U,r,rfl,aU,by omega,λl2 zs hl2' hlt3 hms=>?_⟩
 have:zs=aM (lK ns ms):=BM hlt3 λj=>by
  rw[<- hms j,hU j,kK,<- hS j,<- hT j]
  cases S j<;>cases T j<;>simp
 subst this
 exact (k.after ((((g1.trans gl).trans g3).trans gl2).trans gl3)).newL gl3.ok hl2' (p3 _) q3⟩
end
section
variable{prog:Program}{w:World}{A:Around}{R:Result->Ab->Prop}{I:Ac}{fp wr:List Ac}{n:Nat}{P:Nat->Value->Prop}{St:Nat->Heap->Prop}{kw:List (Str×Value)}{d:Value}
theorem HN (W:Walks prog w A.in1 I fp wr n P St) (bt:Nat->Nat->Bool) (hcmp:CmpOf prog w A.in1 .Gt P bt) (S:Addr) (hSf:S∉fp) :
  ∀(k j:Nat) (s:Ab) (vb:Value) (c:Nat),n-(j+1)=k->j+1<=n->St (j+1) s.heap->P (argBest bt j) vb->
  s.heap.get? S=some {cls:=.type "list",dict:=none,data:=.seq #[vb,vb] c,slots:=#[]}->
  (∀v h' tk,P (argBest bt (n-1)) v->(∀b o,b∉wr->b≠S->s.heap.get? b=some o->h'.get? b=some o)->R (.ok (.ret v)) {s with heap:=h',toks:=tk})->
  codeAny (model prog w) A (.builtin "max.loop" ⟨[.ref I,.none,.ref S],kw⟩) R s:=by
 have hSw:S∉wr:=λh=>hSf (W.sub _ h)
 have hname:(toString "max"++toString ".loop" : String)="max.loop":=by decide
 intro k
 induction k with
 | zero=>
  intro j s vb c hk hj hst hPb hS hR
  have hin:j+1=n:=by omega
  refine codeAny_builtin F.entry_max_loop ?_
  rw[Around.under_plainId F.plain_max_loop _]
  show wpAny _ A.in1 (seqItems? (.ref S) >>=_) _ _ s
  refine a0b (wpAny_seqItems hS rfl ?_)
  show wpAny _ A.in1 (tryCatch (pyNext (.ref I)) _ >>=_) _ _ s
  refine a0b (wpAny_tryCatch (W.done s _ _ (hin▸hst) λh' tk hk'=>?_))
  have hS':=hk' S _ hSw hS
  show wpAny _ A.in1 (updateSeq S (λ_=>#[]) >>=_) _ _ _
  refine a0b ?_
  refine wpAny_updateSeq hS' rfl (a0b (wpAny_letGo (a0d ?_)))
  refine hR vb _ tk (by rw[<- hin];exact hPb) λb o hbw hbS e=>(Heap.get?_update_other _ _ (Ne.symm hbS)).trans (hk' b o hbw e)
 | succ k ih=>
  intro j s vb c hk hj hst hPb hS hR
  have hlt:j+1<n:=by omega
  refine codeAny_builtin F.entry_max_loop ?_
  rw[Around.under_plainId F.plain_max_loop _]
  show wpAny _ A.in1 (seqItems? (.ref S) >>=_) _ _ s
  refine a0b (wpAny_seqItems hS rfl ?_)
  show wpAny _ A.in1 (tryCatch (pyNext (.ref I)) _ >>=_) _ _ s
  refine a0b (wpAny_tryCatch (W.item (j+1) s _ _ hlt hst λv h' tk hP hst' hk'=>?_))
  have hS':=hk' S _ hSw hS
  show wpAny _ A.in1 (tryCatch (holding [v,v] (richCompare .Gt v vb >>=_)) _ >>=_) _ _ _
  refine a0b (wpAny_tryCatch (wpAny_holding (a0b (hcmp (j+1) (argBest bt j) v vb _ _ _ hP hPb ?_))))
  refine a0b (wpAny_holding (wpAny_truthy_bool ?_))
  refine a0b (wpAny_letGo (a0d ?_))
  cases hb:bt (j+1) (argBest bt j) with
  | true=>
   simp only[if_true]
   refine a0b ?_
   refine wpAny_updateSeq hS' rfl (a0b (wpAny_letGo ?_))
   rw[hname]
   refine a0d ⟨plainId_quiet F.plain_max_loop _,ih (j+1) _ v _ (by omega) hlt (W.frame _ _ _ hst' λb hbf o e=>?_) (by simp only[argBest,hb,if_true];exact hP) (Heap.get?_update_self _ hS' rfl)
    λv' h'' tk'' hP' hk''=>?_⟩
   ·exact (Heap.get?_update_other _ _ (λh:S=b=>hSf (by rw[h];exact hbf))).trans e
   ·exact hR v' h'' tk'' hP' λb o hbw hbS e=>hk'' b o hbw hbS ((Heap.get?_update_other _ _ (Ne.symm hbS)).trans (hk' b o hbw e))
  | false=>
   simp only[Bool.false_eq_true,if_false]
   refine a0b (wpAny_letGo ?_)
   rw[hname]
   refine a0d ⟨plainId_quiet F.plain_max_loop _,ih (j+1) _ vb c (by omega) hlt hst' (by simp only[argBest,hb,Bool.false_eq_true,if_false];exact hPb) hS' λv' h'' tk'' hP' hk''=>?_⟩
   exact hR v' h'' tk'' hP' λb o hbw hbS e=>hk'' b o hbw hbS (hk' b o hbw e)
theorem CW (W:Walks prog w A.in1 I fp wr n P St) (bt:Nat->Nat->Bool) (hcmp:CmpOf prog w A.in1 .Gt P bt) (S:Addr) (hSf:S∉fp) {s:Shared} {c:Nat} (hst:St 0 s.heap)
  (hS:s.heap.get? S=some {cls:=.type "list",dict:=none,data:=.seq #[] c,slots:=#[]})
  (hD:n=0->∀h' tk,(∀b o,b∉wr->b≠S->s.heap.get? b=some o->h'.get? b=some o)->R (.ok (.ret d)) {s with heap:=h',toks:=tk})
  (hR:0<n->∀v h' tk,P (argBest bt (n-1)) v->(∀b o,b∉wr->b≠S->s.heap.get? b=some o->h'.get? b=some o)->R (.ok (.ret v)) {s with heap:=h',toks:=tk}) :
  codeAny (model prog w) A (.builtin "max.loop" ⟨[.ref I,.none,.ref S],[("default",d)]⟩) R s:=by
 have hSw:S∉wr:=λh=>hSf (W.sub _ h)
 have hname:(toString "max"++toString ".loop" : String)="max.loop":=by decide
 refine codeAny_builtin F.entry_max_loop ?_
 rw[Around.under_plainId F.plain_max_loop _]
 show wpAny _ A.in1 (seqItems? (.ref S) >>=_) _ _ s
 refine a0b (wpAny_seqItems hS rfl ?_)
 show wpAny _ A.in1 (tryCatch (pyNext (.ref I)) _ >>=_) _ _ s
 by_cases hn:0<n
 ·refine a0b (wpAny_tryCatch (W.item 0 s _ _ hn hst λv h' tk hP hst' hk'=>?_))
  have hS':=hk' S _ hSw hS
  show wpAny _ A.in1 (updateSeq S (λ_=>#[v,v]) >>=_) _ _ _
  refine a0b ?_
  refine wpAny_updateSeq hS' rfl ?_
  rw[hname]
  refine a0d ⟨plainId_quiet F.plain_max_loop _,HN W bt hcmp S hSf _ 0 _ v _ rfl hn (W.frame _ _ _ hst' λb hbf o e=>?_) hP (Heap.get?_update_self _ hS' rfl) λv' h'' tk'' hP' hk''=>?_⟩
  ·exact (Heap.get?_update_other _ _ (λh:S=b=>hSf (by rw[h];exact hbf))).trans e
  ·exact hR hn v' h'' tk'' hP' λb o hbw hbS e=>hk'' b o hbw hbS ((Heap.get?_update_other _ _ (Ne.symm hbS)).trans (hk' b o hbw e))
 ·have h0:n=0:=by omega
  refine a0b (wpAny_tryCatch (W.done s _ _ (h0▸hst) λh' tk hk'=>?_))
  show wpAny _ A.in1 (rule _ >>=_) _ _ _
  refine a0b (wpAny_rule (a0d ?_))
  exact hD h0 h' tk λb o hbw _ e=>hk' b o hbw e
end
section
variable{prog:Program}{w:World}{A:Around}{E:Value->Ab->Prop}{s:Ab}{l:Ac}{d:Value}
theorem xJ {id:String} {b:Builtin} {args:List Value} {kw:List (Str×Value)} {Q:Value->Shared->Prop} (hk:builtinKind id=none) (hp:plainId id=true) (hb:entryFor table id=some b) (ha:argsOk id ⟨args,kw⟩)
  (hc:wpAny (model prog w) A.in1 (b ⟨args,kw⟩) (λfin s'=>match fin with|.done f=>(match (Except.ok f:Result) with|.ok (.ret v)=>Q v s'|.ok _=>False|.error e=>E e s')|.again c'=>c'.quiet=true/\codeAny (model prog w) A c' (λr s'=>match r with|.ok (.ret v)=>Q v s'|.ok _=>False|.error e=>E e s') s') E s) :
  wpAny (model prog w) A (call (.builtin id) args kw) Q E s:=by
 refine wpAny_call (codeAny_call_builtin hp hb ?_)
 simp only[checkBuiltinCall,hk]
 cases hsig:Manifest.signature? id with
 |none=>exact a0d hc
 | some sig=>
  have ha':Bind.checkArgs id sig ⟨args,kw⟩=pure ():=by simpa only[argsOk,hsig] using ha
  simp only[ha']
  exact a0d hc
theorem G4(a d:Value):argsOk "max" ⟨[a],[(Str.ofString "default",d)]⟩:=by unfold argsOk;kernel_rfl
theorem HM {xs:Array (Int×Tok)} {Q:Value->Shared->Prop} (hh:A.handled=none) (hl:s.heap.IsList l (intItems xs))
  (h0:xs.size=0->∀h' tk,(∀b o,s.heap.get? b=some o->h'.get? b=some o)->Q d {s with heap:=h',toks:=tk})
  (h:0<xs.size->∀v h' tk,(intItems xs)[argBest (λi j=>decide (numAt xs i>numAt xs j)) (xs.size-1)]? =some v->(∀b o,s.heap.get? b=some o->h'.get? b=some o)->Q v {s with heap:=h',toks:=tk}) :
  wpAny (model prog w) A (call (.builtin "max") [.ref l] [(Str.ofString "default",d)]) Q E s:=by
 have hname:(toString "max"++toString ".loop" : String)="max.loop":=by decide
 have hsz:(intItems xs).size=xs.size:=by simp[intItems]
 refine xJ F.kind_max F.plain_max F.entry_max (G4 _ _) ?_
 show wpAny _ A.in1 (Builtin.Builtins.bindParams "max" ["key", "default"] 0 ⟨[],[(Str.ofString "default",d)]⟩ >>=_) _ _ s
 refine a0b (wpAny_of_eq (show Builtin.Builtins.bindParams "max" ["key", "default"] 0 ⟨[],[(Str.ofString "default",d)]⟩=pure [none,some d] from rfl) ?_)
 refine a0b (a0d ?_)
 refine a0b (iter_intList hl λs₂ e st hfp hlI=>?_)
 subst e
 refine a0b (wpAny_newObj_type ?_)
 have W:=Walks.list (prog:=prog) (w:=w) (A:=A.in1) hh _ l hlI (intItems xs)
 rw[hname]
 refine a0d ⟨plainId_quiet F.plain_max_loop _,CW W _ (CmpOf.ints_gt (numAt xs) (λ_ _=>intItems_at)) _ (λhm=>Nat.lt_irrefl _ (hfp _ hm)) (W.frame _ _ _ st λb _ o e=>a0e _ e) (Heap.get?_push_size _ rfl) (λhn h' tk hk=>?_) λhn v h' tk hP hk=>?_⟩
 ·exact h0 (by omega) h' tk λb o e=>hk b o (λz=>by rw[List.mem_singleton] at z;exact absurd (Heap.lt_size e) (by rw[z];exact Nat.lt_irrefl _)) (Nat.ne_of_lt (Nat.lt_trans (Heap.lt_size e) (by rw[Heap.size_push];exact Nat.lt_succ_self _))) (a0e _ (a0e _ e))
 ·exact h (by omega) v h' tk (by rw[hsz] at hP;exact hP) λb o e=>hk b o (λz=>by rw[List.mem_singleton] at z;exact absurd (Heap.lt_size e) (by rw[z];exact Nat.lt_irrefl _)) (Nat.ne_of_lt (Nat.lt_trans (Heap.lt_size e) (by rw[Heap.size_push];exact Nat.lt_succ_self _))) (a0e _ (a0e _ e))
end
structure QD (X:Cx) (id:String) (r:List V->V->Hp->VK->Prop):Prop where
 h:∀(pins:List (Addr×Obj)) (s:Shared) (σ:St) (H:Hp) (xs:List V) (us:List Value) (dv:V) (d:Value) (Q:VK),Inv X pins σ H s->aV xs us->bA dv d->r xs dv H Q->
  wpAny (model X.prog X.w) X.A (call (.builtin id) us [(Str.ofString "default",d)]) (EP X pins σ Q) X.xe s
structure SimD(r:List V->V->Hp->VK->Prop)(pr:List PV->PV->(PV->Prop)->Prop):Prop where
 h:∀(B H0:Hp) (W:Wd) (H:Hp) (vs:List V) (xs:List PV) (dv:V) (d:PV) (Q:PV->Prop) (K:VK),Wok W H->ResEs B H0 W H [.bw] vs xs->Rep (λ_=>False) H dv d->pr xs d Q->jB B W H (.v .fl) Q K->r vs dv H K
def LO(pr:List PV->PV->(PV->Prop)->Prop)(a:l6)(d:aR):aR:=λenv Q=>a env λxs=>d env λz=>pr xs z Q
theorem NK {X:Cx} {md:List Md} {e d:Expr} {pt:l6} {pd:aR} {id:String} {x:Str} {p pos kp:Pos} {r:List V->V->Hp->VK->Prop} {pr:List PV->PV->(PV->Prop)->Prop} (hc:QD X id r) (hs:SimD r pr) (hg:X.env.scope.names.lookup x=some .globalImplicit) (hm:X.mg x=none) (hv:bootBuiltins x=some (.builtin id))
  (ha:VA X md [e] [.bw] pt) (hd:VE X md d (.v .fl) pd) (hn:x≠ "__name__") (hdb:(x==("__debug__" : Str))=false)
  (he:backTo pos (starEach [e] X.env)=(false,eval e X.env)::backTo pos (starEach [] X.env):=by rfl) (hpl:(backTo pos (starEach [e] X.env)).any (·.1)=false:=by rfl):VE X md (.Call (.Name x p) [e] [⟨some (Str.ofString "default"),d,kp⟩] pos) (.v .fl) (LO pr pt pd):=⟨by
 intro pins s σ H Q I h
 obtain⟨env,W0,H0,W,Q',R,q,k⟩:=h
 refine wpAny_Call_Name_kw (mE I hg hm hv ?_ hn hdb)
 refine callWith_kw (rest:=[]) ?_ he hpl
 refine cH (ha.h pos pins s σ H _ I ⟨env,W0,H0,W,_,R,q,λxs vs W1 H1 g1 r1 q1=>(show eK X.K md (.v .fl) pd σ H1 (λdv H2=>r vs dv H2 Q) from ⟨env,W0,H0,W1,_,R.step g1,q1,λy dv W2 H2 g2 r2 q2=>?_⟩)⟩) λus s1 ⟨vs,H1,I1,r1,q1⟩=>?_
 ·exact hs.h H0 H W2 H2 vs xs dv y Q' Q g2.ok (r1.go g1.ok g2) r2 q2 (k.after (g1.trans g2))
 ·refine kws_cons (cH (hd.h pins s1 σ H1 _ I1 q1) λdv s2 ⟨y,H2,I2,r2,q2⟩=>kws_nil ?_)
  exact hc.h pins s2 σ H2 vs us y dv Q I2 r1 r2 q2⟩
def TJ:List V->V->Hp->VK->Prop:=λxs d H Q=>∃p ns,xs=[.ref p]/\H p=some (.lst (List.map V.int ns))/\(ns=[]->Q d H)/\(ns≠[]->∀M∈ns,(∀a∈ns,a<=M)->Q (.int M) H)
theorem XJ {X:Cx} (hc:X.calm=true):QD X "max" TJ:=⟨by
 intro pins s σ H xs us dv d Q I r rd h
 obtain⟨p,ns,rfl,hp,q0,q⟩:=h
 obtain⟨u,rfl,ru⟩:=kZ r
 cases ru
 obtain⟨_,its,n,v,l,g⟩:=I.lstM hp
 have hi:IntsAre its ns:=mB v
 have hl:s.heap.IsList p its.toArray:=⟨_,g,rfl,n,rfl⟩
 obtain⟨ys,ey⟩:=hi.allInts.items
 rw[ey] at hl
 have e3:numsOf its.toArray.toList=ns:=hi.numsOf
 rw[ey] at e3
 have e4:=QU e3
 have hsz:ys.size=ns.length:=by rw[e4,a0f,Array.length_toList]
 refine HM (I.ok.hd hc) hl (λhz h' tk hk=>⟨_,H,I.kept hk,rd,q0 (List.length_eq_zero_iff.mp (by omega))⟩) λhz v h' tk hv hk=>?_
 obtain⟨t,rfl⟩:=intItems_at hv
 obtain⟨h1,h2⟩:=argBest_gt (numAt ys) (ys.size-1)
 refine⟨.int _,H,I.kept hk,⟨t,rfl⟩,q (λz=>by rw[z,List.length_nil] at hsz;omega) _ ?_ λa ha=>?_⟩
 ·rw[numAt_eq,e4];exact getD_mem (by rw[a0f,Array.length_toList];omega)
 ·rw[e4] at ha
  obtain⟨j,hj,rfl⟩:=mem_getD ha
  rw[a0f,Array.length_toList] at hj
  rw[<- numAt_eq];exact h2 j (by omega)⟩
def oX:List PV->PV->(PV->Prop)->Prop:=λxs d Q=>match xs with
 | [.lst ys]=>(match PV.ints ys with
  |some ns=>(ns=[]->Q d)/\(ns≠[]->∀M∈ns,(∀a∈ns,a<=M)->Q (.int M))
  |none=>False)
 |_=>False
theorem M7{ns:List Int}{d:PV}{Q:PV->Prop}(q0:ns=[]->Q d)(q:ns≠[]->∀M∈ns,(∀a∈ns,a<=M)->Q (.int M)):oX [.lst (ns.map PV.int)] d Q:=by unfold oX;simp only[PV.ints_map];exact⟨q0,q⟩
theorem N1:SimD TJ oX:=⟨λB H0 W H vs xs dv d Q K w r rd q k=>by
 obtain⟨v,x,rfl,rfl,r1⟩:=r.one
 unfold oX at q
 cases x with
 | lst ys=>
  dsimp only at q
  cases hi:PV.ints ys with
  |none=>rw[hi] at q;exact q.elim
  | some ns=>
   rw[hi] at q
   have r1':Rep (λa=>¬W.S a) H v (.lst ys):=r1
   rw[PV.ints_of hi] at r1'
   obtain⟨a,us,rfl,_,e,rr⟩:=Rep.ofList r1'
   rw[rr.ints] at e
   exact⟨a,ns,rfl,e,λz=>k.atom w rd (q.1 z),λz M hM hm=>k.atom w (.int M) (q.2 z M hM hm)⟩
 |_=>exact q.elim⟩
open PySem PySem.W PyProof.Rows
section
variable{O:KeyOrd}{K:Nat->O.α}{cmp:Nat->Nat->(Bool->Ab->Prop)->Ab->Prop}{s:Ab}{n:Nat}
variable(hc:∀i j (C:Bool->Ab->Prop),i<n->j<n->C (O.blt (K i) (K j)) s->cmp i j C s)(hn:0<n)
include hc hn
omit hc hn in
omit hc hn in
end
def a10:V->Option Int->Option Int->Hp->VK->Prop:=λx lo hi H Q=>∃z,x= .str z/\z.length<=sizeLine/\Q (.str (Txt.slice z lo hi)) H
theorem CN {h:Heap} {sl:Addr} {vl vu:Value} {lo hi:Option Int} (hs:h.IsSliceOf sl vl vu .none) (pl:IsPart vl lo) (pu:IsPart vu hi):∃l u:Option (Int×Tok),h.IsSlice sl l u none/\l.map (·.1)=lo/\u.map (·.1)=hi:=by
 cases pl with
 | none=>cases pu with
  |none=>exact⟨none,none,hs,rfl,rfl⟩
  |int j tj=>exact⟨none,some (j,tj),hs,rfl,rfl⟩
 | int i ti=>cases pu with
  |none=>exact⟨some (i,ti),none,hs,rfl,rfl⟩
  |int j tj=>exact⟨some (i,ti),some (j,tj),hs,rfl,rfl⟩
theorem Y9{X:Cx}:ZD X a10:=by
 intro pins s σ H x v vl vu lo hi sl Q I rx hs pl pu h
 obtain⟨z,rfl,hz,q⟩:=h
 obtain⟨t,rfl⟩:=rx
 obtain⟨l,u,h1,rfl,rfl⟩:=CN hs pl pu
 exact⟨"str",_,F.slot_str_getitem.lookup,typeIs_str _ _ _,wpAny_getItem_str_slice h1 rfl (post_val_or_str ⟨Nat.le_trans (Txt.slice_le z _ _) hz,λt' k=>⟨.str _,H,I.tok _,⟨_,rfl⟩,q⟩⟩)⟩
theorem XQ{X:Cx}:QL X a10:=⟨Y9⟩
def LX(x:PV)(lo hi:Option Int)(Q:PV->Prop):Prop:=match x with
 |.str z=>z.length<=sizeLine/\Q (.str (Txt.slice z lo hi))
 |_=>False
theorem YX {X:Cx} {md:List Md} {e:Expr} {pe:aR} {pos:Pos} {lo hi:Option Expr} {pl ph:IS} {p2:Pos} (he:VE X md e .bw pe) (hl:VO X md lo pl) (hu:VO X md hi ph):VE X md (.Subscript e (.Slice lo hi none p2) pos) (.v .fl) (iP LX pe pl ph):=
 mV XQ he hl hu λB H0 W H v x l h Q K w r q k=>by
  cases x with
  |str z=>exact⟨z,RepP.ofStr (S:=λ_=>True) (.inl r),q.1,k.atom w (.str _) q.2⟩
  |_=>exact q.elim
section
variable{K:Aa}{md md':List Md}{W0 W W' W1:Wd}{H0 H H' H1:Hp}{σ:St}{env:b5}{m:Md}{e:El}{v:V}{x:PV}{i:Nat}
def Md.unN:Md->Md
 |.n=>.no
 |m=>m
theorem DU{md:List Md}{i:Nat}:(md.map Md.unN).getD i .no=(md.getD i .no).unN:=by
 rw[a0c,a0c,List.getElem?_map]
 cases md[i]? <;>rfl
theorem Rl.nput (R:Rl K md W0 H0 W σ env H) (hl:md.all (λm=>!m.lent)=true) {o o':HO} {a:Addr} (za:W.Z a) (ha:H0 a=none) (e:H a=some o) (him:o.imm=false) (hfz:∀u q,o≠ .frz u q) :
  Rl K (md.map Md.unN) W0 H0 W σ env (b7 H a o')/\Ex W H W (b7 H a o'):=by
 have ni:∀b u,H b=some u->u.imm=true->b≠a:=λb u e' hi z=>by subst z;rw[e] at e';cases e';rw[him] at hi;cases hi
 have nf:∀b,W.F b->b≠a:=λb f z=>by subst z;exact R.ok.zF b za f
 have keep:∀ {G:Addr->Prop} {u:V} {y:PV},(∀a,G a->W.F a)->Rep G H u y->Rep G (b7 H a o') u y:=λhG r=>r.mono (λ_ h=>h) λb u h e=>by
  rw[aD (h.elim (λg=>nf b (hG b g)) (ni b u e))];exact e
 have keepB:∀ {G:Addr->Prop} {u:HO} {y:PV},(∀a,G a->W.F a)->Body G H u y->Body G (b7 H a o') u y:=λhG r=>r.mono (λ_ h=>h) λb u h e=>by
  rw[aD (h.elim (λg=>nf b (hG b g)) (ni b u e))];exact e
 have w:Wok W (b7 H a o'):=⟨λb hb=>by rw[aD (nf b hb)];exact R.ok.fF b hb,λb hb=>by
  have nb:b≠a:=λz=>by subst z;exact R.ok.zS b za hb
  obtain⟨x1,x2,x3,e1,e2⟩:=R.ok.sS b hb
  exact⟨x1,x2,x3,by rw[aD nb];exact e1,e2⟩,R.ok.dj,λb hb=>by
  by_cases h:b=a
  ·subst h;exact⟨o',aU⟩
  ·rw[aD h];exact R.ok.zZ b hb,R.ok.zF,R.ok.zS⟩
 have own':∀i,((md.map Md.unN).getD i .no).own=true->(md.getD i .no).own=true:=λi h=>by
  rw[DU] at h
  cases hm:md.getD i .no<;>rw[hm] at h<;>first|exact h|cases h
 refine⟨⟨R.ok0,⟨R.go.lF,R.go.lS,R.go.nF,R.go.nS,λb u eb sb=>?_,w,R.go.kk,R.go.kl,R.go.lZ,R.go.nZ⟩,R.len,λj y ej=>?_,λj k y z b hjk oj ok=>R.sep j k y z b hjk (own' j oj) (own' k ok),?_,R.kk⟩,λ_ h=>h,λb u f e=>by rw[aD (nf b f)];exact e,λb u im e=>by rw[aD (ni b u e im)];exact e⟩
 ·have nb:b≠a:=λz=>by subst z;rw[ha] at eb;cases eb
  rw[aD nb];exact R.go.kp b u eb sb
 ·obtain ⟨u,su,ru⟩:=R.slot j y ej
  refine⟨u,su,?_⟩
  rw[DU]
  have nl:(md.getD j .no).lent=false:=by
   rw[a0c]
   cases em:md[j]? with
   |none=>rfl
   |some m=>have:=List.all_eq_true.mp hl m (List.mem_of_getElem? em);simpa using this
  cases hmd:md.getD j .no with
  |no=>trivial
  |n=>trivial
  |bw=>rw[hmd] at nl;cases nl
  |p e'=>rw[hmd] at nl;cases nl
  |c e'=>rw[hmd] at nl;cases nl
  |v e'=>rw[hmd] at ru;exact keep (λ_ g=>El.GF g) ru
  |st=>rw[hmd] at ru;exact ru
  | scr=>
   rw[hmd] at ru
   obtain⟨b,ns,e1,e2,z⟩:=ru
   refine⟨b,ns,e1,e2,?_⟩
   rcases z with ⟨oo,z⟩|z
   ·refine .inl ⟨oo,?_⟩
    rw[aD (λy=>?_)];exact z
    subst y
    rw[e] at z;cases z;exact hfz _ _ rfl
   ·exact .inr z
  | o e'=>
   rw[hmd] at ru;obtain⟨b,ob,z1,qb⟩:=ru
   have nb:b≠a:=λz=>by subst z;exact qb.nZ za
   exact⟨b,ob,z1,qb.new,qb.nF,qb.nS,by rw[aD nb];exact qb.at_,keepB (λ_ g=>El.GF g) qb.its,qb.nZ⟩
  | z e'=>
   rw[hmd] at ru;obtain⟨b,ob,z1,qb⟩:=ru
   exact⟨b,ob,z1,qb.new,qb.F,by rw[aD (nf b qb.F)];exact qb.at_,keepB (λ_ g=>El.GF g) qb.its⟩
 ·unfold fG
  rw[Bool.or_eq_true,List.all_eq_true,List.all_eq_true]
  refine .inl λm hm=>?_
  obtain⟨m',h1,rfl⟩:=List.mem_map.mp hm
  have:=List.all_eq_true.mp hl m' h1
  cases m'<;>first|exact this|rfl
end
section
variable{X:Cx}{md lm:List Md}{rm:Md}{a b c e:Expr}{es:List Expr}{pt:l6}{pa pb pe:aR}{p pos apos cpos:Pos}{k:Nat}{x:Str}{ps:List Str}{ms:List Md}{pn:PN}{m:Md}{el:El}
theorem Rep.ofListG{G:Addr->Prop}{H:Hp}{v:V}{xs:List PV}(r:Rep G H v (.lst xs)):∃a vs,v= .ref a/\H a=some (.lst vs)/\Reps G H vs xs:=by
 obtain⟨a,vs,e,_,h,r⟩:=r.ofList;exact⟨a,vs,e,h,r⟩
theorem u5 (hm:m= .bw\/m= .n) (ha:VE X md a m pa) (hb:VE X md b .bw pb) (hp:∀o i,subscripted b false o i=operate [o,i] (getItem o i)):VE X md (.Subscript a b pos) m (b9 dJ pa pb):=
 ⟨(EZ CQ ha.h hb.h hp).imp λσ H K=>by
  rintro⟨env,W0,H0,W,Q,R,q,k⟩
  refine⟨env,W0,H0,W,_,R,q,λx v W1 H1 g1 r1 q1=>⟨env,W0,H0,W1,_,R.step g1,q1,λy u W2 H2 g2 r2 q2=>?_⟩⟩
  obtain ⟨G,hG,r1'⟩ : ∃G:Addr->Prop,(∀w z,Rep G H2 w z->ResE H0 H W2 H2 m w z)/\Rep G H2 v x:=by
   rcases hm with rfl|rfl
   ·exact⟨λa=>¬W2.S a,λ_ _ h=>h,ResE.go (m:=.bw) (B:=H0) (H:=H) r1 g1.ok g2⟩
   ·exact⟨λa=>W2.Z a/\H0 a=none,λ_ _ h=>h,ResE.go (m:=.n) (B:=H0) (H:=H) r1 g1.ok g2⟩
  unfold dJ at q2
  cases y with
  | int i=>
   have hy:=Rep.ofInt r2
   subst hy
   cases x with
   | lst xs=>
    dsimp only at q2
    obtain⟨a,vs,rfl,e,r⟩:=r1'.ofListG
    cases h:iU xs i with
    |none=>rw[h] at q2;exact q2.elim
    | some z=>
     rw[h] at q2
     obtain⟨w,e1,e2⟩:=n8 r h
     exact .inl ⟨a,vs,i,w,rfl,rfl,cS.of e,e1,k z w W2 H2 (g1.trans g2) (hG _ _ e2) q2⟩
   | tup xs=>
    dsimp only at q2
    obtain⟨a,vs,rfl,e,r⟩:=r1'.ofTup
    cases h:iU xs i with
    |none=>rw[h] at q2;exact q2.elim
    | some z=>
     rw[h] at q2
     obtain⟨w,e1,e2⟩:=n8 r h
     exact .inr (.inl ⟨a,vs,i,w,rfl,rfl,d7.of e,e1,k z w W2 H2 (g1.trans g2) (hG _ _ e2) q2⟩)
   | str s=>
    dsimp only at q2
    cases h:iU s.cps.toList i with
    |none=>rw[h] at q2;exact q2.elim
    | some c=>
     rw[h] at q2
     exact .inr (.inr ⟨s,i,c,r1'.ofStr,rfl,q2.1,h,k _ _ W2 H2 (g1.trans g2) (hG _ _ (.str _)) q2.2⟩)
   |_=>exact q2.elim
  |_=>cases x<;>exact q2.elim⟩
end
theorem Rep.uniq {H:Hp} {v:V} {x:PV} (r:Rep (λ_=>False) H v x):∀ {y:PV},Rep (λ_=>False) H v y->x=y:=by
 induction r with
 |non=>intro y q;cases q;rfl
 |bl b=>intro y q;cases q;rfl
 |int i=>intro y q;cases q;rfl
 |str x=>intro y q;cases q;rfl
 |ty n=>intro y q;cases q;rfl
 | set e=>
  intro y q
  cases q with
  |set e'=>rw[e] at e';cases e';rfl
  |tup e' _ _=>rw[e] at e';cases e'
  |lst g _ _ _=>exact g.elim
  |dic g _ _ _ _=>exact g.elim
 |lst g _ _ _=>exact g.elim
 |dic g _ _ _ _=>exact g.elim
 | @tup a vs xs e l _ ih=>
  intro y q
  cases q with
  |set e'=>rw[e] at e';cases e'
  |lst g _ _ _=>exact g.elim
  |dic g _ _ _ _=>exact g.elim
  | @tup _ us ys e' l' h'=>
   rw[e] at e'
   cases e'
   congr 1
   refine List.ext_getElem? λi=>?_
   by_cases hi:i<vs.length
   ·have h1:i<xs.length:=by omega
    have h2:i<ys.length:=by omega
    rw[a0a h1,a0a h2]
    congr 1
    exact ih i vs[i] xs[i] (a0a hi) (a0a h1) (h' i _ _ (a0a hi) (a0a h2))
   ·rw[List.getElem?_eq_none_iff.mpr (by omega),List.getElem?_eq_none_iff.mpr (by omega)]
theorem HZ {H:Hp} {vs:List V} {xs ys:List PV} (r:Reps (λ_=>False) H vs xs) (q:Reps (λ_=>False) H vs ys):xs=ys:=by
 refine List.ext_getElem? λi=>?_
 have h1:=r.len
 have h2:=q.len
 by_cases hi:i<vs.length
 ·rw[a0a (by omega),a0a (by omega)]
  congr 1
  exact (r.at_ i vs[i] _ (a0a hi) (a0a (by omega))).uniq (q.at_ i vs[i] _ (a0a hi) (a0a (by omega)))
 ·rw[List.getElem?_eq_none_iff.mpr (by omega),List.getElem?_eq_none_iff.mpr (by omega)]
def a28(xs:List PV)(n:Nat)(ys:List PV)(y:PV):Prop:=∀(m:Nat) (z:PV),xs[m]? =some z->m≠n->z.flat=true\/∃ws,z= .lst ws/\PV.flats ws=true/\(ws=ys->y= .lst ys)
section
variable{Z:Ac->Prop}{H:Hp}{a:Ac}{us:List V}{ys:List PV}{o:HO}{y:PV}
theorem oR(ea:H a=some (.lst us)){v:V}{z:PV}(r:Rep (λ_=>False) H v z):Rep (λ_=>False) (b7 H a o) v z:=r.mono (λ_ h=>h) λb u h e=>by
 refine (aD λz=>?_).trans e
 subst z
 rw[ea] at e;cases e
 rcases h with h|h
 ·exact h
 ·cases h
theorem vK {vs:List V} {xs:List PV} (ea:H a=some (.lst us)) (za:Z a) (ra:Reps (λ_=>False) H us ys) (ro:Rep Z (b7 H a o) (.ref a) y) (r:Reps Z H vs xs) {n:Nat} (en:vs[n]? =some (.ref a)) (ok:a28 xs n ys y):Reps Z (b7 H a o) vs (xs.set n y):=⟨by rw[List.length_set];exact r.len,λm v z e1 e2=>by
 rw[List.getElem?_set] at e2
 by_cases hm:n=m
 ·subst hm
  rw[if_pos rfl] at e2
  rw[en] at e1
  cases e1
  split at e2
  ·cases e2;exact ro
  ·cases e2
 ·rw [if_neg hm] at e2
  have r1:=r.at_ m v z e1 e2
  rcases ok m z e2 (λh=>hm h.symm) with hf|⟨ws,rfl,fw,hy⟩
  ·exact (oR ea (r1.flat hf)).weak λ_ h=>h.elim
  ·obtain ⟨b,ts,rfl,zb,eb,rb⟩:=r1.ofList
   have rb':=flats_reps rb fw
   by_cases hb:b=a
   ·subst hb
    rw[ea] at eb
    cases eb
    have:=HZ rb' ra
    subst this
    rw[hy rfl] at ro
    exact ro
   ·exact .lst zb ((aD hb).trans eb) rb.len λi u q e1 e2=>(oR ea (rb'.at_ i u q e1 e2)).weak λ_ h=>h.elim⟩
end
section
variable{K:Aa}{md:List Md}{W0 W:Wd}{H0 H:Hp}{σ:St}{env:b5}{i n:Nat}{p a:Ac}{xs ys:List PV}{us:List V}{mk:List PV->PV}{o':HO}{y:PV}
theorem uG{u:PV}(e:H a=some (.lst us))(r:Rep (λ_=>False) H (.ref a) u):False:=by
 cases r with
 |set e'=>rw[e] at e';cases e'
 |tup e' _ _=>rw[e] at e';cases e'
 |lst g _ _ _=>exact g
 |dic g _ _ _ _=>exact g
theorem Rl.uput (R:Rl K md W0 H0 W σ env H) (hl:md.all (λm=>!m.lent)=true) (hi:md.getD i .no= .n) (hmk:mk=PV.lst\/mk=PV.tup) (ev:env[i]? =some (some (mk xs))) (sv:σ[i]? =some (some (.ref p))) (hz:xs[n]? =some (.lst ys)) (fl:PV.flats ys=true)
  (ip:∃vs,(H p=some (.lst vs)\/H p=some (.tup vs))/\vs[n]? =some (.ref a)) (za:W.Z a) (na:H0 a=none) (ea:H a=some (.lst us)) (ra:Reps (λ_=>False) H us ys) (b:Body (El.fl.G W.F H0) H o' y) (ok:a28 xs n ys y) :
  Rl K ((md.map Md.unN).set i .n) W0 H0 W σ (env.set i (some (mk (xs.set n y)))) (b7 H a o')/\Ex W H W (b7 H a o'):=by
 obtain⟨R3,x3⟩:=R.nput (o':=o') hl za na ea rfl (λ_ _ z=>by cases z)
 refine⟨?_,x3⟩
 have hil:i<md.length:=by
  refine Nat.lt_of_not_le λh=>?_
  rw[a0c,List.getElem?_eq_none h] at hi
  cases hi
 have hb:Body (λb=>W.Z b/\H0 b=none) (b7 H a o') o' y:=b.mono (λ_ h=>h.elim) λc u h e=>by
  refine (aD λz=>?_).trans e
  subst z
  rw[ea] at e;cases e
  rcases h with h|h
  ·exact h
  ·cases h
 have ro:=hb.rep (a:=a) ⟨za,na⟩ aU
 obtain⟨vs,hv,en⟩:=ip
 have hpa:p≠a:=λz=>by
  subst z
  rcases hv with hv|hv
  ·rw[ea] at hv;cases hv
   obtain⟨u,hu,ru⟩:=ra.getV en
   exact uG ea ru
  ·rw[ea] at hv;cases hv
 obtain⟨v2,sv2,rv2⟩:=R.slot i _ ev
 rw[sv] at sv2
 cases sv2
 rw[hi] at rv2
 have rv2:Rep (λb=>W.Z b/\H0 b=none) H (.ref p) (mk xs):=rv2
 have new:Rep (λb=>W.Z b/\H0 b=none) (b7 H a o') (.ref p) (mk (xs.set n y)):=by
  rcases hmk with rfl|rfl
  ·obtain ⟨p',vs',e1,g1,e2,r2⟩:=rv2.ofList
   cases e1
   rcases hv with hv|hv
   ·rw[hv] at e2;cases e2
    have r3:=vK ea (Z:=λb=>W.Z b/\H0 b=none) ⟨za,na⟩ ra ro r2 en ok
    exact .lst g1 ((aD hpa).trans hv) r3.len r3.at_
   ·rw[hv] at e2;cases e2
  ·obtain ⟨p',vs',e1,e2,r2⟩:=rv2.ofTup
   cases e1
   rcases hv with hv|hv
   ·rw[hv] at e2;cases e2
   ·rw[hv] at e2;cases e2
    have r3:=vK ea (Z:=λb=>W.Z b/\H0 b=none) ⟨za,na⟩ ra ro r2 en ok
    exact .tup ((aD hpa).trans hv) r3.len r3.at_
 have hm:fG ((md.map Md.unN).set i .n)=true:=by
  unfold fG
  rw[Bool.or_eq_true,List.all_eq_true,List.all_eq_true]
  refine .inl λm hm=>?_
  rcases List.mem_or_eq_of_mem_set hm with hm|rfl
  ·obtain⟨m',h1,rfl⟩:=List.mem_map.mp hm
   have:=List.all_eq_true.mp hl m' h1
   cases m'<;>first|exact this|rfl
  ·rfl
 have R4:=R3.set (Go.refl R3.ok) (m:=.n) (v:=.ref p) (x:=mk (xs.set n y)) new hm (by rw[a0f];exact hil)
 have hs:σ.set i (some (.ref p))=σ:=by
  refine List.ext_getElem? λj=>?_
  rw[List.getElem?_set]
  by_cases h:i=j
  ·subst h
   rw[if_pos rfl,if_pos (List.getElem?_eq_some_iff.mp sv).1];exact sv.symm
  ·rw[if_neg h]
 rw[hs] at R4
 exact R4
end
section
variable{X:Cx}{md lm:List Md}{rm:Md}{e j o:Expr}{es:List Expr}{pt:l6}{pj:aR}{p2 pos apos cpos:Pos}{i:Nat}{ms:List Md}{pm:PV->List PV->(PV->Prop)->Prop}{r:V->List V->Hp->VK->Prop}{id:String}{name:Str}
theorem YL {W:Wd} {H0 H:Hp} {v:V} {xs:List PV} {mk:List PV->PV} (hmk:mk=PV.lst\/mk=PV.tup) {n:Nat} {ys:List PV} (hz:xs[n]? =some (.lst ys)) (r:Rep (λb=>W.Z b/\H0 b=none) H v (mk xs)) :
  ∃(p:Ac) (vs:List V) (a:Ac) (us:List V),v= .ref p/\(H p=some (.lst vs)/\W.Z p\/H p=some (.tup vs))/\vs.length=xs.length/\vs[n]? =some (.ref a)/\(W.Z a/\H0 a=none)/\H a=some (.lst us)/\Reps (λb=>W.Z b/\H0 b=none) H us ys:=by
 rcases hmk with rfl|rfl
 ·obtain⟨p,vs,rfl,g,e,rs⟩:=r.ofList
  obtain⟨w,ew,rw'⟩:=rs.get hz
  obtain⟨a,us,rfl,ga,ea,ra⟩:=rw'.ofList
  exact⟨p,vs,a,us,rfl,.inl ⟨e,g.1⟩,rs.len,ew,ga,ea,ra⟩
 ·obtain⟨p,vs,rfl,e,rs⟩:=r.ofTup
  obtain⟨w,ew,rw'⟩:=rs.get hz
  obtain⟨a,us,rfl,ga,ea,ra⟩:=rw'.ofList
  exact⟨p,vs,a,us,rfl,.inr e,rs.len,ew,ga,ea,ra⟩
theorem SI {pr:l6} (h:VA X md es ms pr) (hm:ms.all (λm=>m.le (.v .fl)||m== .o .fl)=true) (hl:ms.length<=1000:=by decide):VE X md (.List es pos) .n (gY pr):=⟨(DC h.h).imp λσ H K=>by
 rintro⟨env,W0,H0,W,Q,R,q,k⟩
 refine⟨env,W0,H0,W,_,R,q,λxs vs W1 H1 g1 r1 q1=>⟨tV r1 hl,λp hp=>?_⟩⟩
 have hpn:H p=none:=g1.free hp
 have gl:=Go.laid (o:=.lst vs) g1.ok hp
 have g2:Go W H {W1 with Z:=λb=>W1.Z b\/b=p\/(H b=none/\¬W1.F b/\¬W1.S b/\∃o,H1 b=some o)} (b7 H1 p (.lst vs)):=
  ⟨λa h=>g1.lF a h,g1.lS,g1.nF,g1.nS,λa o e s=>gl.kp a o (g1.kp a o e s) (g1.nSS e s),⟨gl.ok.fF,gl.ok.sS,g1.ok.dj,λa h=>by
   rcases h with h|rfl|⟨_,_,_,o,h⟩
   ·exact gl.ok.zZ a h
   ·exact⟨_,aU⟩
   ·exact⟨o,(aD (bR h hp)).trans h⟩,λa h=>by
   rcases h with h|rfl|h
   ·exact g1.ok.zF a h
   ·exact λf=>g1.ok.offF hp f
   ·exact h.2.1,λa h=>by
   rcases h with h|rfl|h
   ·exact g1.ok.zS a h
   ·exact λf=>g1.ok.offS hp f
   ·exact h.2.2.1⟩,g1.kk,g1.kl,λa h=>.inl (g1.lZ a h),λa h=>by
   rcases h with h|rfl|h
   ·exact g1.nZ a h
   ·exact .inr hpn
   ·exact .inr h.1⟩
 refine k (.lst xs) (.ref p) _ _ g2 ?_ q1
 have keep:∀ {G:Ac->Prop} {v:V} {x:PV},Rep G H1 v x->Rep G (b7 H1 p (.lst vs)) v x:=λr=>r.mono (λ_ h=>h) λb u _ e=>(aD (bR e hp)).trans e
 have rs:Reps (λb=>(W1.Z b\/b=p\/(H b=none/\¬W1.F b/\¬W1.S b/\∃o,H1 b=some o))/\H0 b=none) H1 vs xs:=r1.reps λm v x hmem r=>by
  have:=List.all_eq_true.mp hm m hmem
  rcases Bool.or_eq_true _ _▸this with z|z
  ·have r2:Rep (λ_=>False) H1 v x:=ResE.le r g1.ok (n:=.v .fl) z
   exact r2.weak λ_ h=>h.elim
  ·rw[beq_iff_eq] at z
   subst z
   obtain⟨a,o,rfl,ow⟩:=r
   have ho:Rep (λb=>(W1.Z b\/b=p\/(H b=none/\¬W1.F b/\¬W1.S b/\∃o,H1 b=some o))/\H0 b=none) H1 (.ref a) x:=(ow.its.mono (λ_ h=>h.elim) λ_ _ _ e=>e).rep ⟨.inr (.inr ⟨ow.new,ow.nF,ow.nS,o,ow.at_⟩),R.go.free ow.new⟩ ow.at_
   exact ho
 exact .lst ⟨.inr (.inl rfl),R.go.free hpn⟩ aU rs.len λi v x e1 e2=>keep (rs.at_ i v x e1 e2)⟩
end
theorem MJ{X:Cx}:QM X "list.pop" MR:=⟨LD⟩
theorem yP{m n:Nat}(h:m<n):seqIndex? (m:Int) n=some m:=by
 unfold seqIndex?
 simp
 omega
def T8(xs:List PV)(n:Nat)(ys:List PV)(k:PV)(K:List PV->PV->Prop):Prop:=match k with
 |.int k=>∃(m:Nat) (z:PV),k=(m:Int)/\m<1000/\ys[m]? =some z/\a28 xs n ys (.lst (ys.eraseIdx m))/\K (xs.set n (.lst (ys.eraseIdx m))) z
 |_=>False
def LS (xs:List PV) (j:PV) (pk:aR) (env:b5) (K:List PV->PV->Prop):Prop:=match j with
 | .int j=>(match rZ xs.length j with
  | some n=>(match xs[n]? with
   |some (.lst ys)=>PV.flats ys=true/\pk env λk=>T8 xs n ys k K
   |_=>False)
  |none=>False)
 |_=>False
def nQ(a i:Nat)(pj pk:aR):bD:=λE env=>match lR env a,lR env i with
 |some (some (.lst zs)),some (some (.lst xs))=>zs.length<sizeLine/\pj env λj=>LS xs j pk env λxs' z=>E.nx (dO (dO env i (some (.lst xs'))) a (some (.lst (zs++[z]))))
 |_,_=>False
section
variable{X:Cx}{md lm:List Md}{rm:Md}{e j o xa:Expr}{pj pk:aR}{p2 pos apos cpos apos2 cpos2:Pos}{a i:Nat}
theorem IH (hl:md.all (λm=>!m.lent)=true) (hxa:QE X xa (eH a)) (hma:md.getD a .no= .o .fl) (hv:QE X o (eH i)) (hi:md.getD i .no= .n) (hj:VE X md j .bw pj) (hk:VE X md e .bw pk) (hp:∀o i,subscripted j false o i=operate [o,i] (getItem o i))
  (hsw:swapsWith (.Call (.Attribute xa "append" apos) [.Call (.Attribute (.Subscript o j p2) "pop" apos2) [e] [] cpos2] [] cpos) none pos.line X.env=pure false:=by rfl)
  (hb1:attributeBase xa "append" X.env (eval xa X.env)=eval xa X.env:=by rfl)
  (hb2:attributeBase (.Subscript o j p2) "pop" X.env (eval (.Subscript o j p2) X.env)=eval (.Subscript o j p2) X.env:=by rfl)
  (hf1:((backTo cpos (starEach [.Call (.Attribute (.Subscript o j p2) "pop" apos2) [e] [] cpos2] X.env)).all (λx=>!x.1)&&(backToKw cpos (keywordEach [] X.env)).all (λx=>x.1.isSome)
   &&decide (([.Call (.Attribute (.Subscript o j p2) "pop" apos2) [e] [] cpos2]:List Expr).length+([]:List Keyword).length+(if ([]:List Keyword).isEmpty then 0 else 1)<30))=true:=by rfl)
  (hf2:((backTo cpos2 (starEach [e] X.env)).all (λx=>!x.1)&&(backToKw cpos2 (keywordEach [] X.env)).all (λx=>x.1.isSome)
   &&decide (([e]:List Expr).length+([]:List Keyword).length+(if ([]:List Keyword).isEmpty then 0 else 1)<30))=true:=by rfl)
  (hl1:(apos.endLine==cpos.line)=true:=by rfl) (hl2:(apos2.endLine==cpos2.line)=true:=by rfl)
  (hs1:starEach [.Call (.Attribute (.Subscript o j p2) "pop" apos2) [e] [] cpos2] X.env=(false,eval (.Call (.Attribute (.Subscript o j p2) "pop" apos2) [e] [] cpos2) X.env)::starEach [] X.env:=by rfl)
  (hs2:starEach [e] X.env=(false,eval e X.env)::starEach [] X.env:=by rfl) (hp1:(backTo cpos (starEach [] X.env)).any (·.1)=false:=by rfl) (hp2:(backTo cpos2 (starEach [] X.env)).any (·.1)=false:=by rfl) :
  VS X md ((md.map Md.unN).set i .n) lm rm (.Expr (.Call (.Attribute xa "append" apos) [.Call (.Attribute (.Subscript o j p2) "pop" apos2) [e] [] cpos2] [] cpos) pos) (nQ a i pj pk):=
 ⟨(F3 (M0 PySem.F.plainAttrs_list PySem.F.slot_list_append PySem.F.type_list_append fH.h hxa.h (dP (M0 PySem.F.plainAttrs_list PySem.F.slot_list_pop PySem.F.type_list_pop MJ.h (EZ CQ hv.h hj.h hp) (dP hk.h gR hs2) hb2 hf2 hl2 hs2 hp2) gR hs1) hb1 hf1 hl1 hs1 hp1) hsw).imp λD σ H=>by
 rintro⟨env,W0,H0,W,E,R,q,l⟩
 have hai:a≠i:=λz=>by subst z;rw[hma] at hi;cases hi
 unfold nQ at q
 rw[iO,iO] at q
 obtain ⟨zs,xs,ea,ev,q⟩ : ∃zs xs,env[a]? =some (some (.lst zs))/\env[i]? =some (some (.lst xs))/\(zs.length<sizeLine/\pj env λj=>LS xs j pk env λxs' z=>E.nx (dO (dO env i (some (.lst xs'))) a (some (.lst (zs++[z]))))):=by
  split at q
  ·rename_i zs xs e1 e2
   exact⟨zs,xs,e1,e2,q⟩
  ·exact q.elim
 obtain⟨pa,ob,sa,oq⟩:=R.ownAt hma ea
 obtain⟨v,sv,rv⟩:=R.slot i _ ev
 refine⟨.ref pa,sa,LN oq.its oq.at_ (.inl ⟨_,rfl,rfl⟩),v,sv,env,W0,H0,W,_,R,q.2,λjv u W1 H1 g1 r1 q1=>?_⟩
 have r1:Rep (λa=>¬W1.S a) H1 u jv:=r1
 unfold LS at q1
 cases jv with
 | int k=>
  obtain rfl:=r1.ofInt
  dsimp only at q1
  cases hx:rZ xs.length k with
  |none=>rw[hx] at q1;exact q1.elim
  | some n=>
   rw[hx] at q1
   dsimp only at q1
   cases hz:xs[n]? with
   |none=>rw[hz] at q1;exact q1.elim
   | some z=>
    rw[hz] at q1
    cases z with
    | lst ys=>
     dsimp only at q1
     have R1:=R.step g1
     obtain⟨v1,sv1,rv1⟩:=R1.slot i _ ev
     rw[hi] at rv1
     rw[sv] at sv1
     cases sv1
     obtain⟨p,vs,b,us,rfl,hc,hlen,en,gb,eb,rb⟩:=YL (mk:=PV.lst) (.inl rfl) hz (show Rep (λb=>W1.Z b/\H0 b=none) H1 v (.lst xs) from rv1)
     have eat:iU vs k=some (.ref b):=by
      unfold iU
      rw[hlen,hx]
      exact en
     have go:∀(Kk:V->Hp->Prop),Kk (.ref b) H1->a3Q X.K (.ref p) (.int k) H1 Kk:=λKk h=>by
      rcases hc with ⟨hc,_⟩|hc
      ·exact .inl ⟨p,vs,k,.ref b,rfl,rfl,cS.of hc,eat,h⟩
      ·exact .inr (.inl ⟨p,vs,k,.ref b,rfl,rfl,d7.of hc,eat,h⟩)
     refine go _ ⟨.inl ⟨rfl,_,cS.of eb⟩,env,W0,H0,W1,_,R1,q1.2,λkv u2 W2 H2 g2 r2 q2=>?_⟩
     have r2:Rep (λa=>¬W2.S a) H2 u2 kv:=r2
     unfold T8 at q2
     cases kv with
     | int kk=>
      obtain rfl:=r2.ofInt
      obtain⟨m,z,rfl,m1,hm,uo,q3⟩:=q2
      have R2:=R1.step g2
      have z2:=g2.lZ b gb.1
      have e2:=g2.kp b _ eb (R1.ok.zS b gb.1)
      have rb2:Reps (λ_=>False) H2 us ys:=g2.reps R1.ok (λ_ h=>h.elim) (λ_ h=>h) (flats_reps rb q1.1)
      have hml:m<us.length:=by rw[rb2.len];exact (List.getElem?_eq_some_iff.mp hm).1
      obtain⟨w,hw,rw2⟩:=rb2.get hm
      refine⟨b,us,(m:Int),m,w,rfl,rfl,e2,by omega,by omega,yP hml,hw,?_⟩
      have ip:∃vs,(H2 p=some (.lst vs)\/H2 p=some (.tup vs))/\vs[n]? =some (.ref b):=by
       rcases hc with ⟨hc,zp⟩|hc
       ·exact⟨vs,.inl (g2.kp p _ hc (R1.ok.zS p zp)),en⟩
       ·exact⟨vs,.inr (g2.kp p _ hc (R1.ok.imm hc rfl)),en⟩
      obtain⟨R3,x3⟩:=R2.uput (mk:=PV.lst) (o':=.lst (us.eraseIdx m)) (y:=.lst (ys.eraseIdx m)) hl hi (.inl rfl) ev sv hz q1.1 ip z2 gb.2 e2 rb2 (.lst ((rb2.eraseIdx m).weak λ_ h=>h.elim)) uo
      have ma':((md.map Md.unN).set i .n).getD a .no= .o .fl:=by
       rw[cO,if_neg (λz=>hai z.1.symm),DU,hma];rfl
      have ea3:(env.set i (some (PV.lst (xs.set n (.lst (ys.eraseIdx m))))))[a]? =some (some (.lst zs)):=by
       rw[List.getElem?_set,if_neg (λz=>hai z.symm)];exact ea
      obtain⟨pa3,ob3,sa3,oq3⟩:=R3.ownAt ma' ea3
      rw[sa] at sa3
      cases sa3
      show qX (.ref pa) [w] (b7 H2 b (.lst (us.eraseIdx m))) λ_ H1=>D.nx σ H1
      refine d3.h (el:=.fl) H0 (b7 H2 b (.lst (us.eraseIdx m))) W2 _ pa ob3 (.lst zs) [w] [z] (λx'=>E.nx (dO (dO env i (some (.lst (xs.set n (.lst (ys.eraseIdx m)))))) a (some x'))) _ R3.ok oq3.at_ oq3.nF oq3.nS oq3.its (.cons (show Rep (El.fl.G W2.F H0) _ w z from oR e2 rw2) .nil) ⟨q.1,q3⟩ λo'' x'' v' im bd zz=>?_
      rw[dD,dD] at zz
      exact l.nx _ W2 σ _ (R3.put ma' ea3 sa bd im) ((((g1.ex R.ok).trans (g2.ex R1.ok)).trans x3).trans (yG (K:=X.K) (md:=(md.map Md.unN).set i .n) (W0:=W0) (σ:=σ) (env:=env) (i:=a) oq3)) zz
     |_=>exact q2.elim
    |_=>exact q1.elim
 |_=>exact q1.elim⟩
theorem TR {pe:aR} (h:VE X md e .n pe):VE X md e (.p .fl) (fS pe):=⟨h.h.imp λσ H K=>by
 rintro⟨env,W0,H0,W,Q,R,q,k⟩
 refine⟨env,W0,H0,W,_,R,q,λx v W' H' g r z=>?_⟩
 have r:Rep (λa=>W'.Z a/\H0 a=none) H' v x:=r
 cases x with
 | lst xs=>
  obtain⟨a,vs,rfl,ga,ea,ra⟩:=r.ofList
  exact k _ _ W' H' g (.inr ⟨a,_,rfl,g.ok.zS a ga.1,ea,.lst ((flats_reps ra z.1).weak λ_ h=>h.elim)⟩) z.2
 |_=>exact z.elim⟩
end
abbrev RD.pC(x:PV):aR:=λ_ Q=>Q x
abbrev RD.a9(i:Nat):aR:=λenv Q=>match lR env i with
 |some (some x)=>Q x
 |_=>False
abbrev RD.b9(r:P2)(a b:aR):aR:=λenv Q=>a env λx=>b env λy=>r x y Q
abbrev RD.LZ(r:PV->(PV->Prop)->Prop)(a:aR):aR:=λenv Q=>a env λx=>r x Q
abbrev RD.aG:l6:=λ_ Q=>Q []
abbrev RD.a8(a:aR)(r:l6):l6:=λenv Q=>a env λx=>r env λxs=>Q (x::xs)
abbrev RD.c8(r:PN)(a:l6):aR:=λenv Q=>a env λxs=>r xs Q
abbrev RD.mZ(a:aR):eS:=λenv Q=>a env λx=>match x with
 |.bl b=>Q b
 |_=>False
abbrev RD.sH(a b:aR):aR:=λenv Q=>a env λx=>match x with
 |.bl k=>Br k (b env Q) (Q (.bl false))
 |_=>False
abbrev RD.AV(a:aR):aR:=λenv Q=>a env λx=>match x with
 |.bl k=>Q (.bl (!k))
 |_=>False
abbrev RD.HV(a b:eS):eS:=λenv Q=>a env λk=>Br k (b env Q) (Q false)
abbrev RD.Z5(a b:eS):eS:=λenv Q=>a env λk=>Br k (Q true) (b env Q)
abbrev RD.DA(a:eS):eS:=λenv Q=>a env λk=>Q (!k)
abbrev RD.mJ(r r':P2)(a b c:aR):aR:=λenv Q=>a env λx=>b env λy=>r x y λz=>match z with
 |.bl k=>Br k (c env λw=>r' y w Q) (Q (.bl false))
 |_=>False
abbrev RD.lT(a:aR):aR:=λenv Q=>a env λx=>x.flat=true/\Q x
abbrev RD.fS(a:aR):aR:=λenv Q=>a env λx=>match x with
 |.lst xs=>PV.flats xs=true/\Q (.lst xs)
 |_=>False
abbrev RD.gY(a:l6):aR:=λenv Q=>a env λxs=>Q (.lst xs)
abbrev RD.jK(a:l6):aR:=λenv Q=>a env λxs=>Q (.tup xs)
abbrev RD.pI(C:Int->Int->Prop)(f:Int->Int->PV):P2:=λx y Q=>match x,y with
 |.int i,.int j=>C i j/\Q (f i j)
 |_,_=>False
abbrev RD.AR(f:Int->Int->PV):P2:=λx y Q=>match x,y with
 |.int i,.int j=>Q (f i j)
 |_,_=>False
abbrev RD.pU(f:Int->PV):PV->(PV->Prop)->Prop:=λx Q=>match x with
 |.int i=>Q (f i)
 |_=>False
abbrev RD.sG:P2:=λx y Q=>match x,y with
 |.str i,.str j=>i.length+j.length<=sizeLine/\Q (.str (i++j))
 |_,_=>False
abbrev RD.LP:P2:=λx y Q=>match y with
 |.non=>Q (.bl x.isNon)
 |_=>False
abbrev RD.sN:P2:=λx y Q=>match y with
 |.non=>Q (.bl (!x.isNon))
 |_=>False
abbrev RD.lC:IS:=λ_ Q=>Q none
abbrev RD.pQ(a:aR):IS:=λenv Q=>a env λx=>match x with
 |.int i=>Q (some i)
 |_=>False
abbrev RD.LW(x:PV)(lo hi:Option Int)(Q:PV->Prop):Prop:=match x with
 |.lst xs=>Q (.lst (zY xs lo hi))
 |_=>False
abbrev RD.LY(x:PV)(lo hi:Option Int)(Q:PV->Prop):Prop:=match x with
 |.tup xs=>¬(HT.sIx xs.length 0 lo=0/\HT.sIx xs.length xs.length hi=xs.length)/\Q (.tup (zY xs lo hi))
 |_=>False
abbrev RD.iP(r:PV->Option Int->Option Int->(PV->Prop)->Prop)(a:aR)(lo hi:IS):aR:=λenv Q=>a env λx=>lo env λl=>hi env λh=>r x l h Q
abbrev RD.y9:P2:=λx y Q=>match x,y with
 |.lst xs,.lst ys=>xs.length+ys.length<=sizeLine/\Q (.lst (xs++ys))
 |_,_=>False
abbrev RD.DB:P2:=λx y Q=>match x,y with
 |.lst xs,.int k=>-(2^63)<=k/\k<2^63/\xs.length*k.toNat<=sizeLine/\Q (.lst (List.replicate k.toNat xs).flatten)
 |_,_=>False
abbrev RD.mL:PN:=λxs Q=>match xs with
 |[.lst ys]=>Q (.int ys.length)
 |[.tup ys]=>Q (.int ys.length)
 |[.str s]=>s.length<=sizeLine/\Q (.int s.length)
 |_=>False
abbrev RD.nU:PN:=λxs Q=>match xs with
 |[.scr ns]=>Q (.int ns.length)
 |_=>False
abbrev RD.vP:PN:=λxs Q=>match xs with
 |[.int i,.int j]=>Q (.int (max i j))
 |_=>False
abbrev RD.vQ:PN:=λxs Q=>match xs with
 |[.int i,.int j]=>Q (.int (min i j))
 |_=>False
abbrev RD.lB:PN:=λxs Q=>match xs with
 |[.lst ys]=>Q (.lst ys)
 |[.tup ys]=>Q (.lst ys)
 |_=>False
abbrev RD.bK:bD:=λE env=>E.nx env
abbrev RD.aO(p q:bD):bD:=λE env=>p {E with nx:=q E} env
abbrev RD.mK(c:eS)(a b:bD):bD:=λE env=>c env λk=>Br k (a E env) (b E env)
abbrev RD.c6(a:aR):bD:=λE env=>a env E.rt
abbrev RD.bN(i:Nat)(a:aR):bD:=λE env=>a env λx=>E.nx (dO env i (some x))
abbrev RD.aF(i:Nat):hW:=λx env R=>R (dO env i (some x))
abbrev RD.eL:qG:=λxs env R=>match xs with
 |[]=>R env
 |_=>False
abbrev RD.aQ(g:hW)(u:qG):qG:=λxs env R=>match xs with
 |x::r=>g x env λenv'=>u r env' R
 |[]=>False
abbrev RD.cW(n:Nat)(g:qG):hW:=λx env R=>match x with
 |.tup xs=>xs.length=n/\g xs env R
 |_=>False
abbrev RD.uL(a:aR)(g:hW):bD:=λE env=>a env λx=>g x env E.nx
abbrev RD.eF(a:aR):lM:=λenv Q=>a env λx=>match x with
 |.lst xs=>Q xs
 |_=>False
abbrev RD.B0(a:aR):lM:=λenv Q=>a env λx=>match x with
 |.tup xs=>Q xs
 |_=>False
abbrev RD.fT(a:aR):lM:=λenv Q=>a env λx=>match x with
 |.int j=>-(2^62)<=j/\j<2^62/\Q (c4 0 j.toNat)
 |_=>False
abbrev RD.nR(s:lM)(g:hW)(b:bD):bD:=λE env=>s env λitems=>nT g b E items env
abbrev RD.Z7(T:String)(x:PV):Prop:=match x with
 |.lst _=>T="list"
 |.dic _ _=>T="dict"
 |_=>False
abbrev RD.gQ(T:String)(i:Nat)(pm:PV->List PV->(PV->Prop)->Prop)(t:l6):bD:=λE env=>match lR env i with
 |some (some x)=>RD.Z7 T x/\t env λys=>pm x ys λx'=>E.nx (dO env i (some x'))
 |_=>False
abbrev RD.dN:PV->List PV->(PV->Prop)->Prop:=λx ys R=>match x,ys with
 |.lst xs,[y]=>xs.length<sizeLine/\R (.lst (xs++[y]))
 |_,_=>False
abbrev RD.LU (i:Nat) (pe pj:aR):bD:=λE env=>pe env λy=>match lR env i with
 | some (some (.lst xs))=>pj env λj=>(match j with
  | .int k=>(match rZ xs.length k with
   |some n=>E.nx (dO env i (some (.lst (xs.set n y))))
   |none=>False)
  |_=>False)
 |_=>False
abbrev RD.qU(s:lM)(g:hW)(tt:eS)(te:aR)(cp:b5->b5):aR:=λenv Q=>s env λitems=>items.length<=sizeLine/\jI g tt te Q items [] (cp env)
abbrev RD.dM:eS:=λ_ Q=>Q true
abbrev RD.AU:P2:=RD.AR λi j=>.bl (!decide (i=j))
abbrev RD.eE:P2:=RD.AR λi j=>.int (i+j)
abbrev RD.kM:P2:=RD.AR λi j=>.int (i-j)
abbrev RD.AT:P2:=RD.pI wN λi j=>.int (i*j)
abbrev RD.vR:P2:=RD.pI uA λi j=>.int (i^j.toNat)
abbrev RD.LQ:P2:=RD.AR λi j=>.bl (decide (i<j))
abbrev RD.yA:P2:=RD.AR λi j=>.bl (decide (i<=j))
abbrev RD.AQ:P2:=RD.AR λi j=>.bl (decide (j<i))
abbrev RD.lU:PV->(PV->Prop)->Prop:=RD.pU λi=>.int (-i)
abbrev RD.sM(a:aR):aR:=λenv Q=>a env λx=>match x with
 |.int j=>0<=j/\j<=1000/\Q (.lst (c4 0 j.toNat))
 |_=>False
abbrev RD.sJ(te:aR):BU:=λacc env K=>te env λv=>match v with
 |.int i=>acc.length<63/\K (acc++[i]) env
 |_=>False
abbrev RD.AO(s:lM)(g:hW)(tt:eS)(a:BU):BU:=λacc env K=>s env λitems=>k9 g tt a K items acc env
abbrev RD.lD(s:lM)(g:hW)(tt:eS)(a:BU)(cp:b5->b5):aR:=λenv Q=>s env λitems=>k9 g tt a (λacc _=>Q (.lst ((aM acc).map PV.int))) items [] (cp env)
abbrev RD.kO(a:aR):lM:=λenv Q=>a env λx=>match x with
 |.lst xs=>Q (pK xs)
 |_=>False
abbrev RD.HW(i j:Nat)(pa:l6):bD:=λE env=>pa env λxs=>match xs with
 |[x,y]=>E.nx (dO (dO env i (some x)) j (some y))
 |_=>False
abbrev RD.LV(a k:aR):aR:=λenv Q=>a env λx=>k env λy=>match x,y with
 |.lst xs,.int i=>i=-1/\Q (.lst xs.reverse)
 |_,_=>False
abbrev RD.sY(a b:aR):lM:=λenv Q=>a env λx=>b env λy=>match x,y with
 |.lst xs,.lst ys=>Q (uV xs ys)
 |_,_=>False
abbrev RD.LR(a b:aR):aR:=λenv Q=>a env λx=>match x with
 |.lst xs=>Br (!xs.isEmpty) (Q (.lst xs)) (b env Q)
 |_=>False
abbrev RD.jJ (i:Nat) (y:PV) (pj:aR) (Kp:b5->Prop) (env:b5):Prop:=match lR env i with
 | some (some (.lst xs))=>pj env λj=>(match j with
  | .int k=>(match rZ xs.length k with
   |some n=>Kp (dO env i (some (.lst (xs.set n y))))
   |none=>False)
  |_=>False)
 |_=>False
abbrev RD.vS(i i':Nat)(pe pj pj':aR):bD:=λE env=>pe env λt=>match t with
 |.tup [y,z]=>RD.jJ i y pj (λenv1=>RD.jJ i' z pj' E.nx env1) env
 |_=>False
abbrev RD.Z4(s:lM)(g:hW)(tt:eS)(tk tv:aR)(cp:b5->b5):aR:=λenv Q=>s env λitems=>uM g tt tk tv Q items [] [] (cp env)
abbrev RD.kL(a b:aR):aR:=λenv Q=>a env λx=>i6 32 x λns=>b env λy=>i6 32 y λms=>Q (.lst ((aM (lK ns ms)).map PV.int))
abbrev RD.LO(pr:List PV->PV->(PV->Prop)->Prop)(a:l6)(d:aR):aR:=λenv Q=>a env λxs=>d env λz=>pr xs z Q
abbrev RD.LX(x:PV)(lo hi:Option Int)(Q:PV->Prop):Prop:=match x with
 |.str z=>z.length<=sizeLine/\Q (.str (Txt.slice z lo hi))
 |_=>False
theorem a2G:@RD.pC= @pC:=rfl
theorem V5:@RD.a9= @a9:=rfl
theorem ZT:@RD.b9= @b9:=rfl
theorem ZV:@RD.LZ= @LZ:=rfl
theorem UR:@RD.aG= @aG:=rfl
theorem OZ:@RD.a8= @a8:=rfl
theorem ZP:@RD.c8= @c8:=rfl
theorem ZO:@RD.mZ= @mZ:=rfl
theorem OY:@RD.sH= @sH:=rfl
theorem P9:@RD.AV= @AV:=rfl
theorem UE:@RD.HV= @HV:=rfl
theorem ZU:@RD.Z5= @Z5:=rfl
theorem US:@RD.DA= @DA:=rfl
theorem K0:@RD.mJ= @mJ:=rfl
theorem P1:@RD.lT= @lT:=rfl
theorem K2:@RD.fS= @fS:=rfl
theorem UO:@RD.gY= @gY:=rfl
theorem V4:@RD.jK= @jK:=rfl
theorem a2H:@RD.pI= @pI:=rfl
theorem ZR:@RD.AR= @AR:=rfl
theorem a2I:@RD.pU= @pU:=rfl
theorem OX:@RD.sG= @sG:=rfl
theorem UL:@RD.LP= @LP:=rfl
theorem P8:@RD.sN= @sN:=rfl
theorem GQ:@RD.lC= @lC:=rfl
theorem PD:@RD.pQ= @pQ:=rfl
theorem V1:@RD.LW= @LW:=rfl
theorem V3:@RD.LY= @LY:=rfl
theorem K6:@RD.iP= @iP:=rfl
theorem UG:@RD.y9= @y9:=rfl
theorem UW:@RD.DB= @DB:=rfl
theorem UN:@RD.mL= @mL:=rfl
theorem GO:@RD.nU= @nU:=rfl
theorem P3:@RD.vP= @vP:=rfl
theorem P4:@RD.vQ= @vQ:=rfl
theorem GP:@RD.lB= @lB:=rfl
theorem P7:@RD.bK= @bK:=rfl
theorem UZ:@RD.aO= @aO:=rfl
theorem UK:@RD.mK= @mK:=rfl
theorem UX:@RD.c6= @c6:=rfl
theorem V0:@RD.bN= @bN:=rfl
theorem K8:@RD.aF= @aF:=rfl
theorem PM:@RD.eL= @eL:=rfl
theorem K7:@RD.aQ= @aQ:=rfl
theorem PP:@RD.cW= @cW:=rfl
theorem UF:@RD.uL= @uL:=rfl
theorem PQ:@RD.eF= @eF:=rfl
theorem PR:@RD.B0= @B0:=rfl
theorem KA:@RD.fT= @fT:=rfl
theorem UI:@RD.nR= @nR:=rfl
theorem ZW:@RD.Z7= @Z7:=rfl
theorem K4:@RD.gQ= @gQ:=rfl
theorem CI:@RD.dN= @dN:=rfl
theorem UV:@RD.LU= @LU:=rfl
theorem ZS:@RD.qU= @qU:=rfl
theorem PL:@RD.dM= @dM:=rfl
theorem UQ:@RD.AU= @AU:=rfl
theorem OW:@RD.eE= @eE:=rfl
theorem PJ:@RD.kM= @kM:=rfl
theorem P5:@RD.AT= @AT:=rfl
theorem PF:@RD.vR= @vR:=rfl
theorem UP:@RD.LQ= @LQ:=rfl
theorem UM:@RD.yA= @yA:=rfl
theorem UJ:@RD.AQ= @AQ:=rfl
theorem P6:@RD.lU= @lU:=rfl
theorem K3:@RD.sM= @sM:=rfl
theorem K1:@RD.sJ= @sJ:=rfl
theorem P0:@RD.AO= @AO:=rfl
theorem GR:@RD.lD= @lD:=rfl
theorem K9:@RD.kO= @kO:=rfl
theorem UU:@RD.HW= @HW:=rfl
theorem UY:@RD.LV= @LV:=rfl
theorem PU:@RD.sY= @sY:=rfl
theorem UT:@RD.LR= @LR:=rfl
theorem K5:@RD.jJ= @jJ:=rfl
theorem PH:@RD.vS= @vS:=rfl
theorem ZQ:@RD.Z4= @Z4:=rfl
theorem CH:@RD.kL= @kL:=rfl
theorem UH:@RD.LO= @LO:=rfl
theorem V2:@RD.LX= @LX:=rfl
structure NV(N:List Str)(nm:Str)(st:Stmt)(x:Str)(i:Nat):Prop where
 lo:FV (aA st) x
 h:∀ {P:Program} {w:World} {K:Aa} {mg:Str->Option Value} {base:Heap} {f:Ac} {cdv:Value} {A:Around} {outer:List Env} {s:Ab} {H:Hp} {E:XK} {pos:Pos},QE (cT jA P w K mg base N nm (aA st) f cdv A outer s H E).nox (.Name x pos) (eH i)
theorem T6{N:List Str}{nm:Str}{st:Stmt}{x:Str}{i:Nat}(lo:FV (aA st) x)(h1:N[i]? =some x)(h2:(x==("__debug__" : Str))=false)(h3:(x==("__classdict__" : Str))=false):NV N nm st x i:=⟨lo,MF h1 (lo.elim Or.inl (λz=>Or.inr (Or.inl z))) h2 h3⟩
structure NVs(N:List Str)(st:Stmt):Prop where
 h:∀x∈N,((aA st).names.lookup x=some NameKind.local\/(aA st).names.lookup x=some NameKind.cell)/\(x==("__debug__" : Str))=false/\(x==("__classdict__" : Str))=false
theorem NVs.nv{N:List Str}{nm:Str}{st:Stmt}{x:Str}{i:Nat}(s:NVs N st)(e:N[i]? =some x):NV N nm st x i:=T6 (s.h x (List.mem_of_getElem? e)).1 e (s.h x (List.mem_of_getElem? e)).2.1 (s.h x (List.mem_of_getElem? e)).2.2
theorem VC{N P:List Str}{sc:Scope}(a:sc.kind= .function)(b:sc.isCoroutine=false)(c:sc.isGenerator=false)(d:N.take P.length=P)(h:N.Nodup/\(∀x∈P,sc.names.lookup x=some .local\/sc.names.lookup x=some .cell)/\∀y∈sc.names,y.2≠ .free):FnScope N P sc:=⟨a,b,c,h.1,d,h.2.1,h.2.2⟩
abbrev GL(st:Stmt)(x:String):Prop:=(aA st).names.lookup (Str.ofString x)=some NameKind.globalImplicit
structure DfA(K:PySem.W.Frag)(x:Str)(st:Stmt):Prop where
 ex:∃(f:Ac) (oc:Value) (od an:Option Ac) (osl:Array (Option Value)) (kV doc pm cdv ct:Value),PySem.W.nsIn K mainGlobals x=some (some (.ref f))/\K.lookup f=some ⟨oc,od,.func (PySem.W.fnOf x x (cV st) (bG st) (aA st) .none kV doc pm an cdv ct),osl⟩/\PySem.W.codeIn K cdv x=true/\PySem.W.keepIn K (.ref f)=true
theorem UA {K:PySem.W.Frag} {x:Str} {st:Stmt} {f:Addr} {oc:Value} {od an:Option Addr} {osl:Array (Option Value)} {kV doc pm cdv ct:Value} (a:PySem.W.nsIn K mainGlobals x=some (some (.ref f)))
  (l:K.lookup f=some ⟨oc,od,.func (PySem.W.fnOf x x (cV st) (bG st) (aA st) .none kV doc pm an cdv ct),osl⟩) (c:PySem.W.codeIn K cdv x=true) (k:PySem.W.keepIn K (.ref f)=true):DfA K x st:=⟨⟨f,oc,od,an,osl,kV,doc,pm,cdv,ct,a,l,c,k⟩⟩
theorem DfA.df{K:PySem.W.Frag}{h:Heap}{mg:Str->Option Value}{x:Str}{st:Stmt}(D:DfA K x st)(X:K.In h)(G:h.Ns mainGlobals mg):Df K mg x st:=by
 obtain⟨f,oc,od,an,osl,kV,doc,pm,cdv,ct,a,l,c,k⟩:=D.ex
 exact ZM X G a l c k
theorem qS{N N':List Str}{osc scope:Scope}{n:Nat}{cap:List Nat}(k:scope.kind= .function)(l:N'.length=n+cap.length)(h:(∀y∈scope.names,y.2≠ .cell)/\(∀y∈scope.names,y.2= .local->scope.names.lookup y.1=some .local)/\(∀y∈scope.names,y.2= .free->osc.names.lookup y.1=some .cell)/\(N'.drop n=cap.map λi=>N.getD i Str.empty)/\(∀i∈cap,i<N.length)/\∀x∈N'.drop n,scope.names.lookup x=some NameKind.free):LcOk N osc scope N' n cap:=⟨k,h.1,h.2.1,h.2.2.1,h.2.2.2.1,h.2.2.2.2.1,h.2.2.2.2.2,l⟩
theorem a2R{f:FuncData}{ps:List Str}:∀ {us:List Value},us.length=1->(∀a:Value,bindArgs f ⟨[a],[]⟩=pure (ps.zip [a]))->bindArgs f ⟨us,[]⟩=pure (ps.zip us)
 |[a],_,k=>k a
theorem WD{f:FuncData}{ps:List Str}:∀ {us:List Value},us.length=2->(∀a b:Value,bindArgs f ⟨[a,b],[]⟩=pure (ps.zip [a,b]))->bindArgs f ⟨us,[]⟩=pure (ps.zip us)
 |[a,b],_,k=>k a b
theorem a2S{f:FuncData}{ps:List Str}:∀ {us:List Value},us.length=3->(∀a b c:Value,bindArgs f ⟨[a,b,c],[]⟩=pure (ps.zip [a,b,c]))->bindArgs f ⟨us,[]⟩=pure (ps.zip us)
 |[a,b,c],_,k=>k a b c
theorem a2T{f:FuncData}{ps:List Str}:∀ {us:List Value},us.length=4->(∀a b c d:Value,bindArgs f ⟨[a,b,c,d],[]⟩=pure (ps.zip [a,b,c,d]))->bindArgs f ⟨us,[]⟩=pure (ps.zip us)
 |[a,b,c,d],_,k=>k a b c d
abbrev SS(st:PV->b5)(rn:(PV->Prop)->Prop)(r:bD):PN:=λxs R=>match xs with
 |[a0]=>r {nx:=λ_=>rn R,rt:=R} (st a0)
 |_=>False
theorem UC {N:List Str} {rm:Md} {st:PV->b5} {rn:(PV->Prop)->Prop} {r p:bD} (e:r=p) (hs:∀a0,st a0=cY N [a0]:=by (intros;rfl)) (hr:∀R,rn R=iZ rm R:=by (intro _;rfl)):∀xs R,SS st rn r xs R->p {nx:=λ_=>iZ rm R,rt:=R} (cY N xs):=λxs R h=>by
 match xs,h with
 | [a0],h=>
  subst e
  have h2:r {nx:=λ_=>rn R,rt:=R} (st a0):=h
  rw[hs,show (λ_:b5=>rn R)=λ_=>iZ rm R from funext λ_=>hr R] at h2
  exact h2
abbrev A1(st:PV->PV->b5)(rn:(PV->Prop)->Prop)(r:bD):PN:=λxs R=>match xs with
 |[a0,a1]=>r {nx:=λ_=>rn R,rt:=R} (st a0 a1)
 |_=>False
theorem BV {N:List Str} {rm:Md} {st:PV->PV->b5} {rn:(PV->Prop)->Prop} {r p:bD} (e:r=p) (hs:∀a0 a1,st a0 a1=cY N [a0,a1]:=by (intros;rfl)) (hr:∀R,rn R=iZ rm R:=by (intro _;rfl)):∀xs R,A1 st rn r xs R->p {nx:=λ_=>iZ rm R,rt:=R} (cY N xs):=λxs R h=>by
 match xs,h with
 | [a0,a1],h=>
  subst e
  have h2:r {nx:=λ_=>rn R,rt:=R} (st a0 a1):=h
  rw[hs,show (λ_:b5=>rn R)=λ_=>iZ rm R from funext λ_=>hr R] at h2
  exact h2
abbrev SU(st:PV->PV->PV->b5)(rn:(PV->Prop)->Prop)(r:bD):PN:=λxs R=>match xs with
 |[a0,a1,a2]=>r {nx:=λ_=>rn R,rt:=R} (st a0 a1 a2)
 |_=>False
theorem UD {N:List Str} {rm:Md} {st:PV->PV->PV->b5} {rn:(PV->Prop)->Prop} {r p:bD} (e:r=p) (hs:∀a0 a1 a2,st a0 a1 a2=cY N [a0,a1,a2]:=by (intros;rfl)) (hr:∀R,rn R=iZ rm R:=by (intro _;rfl)):∀xs R,SU st rn r xs R->p {nx:=λ_=>iZ rm R,rt:=R} (cY N xs):=λxs R h=>by
 match xs,h with
 | [a0,a1,a2],h=>
  subst e
  have h2:r {nx:=λ_=>rn R,rt:=R} (st a0 a1 a2):=h
  rw[hs,show (λ_:b5=>rn R)=λ_=>iZ rm R from funext λ_=>hr R] at h2
  exact h2
abbrev a2F(st:PV->PV->PV->PV->b5)(rn:(PV->Prop)->Prop)(r:bD):PN:=λxs R=>match xs with
 |[a0,a1,a2,a3]=>r {nx:=λ_=>rn R,rt:=R} (st a0 a1 a2 a3)
 |_=>False
theorem a3L {N:List Str} {rm:Md} {st:PV->PV->PV->PV->b5} {rn:(PV->Prop)->Prop} {r p:bD} (e:r=p) (hs:∀a0 a1 a2 a3,st a0 a1 a2 a3=cY N [a0,a1,a2,a3]:=by (intros;rfl)) (hr:∀R,rn R=iZ rm R:=by (intro _;rfl)):∀xs R,a2F st rn r xs R->p {nx:=λ_=>iZ rm R,rt:=R} (cY N xs):=λxs R h=>by
 match xs,h with
 | [a0,a1,a2,a3],h=>
  subst e
  have h2:r {nx:=λ_=>rn R,rt:=R} (st a0 a1 a2 a3):=h
  rw[hs,show (λ_:b5=>rn R)=λ_=>iZ rm R from funext λ_=>hr R] at h2
  exact h2
abbrev l5(k:Nat)(x:Str)(ps:List Str)(ms:List Md)(rm:Md)(d:PN)(P:Program)(w:World)(K:Aa)(mg:Str->Option Value)(base:Heap):Prop:=Cal P w K mg base k x ps (NR K ms rm d)
structure SN(N ps:List Str)(st:Stmt):Prop where
 s:FnScope N ps (aA st)
 n:NVs N st
theorem bM {N P:List Str} {st:Stmt} (h1:(aA st).kind= .function:=by rfl) (h2:(aA st).isCoroutine=false:=by rfl) (h3:(aA st).isGenerator=false:=by rfl) (h4:N.take P.length=P:=by rfl)
  (h5:N.Nodup/\(∀x∈P,(aA st).names.lookup x=some .local\/(aA st).names.lookup x=some .cell)/\∀y∈(aA st).names,y.2≠ .free:=by decide+kernel)
  (h6:∀x∈N,((aA st).names.lookup x=some NameKind.local\/(aA st).names.lookup x=some NameKind.cell)/\(x==("__debug__" : Str))=false/\(x==("__classdict__" : Str))=false:=by decide+kernel):SN N P st:=⟨VC h1 h2 h3 h4 h5,⟨h6⟩⟩
def Md.lendb:Md->Bool
 |.no=>false
 |.st=>false
 |.scr=>false
 |_=>true
def Md.peekb(el:El):Md->Bool
 |.v e=>e.le el
 |.o e=>e.le el
 |.z e=>e.le el
 |.p e=>e.le el
 |.c e=>e.le el
 |_=>false
section
variable{X:Cx}{md:List Md}{e:Expr}{i:Nat}
theorem NJ(h:QE X e (eH i))(hm:(md.getD i .no).lendb=true):VE X md e .bw (a9 i):=by
 cases hmd:md.getD i .no with
 |o el=>exact eG (m:=.p el) (z9 h hmd) rfl
 |no=>rw[hmd] at hm;cases hm
 |st=>rw[hmd] at hm;cases hm
 |scr=>rw[hmd] at hm;cases hm
 |_=>exact eG (bS h hmd rfl) rfl
theorem a1P(el:El)(h:QE X e (eH i))(hm:(md.getD i .no).peekb el=true):VE X md e (.p el) (a9 i):=by
 cases hmd:md.getD i .no with
 |o k=>exact eG (m:=.p k) (z9 h hmd) (by rw[hmd] at hm;exact hm)
 |no=>rw[hmd] at hm;cases hm
 |st=>rw[hmd] at hm;cases hm
 |scr=>rw[hmd] at hm;cases hm
 |bw=>rw[hmd] at hm;cases hm
 |_=>exact eG (bS h hmd rfl) (by rw[hmd] at hm;exact hm)
end
section
variable{P:Program}{w:World}{K:Aa}{mg:Str->Option Value}{base:Heap}{N ps:List Str}{nm:Str}{st:Stmt}{f:Ac}{cdv:Value}{A:Around}{outer:List Env}{s:Ab}{H:Hp}{E:XK}{md lm:List Md}{m rm:Md}{el:El}{x:Str}{i:Nat}{pos pos':Pos}{a:Expr}{pe:aR}
theorem vb(z:SN N ps st)(e:N[i]? =some x:=by rfl)(hm:(md.getD i .no).lendb=true:=by rfl):VE (cT jA P w K mg base N nm (aA st) f cdv A outer s H E).nox md (.Name x pos) .bw (a9 i):=NJ (z.n.nv e).h hm
theorem vp(el:El)(z:SN N ps st)(e:N[i]? =some x:=by rfl)(hm:(md.getD i .no).peekb el=true:=by rfl):VE (cT jA P w K mg base N nm (aA st) f cdv A outer s H E).nox md (.Name x pos) (.p el) (a9 i):=a1P el (z.n.nv e).h hm
theorem vr(m:Md)(z:SN N ps st)(e:N[i]? =some x:=by rfl)(hm:md.getD i .no=m:=by rfl)(hl:m.own=false:=by rfl):VE (cT jA P w K mg base N nm (aA st) f cdv A outer s H E).nox md (.Name x pos) m (a9 i):=bS (z.n.nv e).h hm hl
theorem vk(el:El)(z:SN N ps st)(e:N[i]? =some x:=by rfl)(hm:md.getD i .no= .o el:=by rfl):VE (cT jA P w K mg base N nm (aA st) f cdv A outer s H E).nox md (.Name x pos) (.p el) (a9 i):=z9 (z.n.nv e).h hm
theorem qn(z:SN N ps st)(e:N[i]? =some x:=by rfl):QE (cT jA P w K mg base N nm (aA st) f cdv A outer s H E).nox (.Name x pos) (eH i):=(z.n.nv e).h
theorem ln(z:SN N ps st)(i:Nat)(e:N[i]? =some x:=by rfl):FV (aA st) x:=(z.n.nv (nm:=x) e).lo
theorem gn(i:Nat)(z:SN N ps st)(e:N[i]? =some x:=by rfl)(hm:fG (md.set i (.v el))=true:=by rfl)(hl:i<md.length:=by decide):VG (cT jA P w K mg base N nm (aA st) f cdv A outer s H E).nox md (md.set i (.v el)) el (.Name x pos) (aF i):=SJ z.s.nd e (ln z i e) (.inl rfl) hm hl
theorem kY(i:Nat)(z:SN N ps st)(he:VE (cT jA P w K mg base N nm (aA st) f cdv A outer s H E).nox md a m pe)(e:N[i]? =some x:=by rfl)(hs:swapsWith a (some (.Name x pos')) pos.line (cT jA P w K mg base N nm (aA st) f cdv A outer s H E).nox.env=pure false:=by rfl)(hm:fG (md.set i m)=true:=by rfl)(hl:i<md.length:=by decide):VS (cT jA P w K mg base N nm (aA st) f cdv A outer s H E).nox md (md.set i m) lm rm (.Assign [.Name x pos'] a pos) (bN i pe):=Z1 z.s.nd e (ln z i e) hs (.inl rfl) he hm hl
theorem gD(h:(aA st).names.lookup x=some .globalImplicit:=by decide+kernel):(cT jA P w K mg base N nm (aA st) f cdv A outer s H E).nox.env.scope.names.lookup x=some .globalImplicit:=h
theorem cD(h:(aA st).names.lookup x=some .cell:=by decide+kernel):(cT jA P w K mg base N nm (aA st) f cdv A outer s H E).nox.env.scope.names.lookup x=some .cell:=h
end
section
variable{X:Cx}{N':List Str}{scope:Scope}{C:Ac}{s1:Ab}{H1:Hp}{fp:List Ac}{i:Nat}{x:Str}{pos:Pos}{md:List Md}{m:Md}{el:El}
theorem gL(h:scope.names.lookup x=some .globalImplicit:=by decide+kernel):(aS X N' scope C s1 H1 fp).env.scope.names.lookup x=some .globalImplicit:=a0R h
theorem qo(hi:N'[i]? =some x:=by rfl)(h:scope.names.lookup x=some .local:=by decide+kernel)(hd:(x==("__debug__" : Str))=false:=by decide+kernel)(hcd:(x==("__classdict__" : Str))=false:=by decide+kernel):QE (aS X N' scope C s1 H1 fp) (.Name x pos) (eH i):=MI hi h hd hcd
theorem qk(ho:X.env.scope.names.lookup x=some .cell)(hi:N'[i]? =some x:=by rfl)(h:scope.names.lookup x=some .free:=by decide+kernel)(hk:X.env.scope.kind= .function:=by rfl)(hd:(x==("__debug__" : Str))=false:=by decide+kernel)(hcd:(x==("__classdict__" : Str))=false:=by decide+kernel):QE (aS X N' scope C s1 H1 fp) (.Name x pos) (eH i):=MG hi h hk ho hd hcd
theorem bo(hi:N'[i]? =some x:=by rfl)(h:scope.names.lookup x=some .local:=by decide+kernel)(hd:(x==("__debug__" : Str))=false:=by decide+kernel)(hcd:(x==("__classdict__" : Str))=false:=by decide+kernel)(hm:(md.getD i .no).lendb=true:=by rfl):VE (aS X N' scope C s1 H1 fp) md (.Name x pos) .bw (a9 i):=NJ (MI hi h hd hcd) hm
theorem bk(ho:X.env.scope.names.lookup x=some .cell)(hi:N'[i]? =some x:=by rfl)(h:scope.names.lookup x=some .free:=by decide+kernel)(hk:X.env.scope.kind= .function:=by rfl)(hd:(x==("__debug__" : Str))=false:=by decide+kernel)(hcd:(x==("__classdict__" : Str))=false:=by decide+kernel)(hm:(md.getD i .no).lendb=true:=by rfl):VE (aS X N' scope C s1 H1 fp) md (.Name x pos) .bw (a9 i):=NJ (MG hi h hk ho hd hcd) hm
theorem gq(i:Nat)(hN:N'.Nodup:=by decide+kernel)(hi:N'[i]? =some x:=by rfl)(h:scope.names.lookup x=some .local:=by decide+kernel)(hm:fG (md.set i (.v el))=true:=by rfl)(hl:i<md.length:=by decide):VG (aS X N' scope C s1 H1 fp) md (md.set i (.v el)) el (.Name x pos) (aF i):=NM (a0S hN hi h) hm hl
end
section
variable{X:Cx}{md:List Md}{e:Expr}{es:List Expr}{pt:l6}{p pos:Pos}{k n:Nat}{x:Str}{ps:List Str}{ms:List Md}{m rm:Md}{pn:PN}
theorem fW (hr:Room n X.A) (C:Cal X.prog X.w X.K X.mg X.base k x ps (NR X.K ms rm pn)) (ha:VA X md (e::es) ms pt) (hg:X.env.scope.names.lookup x=some .globalImplicit) (hk:k<=n:=by decide) (hm:ms.all lN=true:=by rfl) (hrm:oA rm=true:=by rfl)
  (hdb:(x==("__debug__" : Str))=false:=by decide+kernel) (he:starEach (e::es) X.env=(false,eval e X.env)::starEach es X.env:=by rfl) (hpl:(backTo pos (starEach es X.env)).any (·.1)=false:=by rfl):VE X md (.Call (.Name x p) (e::es) [] pos) rm (c8 pn pt):=YR C (hr.mono hk) hm hrm ha hg hdb he hpl
end
section
variable{P:Program}{w:World}{K:PySem.W.Frag}{mg:Str->Option Value}{base:Heap}{N ps:List Str}{nm:Str}{st:Stmt}{f:Addr}{cdv:Value}{A:Around}{outer:List Env}{s:Shared}{H:Hp}{E:XK}{md lm:List Md}{rm:Md}{el eli:El}{x:Str}{pos pos' pos2:Pos}
 {elt target iter:Expr} {ifs:List Expr} {scope:Scope} {si:lM} {g:hW} {tt:eS} {te:aR} {cp:b5->b5}
theorem NO (N':List Str) (n:Nat) (cap:List Nat) (mb:List Md) (hi:VI (cT jA P w K mg base N nm (aA st) f cdv A outer s H E).nox md eli target iter si) (hg:∀C s1 H1 fp,VG (aS (cT jA P w K mg base N nm (aA st) f cdv A outer s H E).nox N' scope C s1 H1 fp) (fE n cap md) mb eli target g) (ht:∀C s1 H1 fp,VTs (aS (cT jA P w K mg base N nm (aA st) f cdv A outer s H E).nox N' scope C s1 H1 fp) mb ifs tt) (he:∀C s1 H1 fp,VE (aS (cT jA P w K mg base N nm (aA st) f cdv A outer s H E).nox N' scope C s1 H1 fp) mb elt (.v el) te)
  (hcp:∀env,cp env=oW n cap env:=by intro _;rfl) (h1:scope.kind= .function:=by rfl) (h2:N'.length=n+cap.length:=by rfl)
  (h3:(∀y∈scope.names,y.2≠ .cell)/\(∀y∈scope.names,y.2= .local->scope.names.lookup y.1=some .local)/\(∀y∈scope.names,y.2= .free->(aA st).names.lookup y.1=some .cell)/\(N'.drop n=cap.map λi=>N.getD i Str.empty)/\(∀i∈cap,i<N.length)/\∀x∈N'.drop n,scope.names.lookup x=some NameKind.free:=by decide+kernel)
  (hle:iN mb (fE n cap md)=true:=by rfl) (hbl:jT mb=true:=by rfl) (hs:∀x,foldedSetIterable iter (cT jA P w K mg base N nm (aA st) f cdv A outer s H E).nox.env x=pure x:=by intro _;rfl) :
  VE (cT jA P w K mg base N nm (aA st) f cdv A outer s H E).nox md (.ListComp elt [⟨target,iter,ifs,0⟩] scope pos) (.o el) (qU si g tt te cp):=a1N hcp rfl (qS (osc:=aA st) h1 h2 h3) hle hbl hi hg ht he hs
theorem a18 (i:Nat) (z:SN N ps st) (N':List Str) (n:Nat) (cap:List Nat) (mb:List Md) (hi:VI (cT jA P w K mg base N nm (aA st) f cdv A outer s H E).nox md eli target iter si) (hg:∀C s1 H1 fp,VG (aS (cT jA P w K mg base N nm (aA st) f cdv A outer s H E).nox N' scope C s1 H1 fp) (fE n cap md) mb eli target g) (ht:∀C s1 H1 fp,VTs (aS (cT jA P w K mg base N nm (aA st) f cdv A outer s H E).nox N' scope C s1 H1 fp) mb ifs tt) (he:∀C s1 H1 fp,VE (aS (cT jA P w K mg base N nm (aA st) f cdv A outer s H E).nox N' scope C s1 H1 fp) mb elt (.v el) te)
  (e:N[i]? =some x:=by rfl) (hsw:swapsWith (.ListComp elt [⟨target,iter,ifs,0⟩] scope pos) (some (.Name x pos')) pos2.line (cT jA P w K mg base N nm (aA st) f cdv A outer s H E).nox.env=pure true:=by rfl) (hm:fG (md.set i (.o el))=true:=by rfl) (hl:i<md.length:=by decide)
  (hcp:∀env,cp env=oW n cap env:=by intro _;rfl) (h1:scope.kind= .function:=by rfl) (h2:N'.length=n+cap.length:=by rfl)
  (h3:(∀y∈scope.names,y.2≠ .cell)/\(∀y∈scope.names,y.2= .local->scope.names.lookup y.1=some .local)/\(∀y∈scope.names,y.2= .free->(aA st).names.lookup y.1=some .cell)/\(N'.drop n=cap.map λi=>N.getD i Str.empty)/\(∀i∈cap,i<N.length)/\∀x∈N'.drop n,scope.names.lookup x=some NameKind.free:=by decide+kernel)
  (hle:iN mb (fE n cap md)=true:=by rfl) (hbl:jT mb=true:=by rfl) (hs:∀x,foldedSetIterable iter (cT jA P w K mg base N nm (aA st) f cdv A outer s H E).nox.env x=pure x:=by intro _;rfl) :
  VS (cT jA P w K mg base N nm (aA st) f cdv A outer s H E).nox md (md.set i (.o el)) lm rm (.Assign [.Name x pos'] (.ListComp elt [⟨target,iter,ifs,0⟩] scope pos) pos2) (bN i (qU si g tt te cp)):=NQ z.s.nd e (ln z i e) hsw (.inl rfl) hm hl hcp rfl (qS (osc:=aA st) h1 h2 h3) hle hbl hi hg ht he hs
end
section
variable{P:Program}{w:World}{K:Aa}{mg:Str->Option Value}{base:Heap}{x:Str}{st:Stmt}{N:List Str}{k:Nat}{ms mn:List Md}{rm:Md}{p:bD}{d:PN}{y1 y2 y3 y4 y5 y6:Str}
theorem YO (hd:∀xs R,d xs R->p {nx:=λ_=>iZ rm R,rt:=R} (cY N xs)) (D:Df K mg x st) (z:SN N [y1] st) (hbody:∀(f:Addr) (cdv:Value) (A:Around) (outer:List Env) (s:Shared) (H:Hp) (E:XK),Room k (A.deeper (envOfC x (aA st) s.heap.objs.size f cdv))->VSs (cT jA P w K mg base N x (aA st) f cdv A outer s H E).nox (fR N ms) mn [] rm (bG st) p)
  (hb:∀(kV doc pm:Value) (an:Option Ac) (cdv ct:Value) (u1:Value),bindArgs (PySem.W.fnOf x x (cV st) (bG st) (aA st) .none kV doc pm an cdv ct) ⟨[u1],[]⟩=pure (([y1]:List Str).zip [u1]):=by (intros;rfl)) (hm:ms.all lN=true:=by rfl) (hr:oA rm=true:=by rfl) (hl:ms.length=1:=by rfl):Cal P w K mg base (k+1) x [y1] (NR K ms rm d):=
 SH hd D z.s (λkV doc pm an cdv ct us hl=>a2R hl (hb kV doc pm an cdv ct)) hm hr hl hbody
theorem BX (hd:∀xs R,d xs R->p {nx:=λ_=>iZ rm R,rt:=R} (cY N xs)) (D:Df K mg x st) (z:SN N [y1,y2] st) (hbody:∀(f:Addr) (cdv:Value) (A:Around) (outer:List Env) (s:Shared) (H:Hp) (E:XK),Room k (A.deeper (envOfC x (aA st) s.heap.objs.size f cdv))->VSs (cT jA P w K mg base N x (aA st) f cdv A outer s H E).nox (fR N ms) mn [] rm (bG st) p)
  (hb:∀(kV doc pm:Value) (an:Option Ac) (cdv ct:Value) (u1 u2:Value),bindArgs (PySem.W.fnOf x x (cV st) (bG st) (aA st) .none kV doc pm an cdv ct) ⟨[u1,u2],[]⟩=pure (([y1,y2]:List Str).zip [u1,u2]):=by (intros;rfl)) (hm:ms.all lN=true:=by rfl) (hr:oA rm=true:=by rfl) (hl:ms.length=2:=by rfl):Cal P w K mg base (k+1) x [y1,y2] (NR K ms rm d):=
 SH hd D z.s (λkV doc pm an cdv ct us hl=>WD hl (hb kV doc pm an cdv ct)) hm hr hl hbody
theorem YQ (hd:∀xs R,d xs R->p {nx:=λ_=>iZ rm R,rt:=R} (cY N xs)) (D:Df K mg x st) (z:SN N [y1,y2,y3] st) (hbody:∀(f:Addr) (cdv:Value) (A:Around) (outer:List Env) (s:Shared) (H:Hp) (E:XK),Room k (A.deeper (envOfC x (aA st) s.heap.objs.size f cdv))->VSs (cT jA P w K mg base N x (aA st) f cdv A outer s H E).nox (fR N ms) mn [] rm (bG st) p)
  (hb:∀(kV doc pm:Value) (an:Option Ac) (cdv ct:Value) (u1 u2 u3:Value),bindArgs (PySem.W.fnOf x x (cV st) (bG st) (aA st) .none kV doc pm an cdv ct) ⟨[u1,u2,u3],[]⟩=pure (([y1,y2,y3]:List Str).zip [u1,u2,u3]):=by (intros;rfl)) (hm:ms.all lN=true:=by rfl) (hr:oA rm=true:=by rfl) (hl:ms.length=3:=by rfl):Cal P w K mg base (k+1) x [y1,y2,y3] (NR K ms rm d):=
 SH hd D z.s (λkV doc pm an cdv ct us hl=>a2S hl (hb kV doc pm an cdv ct)) hm hr hl hbody
theorem a3U (hd:∀xs R,d xs R->p {nx:=λ_=>iZ rm R,rt:=R} (cY N xs)) (D:Df K mg x st) (z:SN N [y1,y2,y3,y4] st) (hbody:∀(f:Addr) (cdv:Value) (A:Around) (outer:List Env) (s:Shared) (H:Hp) (E:XK),Room k (A.deeper (envOfC x (aA st) s.heap.objs.size f cdv))->VSs (cT jA P w K mg base N x (aA st) f cdv A outer s H E).nox (fR N ms) mn [] rm (bG st) p)
  (hb:∀(kV doc pm:Value) (an:Option Ac) (cdv ct:Value) (u1 u2 u3 u4:Value),bindArgs (PySem.W.fnOf x x (cV st) (bG st) (aA st) .none kV doc pm an cdv ct) ⟨[u1,u2,u3,u4],[]⟩=pure (([y1,y2,y3,y4]:List Str).zip [u1,u2,u3,u4]):=by (intros;rfl)) (hm:ms.all lN=true:=by rfl) (hr:oA rm=true:=by rfl) (hl:ms.length=4:=by rfl):Cal P w K mg base (k+1) x [y1,y2,y3,y4] (NR K ms rm d):=
 SH hd D z.s (λkV doc pm an cdv ct us hl=>a2T hl (hb kV doc pm an cdv ct)) hm hr hl hbody
end
end L2
set_option maxHeartbeats 4000000
local macro_rules | `(tactic| walk_at "rp") => `(tactic| ((conv => rhs; simp only [← L2.a2G, ← L2.V5, ← L2.ZT, ← L2.ZV, ← L2.UR, ← L2.OZ, ← L2.ZP, ← L2.ZO, ← L2.OY, ← L2.P9, ← L2.UE, ← L2.ZU, ← L2.US, ← L2.K0, ← L2.P1, ← L2.K2, ← L2.UO, ← L2.V4, ← L2.a2H, ← L2.ZR, ← L2.a2I, ← L2.OX, ← L2.UL, ← L2.P8, ← L2.GQ, ← L2.PD, ← L2.V1, ← L2.V3, ← L2.K6, ← L2.UG, ← L2.UW, ← L2.UN, ← L2.GO, ← L2.P3, ← L2.P4, ← L2.GP, ← L2.P7, ← L2.UZ, ← L2.UK, ← L2.UX, ← L2.V0, ← L2.K8, ← L2.PM, ← L2.K7, ← L2.PP, ← L2.UF, ← L2.PQ, ← L2.PR, ← L2.KA, ← L2.UI, ← L2.ZW, ← L2.K4, ← L2.CI, ← L2.UV, ← L2.ZS, ← L2.PL, ← L2.UQ, ← L2.OW, ← L2.PJ, ← L2.P5, ← L2.PF, ← L2.UP, ← L2.UM, ← L2.UJ, ← L2.P6, ← L2.K3, ← L2.K1, ← L2.P0, ← L2.GR, ← L2.K9, ← L2.UU, ← L2.UY, ← L2.PU, ← L2.UT, ← L2.K5, ← L2.PH, ← L2.ZQ, ← L2.CH, ← L2.UH, ← L2.V2]); try rfl))
namespace Lib
open PySem L2
abbrev cN:PN:=EW
def sV:bD:=(c6 (c8 AW (a8 (qU (eF (a9 1)) (aF 0) dM (b9 dJ (b9 dJ (a9 1) (a9 0)) (pC (.int 3))) (λenv=>[none,jn (lR env 0)])) aG)))
abbrev tJ:{r:bD // r=sV}:=⟨_,by unfold sV;walk_at "rp"⟩
def dW:PN:=A1 (λa0 a1=>[some a0,some a1]) (λR=>R .non) tJ.1
def AY: bD:=(aO (bN 2 (pC (.str "abcdefghijklmnopqrstuvwxyz")))
 (aO (bN 3 (pC (.str "")))
 (aO (nR (fT (c8 cN (a8 (a9 0) (a8 (pC (.int 8)) aG)))) (aF 4) (aO (bN 3 (b9 sG (a9 3) (b9 dJ (a9 2) (c8 cN (a8 (a9 0) (a8 (pC (.int 26)) aG))))))
 bK))
 (c6 (b9 sG (a9 3) (b9 dJ (a9 2) (a9 1)))))))
abbrev B5:{r:bD // r=AY}:=⟨_,by unfold AY;walk_at "rp"⟩
def iV:PN:=A1 (λa0 a1=>[some a0,some a1,none,none,none]) (λR=>R .non) B5.1
def vT:bD:=(c6 (mJ yA LQ (b9 dJ (a9 0) (pC (.int 1))) (a9 1) (b9 dJ (a9 0) (pC (.int 2)))))
abbrev w6:{r:bD // r=vT}:=⟨_,by unfold vT;walk_at "rp"⟩
def e6:PN:=A1 (λa0 a1=>[some a0,some a1]) (λR=>R .non) w6.1
def vW:bD:=(c6 (c8 mL (a8 (qU (eF (a9 1)) (aF 0) (mZ (c8 e6 (a8 (b9 dJ (a9 2) (a9 0)) (a8 (a9 1) aG)))) (a9 0) (λenv=>[none,jn (lR env 2),jn (lR env 0)])) aG)))
abbrev wA:{r:bD // r=vW}:=⟨_,by unfold vW;walk_at "rp"⟩
def f7:PN:=SU (λa0 a1 a2=>[some a0,some a1,some a2]) (λR=>R .non) wA.1
def nY:bD:=(c6 (lD (eF (a9 0)) (aF 0) dM (AO (B0 (iP LY (a9 0) (pQ (pC (.int 1))) (pQ (pC (.int 3))))) (aF 1) dM (sJ (a9 1))) (λenv=>[none,none])))
abbrev o7:{r:bD // r=nY}:=⟨_,by unfold nY;walk_at "rp"⟩
def cK:PN:=SS (λa0=>[some a0]) (λ_=>False) o7.1
def sR: bD:=(aO (bN 2 (gY aG))
 (aO (bN 3 (pC (.int 0)))
 (aO (nR (eF (c8 cK (a8 (qU (eF (a9 1)) (aF 0) dM (b9 dJ (a9 1) (a9 0)) (λenv=>[none,jn (lR env 0)])) aG))) (aF 4) (aO (bN 5 (c8 f7 (a8 (a9 0) (a8 (a9 1) (a8 (a9 4) aG)))))
 (aO (mK (mZ (b9 AU (a9 5) (a9 3))) (aO (gQ "list" 2 dN (a8 (jK (a8 (a9 4) (a8 (a9 5) aG))) aG))
 bK) bK)
 (aO (bN 3 (a9 5))
 bK))))
 (c6 (a9 2)))))
abbrev tG:{r:bD // r=sR}:=⟨_,by unfold sR;walk_at "rp"⟩
def f9:PN:=A1 (λa0 a1=>[some a0,some a1,none,none,none,none]) (λ_=>False) tG.1
def sP: bD:=(aO (uL (jK (a8 (pC (.int 0)) (a8 (pC .non) aG))) (cW 2 (aQ (aF 2) (aQ (aF 3) eL))))
 (aO (nR (eF (c8 f9 (a8 (a9 0) (a8 (a9 1) aG)))) (cW 2 (aQ (aF 4) (aQ (aF 5) eL))) (aO (mK (mZ (b9 AQ (a9 5) (a9 2))) (aO (uL (jK (a8 (a9 5) (a8 (a9 4) aG))) (cW 2 (aQ (aF 2) (aQ (aF 3) eL))))
 bK) bK)
 bK))
 (c6 (jK (a8 (a9 2) (a8 (a9 3) (a8 (fS (qU (eF (a9 1)) (aF 0) (mZ (c8 e6 (a8 (b9 dJ (a9 2) (a9 0)) (a8 (a9 1) aG)))) (a9 0) (λenv=>[none,jn (lR env 3),jn (lR env 0)]))) aG)))))))
abbrev tE:{r:bD // r=sP}:=⟨_,by unfold sP;walk_at "rp"⟩
def dU:PN:=A1 (λa0 a1=>[some a0,some a1,none,none,none,none]) (λR=>R .non) tE.1
def vZ:bD:=(c6 (c8 AW (a8 (qU (eF (a9 1)) (cW 2 (aQ (aF 0) (aQ (aF 1) eL))) (mZ (c8 e6 (a8 (a9 2) (a8 (a9 0) aG)))) (a9 1) (λenv=>[none,none,jn (lR env 0)])) aG)))
abbrev wD:{r:bD // r=vZ}:=⟨_,by unfold vZ;walk_at "rp"⟩
def gC:PN:=A1 (λa0 a1=>[some a0,some a1]) (λR=>R .non) wD.1
def vY:bD:=(c6 (c8 vP (a8 (pC (.int 0)) (a8 (b9 kM (b9 dJ (a9 0) (pC (.int 3))) (c8 gC (a8 (a9 0) (a8 (a9 1) aG)))) aG))))
abbrev wC:{r:bD // r=vY}:=⟨_,by unfold vY;walk_at "rp"⟩
def gB:PN:=A1 (λa0 a1=>[some a0,some a1]) (λR=>R .non) wC.1
def sT:bD:=(c6 (c8 AW (a8 (qU (eF (a9 0)) (aF 0) dM (c8 gB (a8 (a9 0) (a8 (a9 1) aG))) (λenv=>[none,jn (lR env 1)])) aG)))
abbrev tH:{r:bD // r=sT}:=⟨_,by unfold sT;walk_at "rp"⟩
def fA:PN:=A1 (λa0 a1=>[some a0,some a1]) (λR=>R .non) tH.1
def sQ:bD:=(c6 (sH (c8 uN (a8 (a9 0) (a8 (pC (.ty "int")) aG))) (AV (c8 uN (a8 (a9 0) (a8 (pC (.ty "bool")) aG))))))
abbrev tF:{r:bD // r=sQ}:=⟨_,by unfold sQ;walk_at "rp"⟩
def f6:PN:=SS (λa0=>[some a0]) (λR=>R .non) tF.1
def i8:bD:=(c6 (sH (c8 f6 (a8 (a9 0) aG)) (mJ yA yA (a9 1) (a9 0) (a9 2))))
abbrev i9:{r:bD // r=i8}:=⟨_,by unfold i8;walk_at "rp"⟩
def bI:PN:=SU (λa0 a1 a2=>[some a0,some a1,some a2]) (λR=>R .non) i9.1
def lV: bD:=(aO (mK (DA (mZ (c8 uN (a8 (a9 0) (a8 (pC (.ty "list")) aG))))) (c6 (pC (.bl false))) bK)
 (aO (bN 2 (pC (.int 0)))
 (aO (nR (eF (a9 0)) (aF 3) (aO (mK (DA (mZ (c8 bI (a8 (a9 3) (a8 (a9 2) (a8 (b9 kM (a9 1) (pC (.int 1))) aG)))))) (c6 (pC (.bl false))) bK)
 (aO (bN 2 (b9 eE (a9 3) (pC (.int 1))))
 bK)))
 (c6 (pC (.bl true))))))
abbrev lW:{r:bD // r=lV}:=⟨_,by unfold lV;walk_at "rp"⟩
def cQ:PN:=A1 (λa0 a1=>[some a0,some a1,none,none]) (λR=>R .non) lW.1
def vU:bD:=(c6 (c8 cQ (a8 (a9 1) (a8 (c8 mL (a8 (a9 0) aG)) aG))))
abbrev w8:{r:bD // r=vU}:=⟨_,by unfold vU;walk_at "rp"⟩
def gA:PN:=A1 (λa0 a1=>[some a0,some a1]) (λR=>R .non) w8.1
def pR:bD:=(c6 (sH (c8 gA (a8 (a9 0) (a8 (a9 2) aG))) (b9 yA (b9 dJ (c8 dU (a8 (a9 0) (a8 (a9 2) aG))) (pC (.int 0))) (a9 1))))
abbrev pW:{r:bD // r=pR}:=⟨_,by unfold pR;walk_at "rp"⟩
def dZ:PN:=SU (λa0 a1 a2=>[some a0,some a1,some a2]) (λR=>R .non) pW.1
def pV:bD:=(c6 (c8 AW (a8 (qU (eF (a9 0)) (cW 2 (aQ (aF 0) (aQ (aF 1) eL))) dM (a9 1) (λenv=>[none,none])) aG)))
abbrev pZ:{r:bD // r=pV}:=⟨_,by unfold pV;walk_at "rp"⟩
def eC:PN:=SS (λa0=>[some a0]) (λR=>R .non) pZ.1
def EX:bD:=(c6 (b9 eE (b9 AT (c8 eC (a8 (a9 2) aG)) (a9 1)) (c8 fA (a8 (a9 0) (a8 (a9 2) aG)))))
abbrev F7:{r:bD // r=EX}:=⟨_,by unfold EX;walk_at "rp"⟩
def l7:PN:=SU (λa0 a1 a2=>[some a0,some a1,some a2]) (λR=>R .non) F7.1
def nX: bD:=(aO (bN 1 (qU (fT (c8 mL (a8 (a9 0) aG))) (aF 0) dM (jK (a8 (a9 0) (a8 (b9 eE (a9 0) (pC (.int 1))) (a8 (pC (.int 0)) (a8 (pC .non) aG))))) (fun env=>[none])))
 (aO (bN 2 (qU (kO (a9 0)) (cW 2 (aQ (aF 0) (aQ (aF 1) eL))) (mZ (b9 AQ (a9 1) (pC (.int 0)))) (jK (a8 (b9 eE (a9 0) (pC (.int 1))) (a8 (a9 0) (a8 (pC (.int 0)) (a8 (pC .non) aG))))) (λenv=>[none,none])))
 (c6 (fS (b9 y9 (a9 1) (LV (a9 2) (LZ lU (pC (.int 1)))))))))
abbrev o6:{r:bD // r=nX}:=⟨_,by unfold nX;walk_at "rp"⟩
def dA:PN:=SS (λa0=>[some a0,none,none]) (λ_=>False) o6.1
def jZ: bD:=(aO (bN 3 (Z4 (kO (a9 1)) (cW 2 (aQ (aF 0) (aQ (aF 1) eL))) dM (a9 1) (lT (a9 0)) (fun env=>[none, none])))
 (aO (bN 4 (gY aG))
 (aO (nR (kO (a9 0)) (cW 2 (aQ (aF 5) (aQ (cW 4 (aQ (aF 6) (aQ (aF 7) (aQ (aF 8) (aQ (aF 9) eL))))) eL))) (aO (mK (mZ (b9 a1X (a9 5) (a9 2))) (aO (gQ "list" 4 dN (a8 (lT (jK (a8 (b9 sI (a9 3) (a9 8)) (a8 (b9 sI (a9 3) (a9 7)) (a8 (LZ lU (a9 9)) (a8 (a9 5) aG)))))) aG))
 bK) (aO (gQ "list" 4 dN (a8 (lT (jK (a8 (b9 sI (a9 3) (a9 7)) (a8 (b9 sI (a9 3) (a9 8)) (a8 (a9 9) (a8 (a9 5) aG)))))) aG))
 bK))
 bK))
 (c6 (a9 4)))))
abbrev k7:{r:bD // r=jZ}:=⟨_,by unfold jZ;walk_at "rp"⟩
def bX:PN:=SU (λa0 a1 a2=>[some a0,some a1,some a2,none,none,none,none,none,none,none]) (λ_=>False) k7.1
def iX: bD:=(aO (HW 3 4 (a8 (b9 DB (gY (a8 (pC .non) aG)) (a9 1)) (a8 (b9 DB (gY (a8 (pC .non) aG)) (a9 1)) aG)))
 (aO (LU 3 (pC (.int 0)) (a9 2))
 (aO (bN 5 (pC (.bl true)))
 (aO (yC (mZ (a9 5)) (aO (bN 5 (pC (.bl false)))
 (aO (nR (eF (a9 0)) (aF 6) (aO (uL (a9 6) (cW 4 (aQ (aF 7) (aQ (aF 8) (aQ (aF 9) (aQ (aF 10) eL))))))
 (aO (mK (HV (mZ (b9 sN (b9 dJ (a9 3) (a9 7)) (pC .non))) (Z5 (mZ (b9 LP (b9 dJ (a9 3) (a9 8)) (pC .non))) (mZ (b9 AQ (b9 eE (b9 dJ (a9 3) (a9 7)) (a9 9)) (b9 dJ (a9 3) (a9 8)))))) (aO (vS 3 4 (lT (jK (a8 (b9 eE (b9 dJ (a9 3) (a9 7)) (a9 9)) (a8 (a9 6) aG)))) (a9 8) (a9 8))
 (aO (bN 5 (pC (.bl true)))
 bK)) bK)
 bK)))
 bK)))
 (c6 (jK (a8 (a9 3) (a8 (a9 4) aG))))))))
abbrev iY:{r:bD // r=iX}:=⟨_,by unfold iX;walk_at "rp"⟩
def bP:PN:=SU (λa0 a1 a2=>[some a0,some a1,some a2,none,none,none,none,none,none,none,none]) (λR=>R .non) iY.1
def jY: bD:=(aO (bN 2 (gY aG))
 (aO (yC (mZ (b9 sN (b9 dJ (a9 0) (a9 1)) (pC .non))) (aO (uL (b9 dJ (a9 0) (a9 1)) (cW 4 (aQ (aF 1) (aQ (aF 3) (aQ (aF 4) (aQ (aF 5) eL))))))
 (aO (mK (mZ (b9 sN (a9 5) (pC .non))) (aO (gQ "list" 2 dN (a8 (lT (a9 5)) aG))
 bK) bK)
 bK)))
 (c6 (a9 2))))
abbrev k6:{r:bD // r=jY}:=⟨_,by unfold jY;walk_at "rp"⟩
def bW:PN:=A1 (λa0 a1=>[some a0,some a1,none,none,none,none]) (λ_=>False) k6.1
def nW:bD:=(c6 (kL (a9 0) (a9 1)))
abbrev o5:{r:bD // r=nW}:=⟨_,by unfold nW;walk_at "rp"⟩
def d9:PN:=A1 (λa0 a1=>[some a0,some a1]) (λ_=>False) o5.1
def pT: bD:=(aO (bN 2 (qU (fT (c8 mL (a8 (a9 1) aG))) (aF 0) dM (b9 kM (b9 dJ (a9 1) (b9 eE (a9 0) (pC (.int 1)))) (b9 dJ (a9 1) (a9 0))) (fun env=>[none, jn (lR env 0)])))
 (c6 (fS (qU (sY (a9 1) (a9 2)) (cW 2 (aQ (aF 0) (aQ (aF 1) eL))) (mZ (b9 AQ (a9 1) (pC (.int 0)))) (jK (a8 (a9 0) (a8 (a9 1) aG))) (λenv=>[none,none])))))
abbrev pY:{r:bD // r=pT}:=⟨_,by unfold pT;walk_at "rp"⟩
def e9:PN:=A1 (λa0 a1=>[some a0,some a1,none]) (λ_=>False) pY.1
def pS:bD:=(c6 (LR (c8 cK (a8 (a9 0) aG)) (gY (a8 (pC (.int 0)) aG))))
abbrev pX:{r:bD // r=pS}:=⟨_,by unfold pS;walk_at "rp"⟩
def e8:PN:=SS (λa0=>[some a0]) (λ_=>False) pX.1
def sU: bD:=(aO (bN 4 (qU (sY (a9 2) (a9 1)) (cW 2 (aQ (aF 0) (aQ (aF 1) eL))) dM (b9 kM (a9 0) (c8 f7 (a8 (a9 2) (a8 (a9 3) (a8 (a9 1) aG))))) (fun env=>[none, none, jn (lR env 0), jn (lR env 3)])))
 (c6 (b9 y9 (c8 dA (a8 (a9 4) aG)) (c8 bX (a8 (a9 0) (a8 (a9 1) (a8 (a9 3) aG)))))))
abbrev tI:{r:bD // r=sU}:=⟨_,by unfold sU;walk_at "rp"⟩
def fB:PN:=a2F (λa0 a1 a2 a3=>[some a0,some a1,some a2,some a3,none]) (λ_=>False) tI.1
def nV: bD:=(aO (bN 2 (c8 e8 (a8 (a9 0) aG)))
 (aO (HW 3 4 (a8 (gY aG) (a8 (gY aG) aG)))
 (aO (nR (fT (b9 eE (a9 1) (pC (.int 1)))) (aF 5) (aO (bN 6 (c8 fB (a8 (a9 0) (a8 (a9 2) (a8 (b9 DB (gY (a8 (a9 5) aG)) (b9 kM (c8 mL (a8 (a9 2) aG)) (pC (.int 1)))) (a8 (a9 3) aG))))))
 (aO (uL (c8 bP (a8 (a9 6) (a8 (c8 mL (a8 (a9 2) aG)) (a8 (pC (.int 0)) aG)))) (cW 2 (aQ (aF 7) (aQ (aF 8) eL))))
 (aO (gQ "list" 4 dN (a8 (jK (a8 (a9 3) (a8 (c8 e9 (a8 (a9 7) (a8 (iP LW (a9 2) lC (pQ (LZ lU (pC (.int 1))))) aG))) aG))) aG))
 (aO (bN 3 (c8 d9 (a8 (a9 3) (a8 (c8 bW (a8 (a9 8) (a8 (b9 kM (c8 mL (a8 (a9 2) aG)) (pC (.int 1))) aG))) aG))))
 bK)))))
 (c6 (a9 4)))))
abbrev o4:{r:bD // r=nV}:=⟨_,by unfold nV;walk_at "rp"⟩
def d8:PN:=A1 (λa0 a1=>[some a0,some a1,none,none,none,none,none,none,none]) (λ_=>False) o4.1
def jX:bD:=(c6 (b9 dJ (c8 dU (a8 (a9 0) (a8 (sM (c8 mL (a8 (a9 0) aG))) aG))) (pC (.int 0))))
abbrev k3:{r:bD // r=jX}:=⟨_,by unfold jX;walk_at "rp"⟩
def bV:PN:=SS (λa0=>[some a0]) (λR=>R .non) k3.1
def sO:bD:=(c6 (b9 dJ (c8 d8 (a8 (a9 0) (a8 (c8 vQ (a8 (a9 1) (a8 (c8 bV (a8 (a9 0) aG)) aG))) aG))) (LZ lU (pC (.int 1)))))
abbrev tD:{r:bD // r=sO}:=⟨_,by unfold sO;walk_at "rp"⟩
def eZ:PN:=A1 (λa0 a1=>[some a0,some a1]) (λR=>R .non) tD.1
def vX: bD:=(aO (uL (c8 eZ (a8 (a9 0) (a8 (a9 1) aG))) (cW 2 (aQ (aF 2) (aQ (aF 3) eL))))
 (c6 (jK (a8 (c8 dW (a8 (a9 0) (a8 (a9 2) aG))) (a8 (a9 2) (a8 (a9 3) aG))))))
abbrev wB:{r:bD // r=vX}:=⟨_,by unfold vX;walk_at "rp"⟩
def e7:PN:=A1 (λa0 a1=>[some a0,some a1,none,none]) (λR=>R .non) wB.1
end Lib
local macro_rules | `(tactic| walk_at "w") => `(tactic| with_reducible (conv => whnf))
namespace L2
open PySem
theorem fL {g:hW} {b:bD} {E:PEnds}:∀ {items:List PV} {env:b5} (I:Nat->b5->Prop),I 0 env->
  (∀(i:Nat) (x:PV) (env:b5) (N:b5->Prop),items[i]? =some x->I i env->(∀env',I (i+1) env'->N env')->g x env λenv1=>b {E with nx:=N,ct:=N,bk:=E.nx} env1)->
  (∀env,I items.length env->E.nx env)->nT g b E items env
 |[],env,I,h0,hs,hd=>hd env h0
 | x::xs,env,I,h0,hs,hd=>by
  rw[nT]
  refine hs 0 x env _ rfl h0 λenv' h=>?_
  exact fL (λi=>I (i+1)) h (λi y e N hy=>hs (i+1) y e N (by simpa using hy)) λe h=>hd e (by simpa using h)
theorem PY {g:hW} {b:bD} {E:PEnds} {items:List PV} {env:b5} (J:b5->Prop) (h0:J env)
  (hs:∀(x:PV) (env:b5) (N:b5->Prop),x∈items->J env->(∀env',J env'->N env')->g x env λenv1=>b {E with nx:=N,ct:=N,bk:=E.nx} env1)
  (hd:∀env,J env->E.nx env):nT g b E items env:=
 fL (λ_=>J) h0 (λi x e N hx hJ hN=>hs x e N (List.mem_of_getElem? hx) hJ hN) hd
theorem gO {g:hW} {tt:eS} {te:aR} {Q:PV->Prop}:∀ {items acc:List PV} {env:b5} (I:Nat->List PV->b5->Prop),I 0 acc env->
  (∀(i:Nat) (x:PV) (acc:List PV) (env:b5) (N:List PV->b5->Prop),items[i]? =some x->I i acc env->(∀acc' env',I (i+1) acc' env'->N acc' env')->g x env λenv1=>tt env1 λk=>Br k (te env1 λv=>N (acc++[v]) env1) (N acc env1))->
  (∀acc env,I items.length acc env->Q (.lst acc))->jI g tt te Q items acc env
 |[],acc,env,I,h0,hs,hd=>hd acc env h0
 | x::xs,acc,env,I,h0,hs,hd=>by
  rw[jI]
  refine hs 0 x acc env (λacc env=>jI g tt te Q xs acc env) rfl h0 λacc' env' h=>?_
  exact gO (λi=>I (i+1)) h (λi y a e N hy=>hs (i+1) y a e N (by simpa using hy)) λa e h=>hd a e (by simpa using h)
theorem mD {g:hW} {tt:eS} {te:aR} {Q:PV->Prop}:∀ {items acc:List PV} {env:b5} (f:PV->Option PV) (J:b5->Prop),J env->
  (∀(x:PV) (env:b5) (N:Option PV->b5->Prop),x∈items->J env->(∀env',J env'->N (f x) env')->g x env λenv1=>tt env1 λk=>Br k (te env1 λv=>N (some v) env1) (N none env1))->
  Q (.lst (acc++items.filterMap f))->jI g tt te Q items acc env
 |[],acc,env,f,J,h0,hs,hq=>by simpa[jI] using hq
 | x::xs,acc,env,f,J,h0,hs,hq=>by
  rw[jI]
  refine hs x env (λo e=>match o with|some v=>jI g tt te Q xs (acc++[v]) e|none=>jI g tt te Q xs acc e) List.mem_cons_self h0 λenv' h=>?_
  rw[List.filterMap_cons] at hq
  cases hf:f x with
  | none=>
   rw[hf] at hq
   exact mD f J h (λy e N hy=>hs y e N (List.mem_cons_of_mem _ hy)) hq
  | some v=>
   rw[hf] at hq
   exact mD f J h (λy e N hy=>hs y e N (List.mem_cons_of_mem _ hy)) (by simpa using hq)
theorem a3W{x y:Prop}(h:x):Br true x y:=h
theorem a3V{x y:Prop}(h:y):Br false x y:=h
theorem a2C{x y:Prop}(h:y):Br (!true) x y:=h
theorem U4{p:Prop}[Decidable p]{x y:Prop}(h1:p->x)(h2:¬p->y):Br (decide p) x y:=U3 (λh=>h1 (of_decide_eq_true h)) λh=>h2 (of_decide_eq_false h)
theorem a2B{p:Prop}[Decidable p]{x y:Prop}(h1:¬p->x)(h2:p->y):Br (!decide p) x y:=U3 (λh=>h1 (by simpa using h)) λh=>h2 (by simpa using h)
theorem NX{b c:Bool}{x y:Prop}(e:b=c)(h:Br c x y):Br b x y:=e▸h
theorem CY{lo:Int}{n:Nat}{x:PV}(h:x∈c4 lo n):∃i:Int,x= .int i/\lo<=i/\i<lo+n:=by
 unfold c4 at h
 obtain⟨k,hk,rfl⟩:=List.mem_map.mp h
 have:=List.mem_range.mp hk
 exact⟨_,rfl,by omega,by omega⟩
theorem fD {lo:Int} {n i:Nat} {x:PV} (h:(c4 lo n)[i]? =some x):x= .int (lo+i)/\i<n:=by
 have hi:i<n:=by
  have:=(List.getElem?_eq_some_iff.mp h).1
  rwa [bE] at this
 rw[vI hi] at h
 exact⟨(Option.some.inj h).symm,hi⟩
theorem bB{n:Nat}(h:n<=1000):n<=sizeLine:=Nat.le_trans h (by decide)
theorem oH{n:Nat}(h:n<=1000):n<sizeLine:=Nat.lt_of_le_of_lt h (by decide)
theorem AS{ns:List Int}{P:Int->Prop}{r:Int}{Q:PV->Prop}(h0:0<=r)(h1:r<ns.length)(hP:∀n∈ns,P n)(q:∀n,P n->Q (.int n)):dJ (.lst (ns.map PV.int)) (.int r) Q:=by
 have h:r.toNat<ns.length:=by omega
 refine cE (z:=.int ns[r.toNat]) (c9 h0 (by rw[List.getElem?_map,a0a h];rfl)) (q _ (hP _ (List.getElem_mem h)))
end L2
namespace Lib
open PySem L2
def iD(s:Sr):PV:=.tup [.str s.nm,.int s.b,.int s.e,.int s.w]
abbrev bZ(bk:List Sr):PV:=.lst (bk.map iD)
abbrev gV(ks:List Int):PV:=.lst (ks.map PV.int)
theorem eD(bk:List Sr):PV.flats (bk.map iD)=true:=PV.flats_of λx h=>by obtain⟨s,_,rfl⟩:=List.mem_map.mp h;rfl
theorem GU(ks:List Int):PV.flats (ks.map PV.int)=true:=PV.flats_of λx h=>by obtain⟨s,_,rfl⟩:=List.mem_map.mp h;rfl
def aN(s:Sr)(m:Int):Bool:=decide (s.b<=m)&&decide (m<s.e)
theorem oP {s:Sr} {m:Int} {R:PV->Prop} (h:R (.bl (aN s m))):e6 [iD s,.int m] R:=by
 unfold e6 iD
 tb_from(i7 jC ?_)
 walk_at "w"
 unfold aN at h
 refine U4 (λh1=>?_) (λh1=>?_)
 ·rw[decide_eq_true h1,Bool.true_and] at h
  refine i7 rF ?_
  walk_at "w"
  exact h
 ·rw[decide_eq_false h1,Bool.false_and] at h
  exact h
theorem U2{bk:List Sr}{k:Int}(h0:0<=k)(h1:k<bk.length):∃s,bk[k.toNat]? =some s/\iU (bk.map iD) k=some (iD s):=by
 have h:k.toNat<bk.length:=by omega
 exact⟨bk[k.toNat],a0a h,c9 h0 (by rw[List.getElem?_map,a0a h];rfl)⟩
theorem JO {k:Int} {R:PV->Prop} (k0:0<=k) (k1:k<26) (h:∀nm:Str,NmOk nm k.toNat->R (.str nm)):iV [.st,.int k] R:=by
 unfold iV
 tb_from(⟨by decide,by decide,λr r0 r1=>?_⟩)
 tb_from(⟨by omega,?_⟩)
 refine⟨by omega,?_⟩
 refine fL (λi env=>∃(sp:Str) (t:Option PV),env=[some .st,some (.int k),some (.str a1V),some (.str sp),t]/\sp.cps.toList.length=i/\∀c∈sp.cps.toList,97<=c/\c<=122) ⟨Str.ofString "",none,rfl,by decide+kernel,by intro c hc;rw[show (Str.ofString "").cps.toList=[] by decide+kernel] at hc;cases hc⟩ ?_ ?_
 ·rintro i x env N hx ⟨sp,t,rfl,hl,hc⟩ hN
  obtain⟨rfl,hi⟩:=fD hx
  tb_from(⟨by decide,by decide,λr2 r20 r21=>?_⟩)
  walk_at "w"
  refine T7 (EA r20 r21) (by rw[E9];decide) ?_
  walk_at "w"
  have l1:sp.length=i:=by show sp.cps.size=i;rw[<- hl,Array.length_toList]
  refine⟨?_,?_⟩
  ·rw[l1]
   show i+1<=sizeLine
   exact bB (by omega)
  ·refine hN _ ⟨_,_,rfl,?_,?_⟩
   ·show (sp.cps++ #[97+r2.toNat]).toList.length=_
    rw[Array.toList_append,List.length_append,hl];rfl
   ·intro c hc'
    have hc':c∈(sp.cps++ #[97+r2.toNat]).toList:=hc'
    rw[Array.toList_append] at hc'
    rcases List.mem_append.mp hc' with z|z
    ·exact hc c z
    ·have:c=97+r2.toNat:=by simpa using z
     omega
 ·rintro env ⟨sp,t,rfl,hl,hc⟩
  rw[bE] at hl
  walk_at "w"
  refine T7 (EA k0 k1) (by rw[E9];decide) ?_
  walk_at "w"
  have l1:sp.length=r.toNat:=by show sp.cps.size=_;rw[<- hl,Array.length_toList]
  refine⟨?_,?_⟩
  ·rw[l1]
   show r.toNat+1<=sizeLine
   exact bB (by omega)
  ·refine h _ ⟨⟨sp.cps.toList,?_,by omega,hc⟩⟩
   show (sp.cps++ #[97+k.toNat]).toList=_
   rw[Array.toList_append]
structure SmOk(ks:List Int)(n:Nat):Prop where
 lt:ks.Pairwise (· < ·)
 at_:∀k∈ks,0<=k/\k<(n:Int)
theorem SmOk.len {ks:List Int} {n:Nat} (h:SmOk ks n):ks.length<=n:=by
 have h2:∀(n:Nat) (ks:List Int),ks.Pairwise (· < ·)->(∀k∈ks,0<=k/\k<(n:Int))->ks.length<=n:=by
  intro n
  induction n with
  | zero=>intro ks _ h;cases ks with
   |nil=>simp
   |cons a l=>have:=h a List.mem_cons_self;omega
  | succ n ih=>
   intro ks hp h
   by_cases hm:(n:Int)∈ks
   ·have:(ks.erase (n:Int)).length<=n:=by
     refine ih _ (hp.sublist List.erase_sublist) λk hk=>?_
     have hk':=List.mem_of_mem_erase hk
     have nd:ks.Nodup:=hp.imp λh=>by omega
     have hne:k≠(n:Int):=λz=>by subst z;exact (List.Nodup.not_mem_erase nd) hk
     have:=h k hk'
     omega
    rw[List.length_erase_of_mem hm] at this
    omega
   ·have:=ih ks hp λk hk=>by
     have h1:=h k hk
     have:k≠(n:Int):=λz=>by subst z;exact hm hk
     omega
    omega
 exact h2 n ks h.lt h.at_
end Lib
namespace L2
open PySem
theorem CO{x:PV}{t n:String}{b:Bool}{Q:PV->Prop}(h:x.kind=some t)(h2:CT t n=some b)(q:Q (.bl b)):uN [x,.ty n] Q:=by
 unfold uN;simp only[h,h2];exact q
theorem CS:CT "int" "int"=some true:=by decide+kernel
theorem A9:CT "int" "bool"=some false:=by decide+kernel
theorem xT:CT "list" "list"=some true:=by decide+kernel
theorem Q2{i:Int}{Q:PV->Prop}(q:Q (.bl true)):uN [.int i,.ty "int"] Q:=CO rfl CS q
theorem xP{i:Int}{Q:PV->Prop}(q:Q (.bl false)):uN [.int i,.ty "bool"] Q:=CO rfl A9 q
theorem KQ{xs:List PV}{Q:PV->Prop}(q:Q (.bl true)):uN [.lst xs,.ty "list"] Q:=CO rfl xT q
theorem ED{xs:List PV}{n:Nat}(h:∀x∈xs,x.dep<=n):(PV.lst xs).dep<=n+1:=by
 rw[PV.dep];exact Nat.succ_le_succ (PV.deps_of h)
theorem OT{xs:List PV}{n:Nat}(h:∀x∈xs,x.dep<=n):(PV.tup xs).dep<=n+1:=by
 rw[PV.dep];exact Nat.succ_le_succ (PV.deps_of h)
theorem EC(i:Int):(PV.int i).dep=0:=by rw[PV.dep]
theorem CL(n:Nat):c4 0 n=((List.range n).map λ(i:Nat)=>(i:Int)).map PV.int:=by simp[c4]
end L2
namespace Lib
open PySem L2
theorem xN(s:Sr):(iD s).dep<=1:=OT (n:=0) λx h=>by
 simp only[List.mem_cons,List.not_mem_nil,or_false] at h
 rcases h with rfl|rfl|rfl|rfl<;>(rw[PV.dep];exact Nat.le_refl _)
theorem xK(bk:List Sr):(bZ bk).dep<=2:=ED (n:=1) λx h=>by obtain⟨k,_,rfl⟩:=List.mem_map.mp h;exact xN k
theorem mW(n:Nat):SmOk ((List.range n).map λ(i:Nat)=>(i:Int)) n:=⟨by
 rw[List.pairwise_map];exact List.pairwise_lt_range.imp λh=>by omega,λk h=>by
 obtain⟨i,hi,rfl⟩:=List.mem_map.mp h
 have:=List.mem_range.mp hi
 omega⟩
end Lib
local macro_rules | `(tactic| walk_at "w") => `(tactic| ((with_reducible (conv => whnf)); (repeat ((with_reducible first | refine L2.a3W ?_ | refine L2.a3V ?_ | refine L2.a2C ?_ | refine L2.brNF ?_); (with_reducible (conv => whnf))))))
namespace L2
open PySem
theorem KB {g:hW} {tt:eS} {a:BU} {K:List Int->b5->Prop}:∀ {items:List PV} {acc:List Int} {env:b5} (I:Nat->List Int->b5->Prop),I 0 acc env->
  (∀(i:Nat) (x:PV) (acc:List Int) (env:b5) (N:List Int->b5->Prop),items[i]? =some x->I i acc env->(∀acc' env',I (i+1) acc' env'->N acc' env')->g x env λenv1=>tt env1 λk=>Br k (a acc env1 N) (N acc env1))->
  (∀acc env,I items.length acc env->K acc env)->k9 g tt a K items acc env
 |[],acc,env,I,h0,hs,hd=>hd acc env h0
 | x::xs,acc,env,I,h0,hs,hd=>by
  rw[k9]
  refine hs 0 x acc env (λacc env=>k9 g tt a K xs acc env) rfl h0 λacc' env' h=>?_
  exact KB (λi=>I (i+1)) h (λi y a e N hy=>hs (i+1) y a e N (by simpa using hy)) λa e h=>hd a e (by simpa using h)
end L2
namespace Lib
open PySem L2
def fY(ss:List Sr):List Int:=ss.flatMap λs=>[s.b,s.e]
theorem xV(ss:List Sr):(fY ss).length=2*ss.length:=by
 induction ss with
 |nil=>rfl
 |cons s ss ih=>rw[fY,List.flatMap_cons,List.length_append,<- fY,ih];simp;omega
theorem fM{ss:List Sr}{m:Int}:m∈fY ss↔∃s∈ss,m=s.b\/m=s.e:=by
 simp[fY]
theorem vC {ss:List Sr} {R:PV->Prop} (hl:ss.length<=31) (q:R (gV (aM (fY ss)))):cK [bZ ss] R:=by
 unfold cK
 tb_from(KB (λi acc env=>acc=fY (ss.take i)/\∃t1 t2,env=[t1,t2]) ⟨rfl,none,none,rfl⟩ ?_ ?_)
 ·rintro i x acc env N hx ⟨rfl,t1,t2,rfl⟩ hN
  rw[List.getElem?_map,Option.map_eq_some_iff] at hx
  obtain⟨s,hs,rfl⟩:=hx
  have hi:i<ss.length:=(List.getElem?_eq_some_iff.mp hs).1
  have hlen:(fY (ss.take i)).length<=60:=by rw[xV,List.length_take];omega
  have he:fY (ss.take (i+1))=fY (ss.take i)++[s.b]++[s.e]:=by
   rw[List.take_add_one,hs,fY,List.flatMap_append,<- fY];simp
  unfold iD
  tb_from(⟨(by decide:¬(HT.sIx 4 0 (some 1)=0/\HT.sIx 4 4 (some 3)=4)),?_⟩)
  show k9 _ _ _ _ [.int s.b,.int s.e] _ _
  rw[k9]
  tb_from(⟨by omega,?_⟩)
  show k9 _ _ _ _ [.int s.e] _ _
  rw[k9]
  walk_at "w"
  refine⟨by rw[List.length_append,List.length_singleton];omega,?_⟩
  show k9 _ _ _ _ [] _ _
  rw[k9]
  exact hN _ _ ⟨he.symm,_,_,rfl⟩
 ·rintro acc env ⟨rfl,t1,t2,rfl⟩
  rw[a0f,List.take_length]
  exact q
def eO(bk:List Sr)(k:Int):Sr:=(bk[k.toNat]?).getD ⟨Str.empty,0,0,0⟩
def aH(bk:List Sr)(ks:List Int):List Sr:=ks.map (eO bk)
theorem v8{bk:List Sr}{k:Int}(h0:0<=k)(h1:k<bk.length):iU (bk.map iD) k=some (iD (eO bk k)):=by
 obtain⟨s,e1,e2⟩:=U2 h0 h1
 rw[e2];unfold eO;rw[e1];rfl
def aL(ss:List Sr)(m:Int):Nat:=ss.countP λs=>aN s m
theorem WA {bk:List Sr} {m:Int} (ks:List Int):((ks.map PV.int).filterMap λx=>match x with|.int k=>if aN (eO bk k) m then some (PV.int k) else none|_=>none).length=aL (aH bk ks) m:=by
 unfold aL aH
 induction ks with
 |nil=>rfl
 | cons k ks ih=>
  rw[List.map_cons,List.map_cons,List.countP_cons,<- ih,List.filterMap_cons]
  by_cases h:aN (eO bk k) m=true
  ·simp[h]
  ·simp[h]
theorem vB {bk:List Sr} {ks:List Int} {m:Int} {R:PV->Prop} (hl:ks.length<=1000) (ok:∀k∈ks,0<=k/\k<(bk.length:Int)) (q:R (.int (aL (aH bk ks) m))):f7 [bZ bk,gV ks,.int m] R:=by
 unfold f7
 tb_from(⟨bB (by simpa using hl),?_⟩)
 refine mD (λx=>match x with|.int k=>if aN (eO bk k) m then some (PV.int k) else none|_=>none) (λenv=>∃t,env=[t,some (.int m),some (bZ bk)]) ⟨_,rfl⟩ ?_ ?_
 ·rintro x env N hx ⟨t,rfl⟩ hN
  obtain⟨k,hk,rfl⟩:=List.mem_map.mp hx
  tb_from(cE (v8 (ok k hk).1 (ok k hk).2) ?_)
  tb_from(oP ?_)
  walk_at "w"
  have hN:=hN [some (.int k),some (.int m),some (bZ bk)] ⟨_,rfl⟩
  dsimp only at hN
  refine U3 (λh=>?_) (λh=>?_)
  ·rw[if_pos h] at hN;exact hN
  ·rw[if_neg (by rw[h];exact Bool.false_ne_true)] at hN;exact hN
 ·rw[List.nil_append]
  walk_at "w"
  rw[WA]
  exact q
end Lib
namespace L2
open PySem
theorem nI:∀(n:Nat) (ks:List Int),ks.length<=n->ks.eraseDups.length<=ks.length
 | 0,ks,h=>by
  have:ks=[]:=List.length_eq_zero_iff.mp (by omega)
  subst this;simp
 |n+1,[],h=>by simp
 | n+1,k::ks,h=>by
  rw[List.eraseDups_cons,List.length_cons,List.length_cons]
  have h1:=List.length_filter_le (λb=>!b==k) ks
  have:=nI n (ks.filter λb=>!b==k) (by simp at h;omega)
  omega
theorem wL(ks:List Int):(aM ks).length<=ks.length:=by
 unfold aM
 rw[(mC _).length_eq]
 exact nI _ ks (Nat.le_refl _)
theorem O8 {ds:List Int} {x:Int}:((ds.map PV.int).any λz=>z.eqB (.int x))=decide (x∈ds):=by
 rw[List.any_map]
 induction ds with
 |nil=>simp
 | cons d ds ih=>
  rw[List.any_cons,ih]
  show ((PV.int d).eqB (.int x)||_)=_
  rw[eqB_ii]
  by_cases h:d=x
  ·subst h;simp
  ·have:¬x=d:=λz=>h z.symm
   simp[h,this]
end L2
namespace Lib
open PySem L2
theorem sC{ss:List Sr}{x y:Int}(h:∀s∈ss,aN s x=aN s y):aL ss x=aL ss y:=by
 unfold aL
 exact List.countP_congr λs hs=>by rw[h s hs]
theorem c5{s:Sr}{m:Int}:aN s m=true↔s.b<=m/\m<s.e:=by
 unfold aN;simp
theorem kH{s:Sr}{x y:Int}(h:(s.b<=x↔s.b<=y)/\(x<s.e↔y<s.e)):aN s x=aN s y:=by
 rw[Bool.eq_iff_iff,c5,c5,h.1,h.2]
theorem L7 {ss:List Sr} {m:Int} (hm:(aM (fY ss))[0]? =some m):aL ss (m-1)=0:=by
 unfold aL
 refine List.countP_eq_zero.mpr λs hs=>?_
 rw[c5]
 have hb:s.b∈aM (fY ss):=bF.mpr (fM.mpr ⟨s,hs,.inl rfl⟩)
 obtain⟨j,hj,ej⟩:=List.getElem_of_mem hb
 obtain⟨h0,e0⟩:=List.getElem?_eq_some_iff.mp hm
 have:m<=s.b:=by
  rcases Nat.eq_zero_or_pos j with z|z
  ·subst z;rw[<- ej,e0];exact Int.le_refl _
  ·have:=(List.pairwise_iff_getElem.mp (fP (fY ss))) 0 j h0 hj z
   rw[e0,ej] at this;omega
 omega
theorem QF {ss:List Sr} {i:Nat} {x m:Int} (hx:(aM (fY ss))[i]? =some x) (hm:(aM (fY ss))[i+1]? =some m):aL ss x=aL ss (m-1):=by
 obtain⟨h0,e0⟩:=List.getElem?_eq_some_iff.mp hx
 obtain⟨h1,e1⟩:=List.getElem?_eq_some_iff.mp hm
 have pw:=List.pairwise_iff_getElem.mp (fP (fY ss))
 have lt:=pw i (i+1) h0 h1 (by omega)
 rw[e0,e1] at lt
 have off:∀v∈aM (fY ss),v<=x\/m<=v:=by
  intro v hv
  obtain⟨j,hj,ej⟩:=List.getElem_of_mem hv
  rcases Nat.lt_trichotomy j i with z|z|z
  ·have:=pw j i hj h0 z
   rw[e0,ej] at this;omega
  ·subst z;rw[e0] at ej;omega
  ·rcases Nat.eq_or_lt_of_le (Nat.succ_le_of_lt z) with z2|z2
   ·subst z2;right;rw[<- ej,<- e1];exact Int.le_refl _
   ·have:=pw (i+1) j h1 hj z2
    rw[e1,ej] at this;omega
 refine sC λs hs=>kH ?_
 have hb:=off s.b (bF.mpr (fM.mpr ⟨s,hs,.inl rfl⟩))
 have he:=off s.e (bF.mpr (fM.mpr ⟨s,hs,.inr rfl⟩))
 constructor<;>constructor<;>intro h<;>omega
def IA(ss:List Sr)(m:Int):Option PV:=if aL ss m=aL ss (m-1) then none else some (.tup [.int m,.int (aL ss m)])
def qL(ss:List Sr)(i:Nat):List PV:=((aM (fY ss)).take i).filterMap (IA ss)
def yV(ss:List Sr):List PV:=(aM (fY ss)).filterMap (IA ss)
theorem N5(ss:List Sr)(i:Nat):(qL ss i).length<=2*ss.length:=by
 unfold qL
 have h1:=List.length_filterMap_le (IA ss) ((aM (fY ss)).take i)
 have h2:=List.length_take_le i (aM (fY ss))
 have h3:=wL (fY ss)
 rw[xV] at h3
 have:((aM (fY ss)).take i).length<=(aM (fY ss)).length:=by rw[List.length_take];omega
 omega
theorem IB{ss:List Sr}{i:Nat}{m:Int}(hm:(aM (fY ss))[i]? =some m)(h:aL ss m=aL ss (m-1)):qL ss (i+1)=qL ss i:=by
 unfold qL
 rw[List.take_add_one,hm,List.filterMap_append]
 simp[IA,h]
theorem N6{ss:List Sr}{i:Nat}{m:Int}(hm:(aM (fY ss))[i]? =some m)(h:¬aL ss m=aL ss (m-1)):qL ss (i+1)=qL ss i++[.tup [.int m,.int (aL ss m)]]:=by
 unfold qL
 rw[List.take_add_one,hm,List.filterMap_append]
 simp[IA,h]
theorem B1(bk:List Sr)(ks:List Int):(aH bk ks).length=ks.length:=by simp[aH]
theorem qR {bk:List Sr} {ks:List Int} {Q:PV->Prop} {e1:Option PV} (ok:∀k∈ks,0<=k/\k<(bk.length:Int)) (q:Q (bZ (aH bk ks))) :
  jI (RD.aF 0) RD.dM (RD.b9 dJ (RD.a9 1) (RD.a9 0)) Q (ks.map PV.int) [] [e1,some (bZ bk)]:=by
 refine mD (λx=>match x with|.int k=>some (iD (eO bk k))|_=>none) (λenv=>∃t,env=[t,some (bZ bk)]) ⟨e1,rfl⟩ ?_ ?_
 ·rintro x env N hx ⟨t,rfl⟩ hN
  obtain⟨k,hk,rfl⟩:=List.mem_map.mp hx
  tb_from(cE (v8 (ok k hk).1 (ok k hk).2) ?_)
  exact hN _ ⟨_,rfl⟩
 ·rw [List.nil_append]
  have:(ks.map PV.int).filterMap (λx=>match x with|.int k=>some (iD (eO bk k))|_=>none)=(aH bk ks).map iD:=by
   rw[aH,List.filterMap_map,List.map_map,<- List.filterMap_eq_map];rfl
  rw[this];exact q
theorem CB {bk:List Sr} {ks:List Int} {R:PV->Prop} (hl:ks.length<=31) (ok:∀k∈ks,0<=k/\k<(bk.length:Int)) (q:R (.lst (yV (aH bk ks)))):f9 [bZ bk,gV ks] R:=by
 unfold f9
 walk_at "w"
 refine⟨bB (by simp;omega),?_⟩
 refine qR ok ?_
 walk_at "w"
 refine vC (by rw[B1];exact hl) ?_
 walk_at "w"
 refine fL (λi env=>∃(b:Int) (t4 t5:Option PV),env=[some (bZ bk),some (gV ks),some (.lst (qL (aH bk ks) i)),some (.int b),t4,t5]/\∀m,(aM (fY (aH bk ks)))[i]? =some m->b=(aL (aH bk ks) (m-1):Nat)) ⟨0,none,none,rfl,λm hm=>by rw[L7 hm];rfl⟩ ?_ ?_
 ·rintro i x env N hx ⟨b,t4,t5,rfl,hb⟩ hN
  rw[List.getElem?_map,Option.map_eq_some_iff] at hx
  obtain⟨m,hm,rfl⟩:=hx
  have hb:=hb m hm
  subst hb
  tb_from(vB (by omega) ok ?_)
  walk_at "w"
  have go:∀t5,N [some (bZ bk),some (gV ks),some (.lst (qL (aH bk ks) (i+1))),some (.int (aL (aH bk ks) m)),some (.int m),t5]:=λt5=>hN _ ⟨_,_,_,rfl,λm' hm'=>by rw[QF hm hm']⟩
  refine a2B (λh=>?_) λh=>?_
  ·tb_from(⟨rfl,?_⟩)
   walk_at "w"
   refine⟨oH (n:=(qL (aH bk ks) i).length) (by have:=N5 (aH bk ks) i;rw[B1] at this;omega),?_⟩
   rw[N6 hm (by omega)] at go
   exact go _
  ·rw[IB hm (by omega)] at go
   exact go _
 ·rintro env ⟨b,t4,t5,rfl,hb⟩
  walk_at "w"
  rw[a0f,qL,List.take_length]
  exact q
theorem Y3{bk:List Sr}{i:Nat}{s:Sr}(h:bk[i]? =some s):eO bk (i:Int)=s:=by
 unfold eO;rw[Int.toNat_natCast,h];rfl
def d6(ss:List Sr):Int:=(ss.map Sr.w).sum
theorem L5 {bk:List Sr} {ks:List Int} {Q:PV->Prop} {e1:Option PV} (ok:∀k∈ks,0<=k/\k<(bk.length:Int)) (q:Q (gV ((aH bk ks).map Sr.w))) :
  jI (RD.aF 0) RD.dM (RD.b9 dJ (RD.b9 dJ (RD.a9 1) (RD.a9 0)) (RD.pC (PV.int 3))) Q (ks.map PV.int) [] [e1,some (bZ bk)]:=by
 refine mD (λx=>match x with|.int k=>some (.int (eO bk k).w)|_=>none) (λenv=>∃t,env=[t,some (bZ bk)]) ⟨e1,rfl⟩ ?_ ?_
 ·rintro x env N hx ⟨t,rfl⟩ hN
  obtain⟨k,hk,rfl⟩:=List.mem_map.mp hx
  tb_from(cE (v8 (ok k hk).1 (ok k hk).2) ?_)
  unfold iD
  tb_from(i7 C8 ?_)
  exact hN _ ⟨_,rfl⟩
 ·rw [List.nil_append]
  have:(ks.map PV.int).filterMap (λx=>match x with|.int k=>some (.int (eO bk k).w)|_=>none)=((aH bk ks).map Sr.w).map PV.int:=by
   rw[aH,List.filterMap_map,List.map_map,List.map_map,<- List.filterMap_eq_map];rfl
  rw[this];exact q
theorem EB{bk:List Sr}{ks:List Int}{R:PV->Prop}(hl:ks.length<=1000)(ok:∀k∈ks,0<=k/\k<(bk.length:Int))(q:R (.int (d6 (aH bk ks)))):dW [bZ bk,gV ks] R:=by
 unfold dW
 tb_from(⟨bB (by simpa using hl),?_⟩)
 refine L5 ok ?_
 walk_at "w"
 exact yB q
def BI(ss:List Sr)(m:Int):Option (Int×Nat):=if aL ss m=aL ss (m-1) then none else some (m,aL ss m)
def yW(ss:List Sr):List (Int×Nat):=(aM (fY ss)).filterMap (BI ss)
def a3R(p:Int×Nat):PV:=.tup [.int p.1,.int p.2]
theorem DR(ss:List Sr):yV ss=(yW ss).map a3R:=by
 unfold yV yW
 rw[List.map_filterMap]
 congr 1;funext m
 unfold IA BI
 split<;>rfl
theorem nO {ss:List Sr} {m:Int} {l:Nat}:(m,l)∈yW ss↔m∈aM (fY ss)/\aL ss m≠aL ss (m-1)/\l=aL ss m:=by
 unfold yW
 rw[List.mem_filterMap]
 constructor
 ·rintro ⟨u,hu,e⟩
  unfold BI at e
  split at e
  ·cases e
  ·rename_i h
   cases e
   exact⟨hu,h,rfl⟩
 ·rintro⟨hu,h,rfl⟩
  exact⟨m,hu,by unfold BI;rw[if_neg h]⟩
theorem YB (ss:List Sr):(yW ss).Pairwise λp q=>p.1<q.1:=by
 unfold yW
 refine List.Pairwise.filterMap (R:=λ(a b:Int)=>a<b) _ (λa b hab p hp q hq=>?_) (fP _)
 unfold BI at hp hq
 split at hp
 ·cases hp
 ·split at hq
  ·cases hq
  ·cases hp;cases hq;exact hab
theorem nN{ss:List Sr}{m:Int}(h:∀s∈ss,¬(s.b<=m/\m<s.e)):aL ss m=0:=by
 unfold aL
 refine List.countP_eq_zero.mpr λs hs=>?_
 rw[c5]
 exact h s hs
theorem WB{ss:List Sr}{s:Sr}{m:Int}(hs:s∈ss)(h:s.b<=m/\m<s.e):0<aL ss m:=by
 unfold aL
 exact List.countP_pos_iff.mpr ⟨s,hs,c5.mpr h⟩
theorem Q9 {ss:List Sr} {m y:Int} {l:List Int} (h:(aM (fY ss)).filter (λx=>decide (x<=m))=l++[y]):aL ss m=aL ss y/\y<=m/\y∈aM (fY ss)/\∀v∈aM (fY ss),v<=m->v<=y:=by
 have hp:(l++[y]).Pairwise (· < ·):=by rw[<- h];exact (fP _).sublist List.filter_sublist
 have hm:y∈(aM (fY ss)).filter (λx=>decide (x<=m)):=by rw[h];simp
 have hy:y<=m:=of_decide_eq_true (List.mem_filter.mp hm).2
 have top:∀v∈aM (fY ss),v<=m->v<=y:=by
  intro v hv hm
  have:v∈l++[y]:=by rw[<- h];exact List.mem_filter.mpr ⟨hv,decide_eq_true hm⟩
  rcases List.mem_append.mp this with z|z
  ·have:=(List.pairwise_append.mp hp).2.2 v z y (by simp);omega
  ·simp at z;omega
 refine⟨sC λs hs=>kH ?_,hy,(List.mem_filter.mp hm).1,top⟩
 have hb:=top s.b (bF.mpr (fM.mpr ⟨s,hs,.inl rfl⟩))
 have he:=top s.e (bF.mpr (fM.mpr ⟨s,hs,.inr rfl⟩))
 constructor<;>constructor<;>intro h<;>omega
theorem QH{ss:List Sr}{m:Int}(h:(aM (fY ss)).filter (λx=>decide (x<=m))=[]):aL ss m=0:=nN λs hs z=>by
 have:=List.filter_eq_nil_iff.mp h s.b (bF.mpr (fM.mpr ⟨s,hs,.inl rfl⟩))
 rw[decide_eq_true_iff] at this
 exact this z.1
theorem EQ (ss:List Sr):∀(n:Nat) (m:Int),((aM (fY ss)).filter λx=>decide (x<=m)).length<=n->(aL ss m=0/\∀p∈yW ss,¬p.1<=m)\/∃m',(m',aL ss m)∈yW ss/\m'<=m/\∀p∈yW ss,p.1<=m->p.1<=m'
 | n,m,hn=>by
  rcases List.eq_nil_or_concat ((aM (fY ss)).filter λx=>decide (x<=m)) with h|⟨l,y,h⟩
  ·refine .inl ⟨QH h,λp hp z=>?_⟩
   have:=List.filter_eq_nil_iff.mp h p.1 (nO (l:=p.2).mp hp).1
   rw[decide_eq_true_iff] at this
   exact this z
  ·rw [List.concat_eq_append] at h
   obtain⟨e,hy,hu,top⟩:=Q9 h
   by_cases hs:aL ss y=aL ss (y-1)
   ·
    have hf:((aM (fY ss)).filter λx=>decide (x<=y-1)).length<((aM (fY ss)).filter λx=>decide (x<=m)).length:=by
     have hsub:((aM (fY ss)).filter λx=>decide (x<=y-1))=((aM (fY ss)).filter λx=>decide (x<=m)).filter λx=>decide (x<=y-1):=by
      rw[List.filter_filter]
      refine List.filter_congr λx _=>?_
      by_cases hx:x<=y-1
      ·have:x<=m:=by omega
       simp[hx,this]
      ·simp[hx]
     rw[hsub]
     refine List.length_filter_lt_length_iff_exists.mpr ⟨y,by rw[h];simp,by simp;omega⟩
    match n,hn with
    |0,hn=>omega
    | n+1,hn=>
     have key:∀p∈yW ss,p.1<=m->p.1<=y-1:=λp hp hm=>by
      obtain⟨h1,h2,h3⟩:=nO (l:=p.2).mp hp
      have:=top _ h1 hm
      have:p.1≠y:=λz=>h2 (by rw[z];exact hs)
      omega
     rcases EQ ss n (y-1) (by omega) with ⟨z1,z2⟩|⟨m',z1,z2,z3⟩
     ·exact .inl ⟨by rw[e,hs,z1],λp hp hm=>z2 p hp (key p hp hm)⟩
     ·exact .inr ⟨m',by rw[e,hs];exact z1,by omega,λp hp hm=>z3 p hp (key p hp hm)⟩
   ·exact .inr ⟨y,by rw[e];exact nO.mpr ⟨hu,hs,rfl⟩,hy,λp hp hm=>top _ (nO (l:=p.2).mp hp).1 hm⟩
theorem ER(ss:List Sr)(m:Int):(aL ss m=0/\∀p∈yW ss,¬p.1<=m)\/∃m',(m',aL ss m)∈yW ss/\m'<=m/\∀p∈yW ss,p.1<=m->p.1<=m':=EQ ss _ m (Nat.le_refl _)
structure Crowd(ss:List Sr)(G:Nat)(f:Option Int):Prop where
 top:∀m,aL ss m<=G
 non:f=none->G=0
 fst:∀m0,f=some m0->aL ss m0=G/\0<G/\∀m<m0,aL ss m<G
theorem Crowd.none_nil{ss:List Sr}{G:Nat}(h:Crowd ss G none)(lt:∀s∈ss,s.b<s.e):ss=[]:=by
 rw[List.eq_nil_iff_forall_not_mem]
 intro s hs
 have:=WB hs (m:=s.b) ⟨Int.le_refl _,lt s hs⟩
 have:=h.top s.b
 have:=h.non rfl
 omega
def gX:Option Int->PV
 |none=>.non
 |some m=>.int m
def LM(bk:List Sr)(ks:List Int):Option Int->List Int
 |none=>[]
 |some m=>ks.filter λk=>aN (eO bk k) m
structure CrSo(sl:List (Int×Nat))(i:Nat)(g:Nat)(f:Option Int):Prop where
 top:∀j p,j<i->sl[j]? =some p->p.2<=g
 non:f=none->g=0
 fst:∀m0,f=some m0->0<g/\∃j0,j0<i/\sl[j0]? =some (m0,g)/\∀j p,j<j0->sl[j]? =some p->p.2<g
theorem CrSo.crowd {ss:List Sr} {g:Nat} {f:Option Int} (h:CrSo (yW ss) (yW ss).length g f):Crowd ss g f:=by
 have at_:∀ {p:Int×Nat},p∈yW ss->∃j,j<(yW ss).length/\(yW ss)[j]? =some p:=λhp=>by
  obtain⟨j,hj,e⟩:=List.getElem_of_mem hp
  exact⟨j,hj,by rw[a0a hj,e]⟩
 refine⟨λm=>?_,h.non,λm0 e=>?_⟩
 ·rcases ER ss m with ⟨z,_⟩|⟨m',hp,_⟩
  ·omega
  ·obtain⟨j,hj,e⟩:=at_ hp
   exact h.top j _ hj e
 ·obtain ⟨g0,j0,hj0,ej0,bef⟩:=h.fst m0 e
  have hm0:=nO.mp (List.mem_of_getElem? ej0)
  refine⟨hm0.2.2.symm,g0,λm hm=>?_⟩
  rcases ER ss m with ⟨z,_⟩|⟨m',hp,hle,_⟩
  ·omega
  ·obtain ⟨j,hj,ej⟩:=at_ hp
   refine bef j _ ?_ ej
   refine Nat.lt_of_not_le λhle2=>?_
   rcases Nat.eq_or_lt_of_le hle2 with z|z
   ·subst z;rw[ej0] at ej;cases ej;omega
   ·have:=(List.pairwise_iff_getElem.mp (YB ss)) j0 j hj0 hj z
    rw[(List.getElem?_eq_some_iff.mp ej0).2,(List.getElem?_eq_some_iff.mp ej).2] at this
    dsimp only at this
    omega
theorem CrSo.grow {sl:List (Int×Nat)} {i g l:Nat} {m:Int} {f:Option Int} (h:CrSo sl i g f) (e:sl[i]? =some (m,l)) (hl:g<l):CrSo sl (i+1) l (some m):=by
 refine⟨λj p hj ej=>?_,λz=>(by cases z),λm0 z=>?_⟩
 ·rcases Nat.eq_or_lt_of_le (Nat.le_of_lt_succ hj) with z|z
  ·subst z;rw[e] at ej;cases ej;exact Nat.le_refl _
  ·have:=h.top j p z ej;omega
 ·cases z
  refine⟨by omega,i,by omega,e,λj p hj ej=>?_⟩
  have:=h.top j p hj ej;omega
theorem CrSo.stay {sl:List (Int×Nat)} {i g l:Nat} {m:Int} {f:Option Int} (h:CrSo sl i g f) (e:sl[i]? =some (m,l)) (hl:¬g<l):CrSo sl (i+1) g f:=by
 refine⟨λj p hj ej=>?_,h.non,λm0 z=>?_⟩
 ·rcases Nat.eq_or_lt_of_le (Nat.le_of_lt_succ hj) with z|z
  ·subst z;rw[e] at ej;cases ej;show l<=g;omega
  ·exact h.top j p z ej
 ·obtain⟨g0,j0,h1,h2,h3⟩:=h.fst m0 z
  exact⟨g0,j0,by omega,h2,h3⟩
theorem rM {bk:List Sr} {ks:List Int} {R:PV->Prop} (hl:ks.length<=31) (ok:∀k∈ks,0<=k/\k<(bk.length:Int)) (lt:∀s∈aH bk ks,s.b<s.e)
  (q:∀G f,Crowd (aH bk ks) G f->R (.tup [.int (G:Nat),gX f,gV (LM bk ks f)])):dU [bZ bk,gV ks] R:=by
 unfold dU
 tb_from(⟨rfl,?_⟩)
 tb_from(CB hl ok ?_)
 rw[DR]
 walk_at "w"
 refine fL (λi env=>∃(g:Nat) (f:Option Int) (t4 t5:Option PV),env=[some (bZ bk),some (gV ks),some (.int g),some (gX f),t4,t5]/\CrSo (yW (aH bk ks)) i g f)
  ⟨0,none,none,none,rfl,⟨λj p hj _=>absurd hj (Nat.not_lt_zero j),λ_=>rfl,λ_ z=>(by cases z)⟩⟩ ?_ ?_
 ·rintro i x env N hx ⟨g,f,t4,t5,rfl,hc⟩ hN
  rw[List.getElem?_map,Option.map_eq_some_iff] at hx
  obtain⟨⟨m,l⟩,hp,rfl⟩:=hx
  unfold a3R
  tb_from(⟨rfl,?_⟩)
  tb_from(U4 (λh=>?_) (λh=>?_))
  ·tb_from(⟨rfl,?_⟩)
   exact hN _ ⟨l,some m,_,_,rfl,hc.grow hp (by omega)⟩
  ·exact hN _ ⟨g,f,_,_,rfl,hc.stay hp (by omega)⟩
 ·rintro env ⟨g,f,t4,t5,rfl,hc⟩
  rw[a0f] at hc
  have cr:=hc.crowd
  walk_at "w"
  refine⟨bB (by rw[a0f];omega),?_⟩
  cases f with
  | none=>
   have hn:=cr.none_nil lt
   have hk:ks=[]:=by
    unfold aH at hn
    exact List.map_eq_nil_iff.mp hn
   subst hk
   exact⟨rfl,q g none cr⟩
  | some m=>
   refine mD (λx=>match x with|.int k=>if aN (eO bk k) m then some (PV.int k) else none|_=>none) (λenv=>∃t,env=[t,some (.int m),some (bZ bk)]) ⟨_,rfl⟩ ?_ ?_
   ·rintro x env N hx ⟨t,rfl⟩ hN
    obtain⟨k,hk,rfl⟩:=List.mem_map.mp hx
    tb_from(cE (v8 (ok k hk).1 (ok k hk).2) ?_)
    tb_from(oP ?_)
    walk_at "w"
    have hN:=hN [some (.int k),some (.int m),some (bZ bk)] ⟨_,rfl⟩
    dsimp only at hN
    refine U3 (λh=>?_) (λh=>?_)
    ·rw[if_pos h] at hN;exact hN
    ·rw[if_neg (by rw[h];exact Bool.false_ne_true)] at hN;exact hN
   ·have e1:(ks.map PV.int).filterMap (λx=>match x with|.int k=>if aN (eO bk k) m then some (PV.int k) else none|_=>none)=(LM bk ks (some m)).map PV.int:=by
     unfold LM
     rw[List.filterMap_map,<- List.filterMap_eq_map,List.filterMap_filter]
     rfl
    rw[List.nil_append,e1]
    exact⟨GU _,q g (some m) cr⟩
theorem o3{bk:List Sr}{ks:List Int}(ok:∀k∈ks,0<=k/\k<(bk.length:Int)){s:Sr}(h:s∈aH bk ks):s∈bk:=by
 obtain⟨k,hk,rfl⟩:=List.mem_map.mp h
 obtain⟨h0,h1⟩:=ok k hk
 refine List.mem_of_getElem? (i:=k.toNat) ?_
 unfold eO
 rw[a0a (by omega)];rfl
abbrev Pr:=Int×Int
def Z6(p:Pr):PV:=.tup [.int p.1,.int p.2]
abbrev sW(pp:List Pr):PV:=.lst (pp.map Z6)
theorem KC(pp:List Pr):PV.flats (pp.map Z6)=true:=PV.flats_of λx h=>by obtain⟨s,_,rfl⟩:=List.mem_map.mp h;rfl
structure PpOk(pp:List Pr)(P:Int->Int->Prop)(n:Nat):Prop where
 lt:pp.Pairwise λa b=>a.1<b.1
 at_:∀p∈pp,P p.1 p.2
 len:pp.length<=n
def bU(s:Sr)(pp:List Pr):Int:=((pp.filter λp=>aN s p.1).map (·.2)).sum
def bO(s:Sr)(pp:List Pr):Int:=max 0 (s.w-bU s pp)
def bL(bk:List Sr)(pp:List Pr):Int:=(bk.map λs=>bO s pp).sum
theorem L4{s:Sr}{pp:List Pr}:(pp.map Z6).filterMap (λx=>match x with|.tup [.int m,.int v]=>if aN s m then some (PV.int v) else none|_=>none)=((pp.filter λp=>aN s p.1).map (·.2)).map PV.int:=by
 rw[List.filterMap_map,List.map_map,<- List.filterMap_eq_map,List.filterMap_filter]
 rfl
theorem G8 {s:Sr} {pp:List Pr} {R:PV->Prop} (hl:pp.length<=1000) (q:R (.int (bU s pp))):gC [iD s,sW pp] R:=by
 unfold gC
 walk_at "w"
 refine⟨bB (by rw[a0f];omega),?_⟩
 refine mD (λx=>match x with|.tup [.int m,.int v]=>if aN s m then some (PV.int v) else none|_=>none) (λenv=>∃t1 t2,env=[t1,t2,some (iD s)]) ⟨_,_,rfl⟩ ?_ ?_
 ·rintro x env N hx ⟨t1,t2,rfl⟩ hN
  obtain⟨⟨m,v⟩,hp,rfl⟩:=List.mem_map.mp hx
  have hN:=hN [some (.int m),some (.int v),some (iD s)] ⟨_,_,rfl⟩
  unfold Z6 at hN
  dsimp only at hN
  show RD.cW 2 _ (.tup [.int m,.int v]) _ _
  tb_from(⟨rfl,?_⟩)
  tb_from(oP ?_)
  tb_from(U3 (λh=>?_) (λh=>?_))
  ·rw[if_pos h] at hN;exact hN
  ·rw[if_neg (by rw[h];exact Bool.false_ne_true)] at hN;exact hN
 ·rw[List.nil_append,L4]
  exact yB q
theorem G7{s:Sr}{pp:List Pr}{R:PV->Prop}(hl:pp.length<=1000)(q:R (.int (bO s pp))):gB [iD s,sW pp] R:=by
 unfold gB
 have e:dJ (iD s) (.int 3)=λQ=>dJ (iD s) (.int 3) Q:=rfl
 tb_from(i7 (xs:=[.str s.nm,.int s.b,.int s.e,.int s.w]) C8 ?_)
 tb_from(G8 hl ?_)
 exact q
theorem CC {bk:List Sr} {pp:List Pr} {R:PV->Prop} (hb:bk.length<=1000) (hl:pp.length<=1000) (q:R (.int (bL bk pp))):fA [bZ bk,sW pp] R:=by
 unfold fA
 walk_at "w"
 refine⟨bB (by rw[a0f];omega),?_⟩
 refine gO (λi acc env=>acc=((bk.take i).map λs=>bO s pp).map PV.int/\∃t,env=[t,some (sW pp)]) ⟨rfl,_,rfl⟩ ?_ ?_
 ·rintro i x acc env N hx ⟨rfl,t,rfl⟩ hN
  rw[List.getElem?_map,Option.map_eq_some_iff] at hx
  obtain⟨s,hs,rfl⟩:=hx
  tb_from(G7 hl ?_)
  refine hN _ _ ⟨?_,_,rfl⟩
  rw[List.take_add_one,hs];simp
 ·rintro acc env ⟨rfl,t,rfl⟩
  rw[a0f,List.take_length]
  exact yB q
end Lib
namespace L2
open PySem
theorem rR(xs:List PV):(PV.lst xs).eqB (.lst [])=xs.isEmpty:=by
 cases xs with
 |nil=>exact eqB_self _
 |cons a l=>exact eqB_len (by simp)
theorem xM:(PV.lst []).dep<=1:=ED (n:=0) λx h=>(by cases h)
end L2
namespace Lib
open PySem L2
theorem CA{i:Int}{R:PV->Prop}(q:R (.bl true)):f6 [.int i] R:=by
 unfold f6
 tb_from(Q2 ?_)
 tb_from(xP ?_)
 exact q
theorem n9{i a b:Int}{R:PV->Prop}(q:R (.bl (decide (a<=i)&&decide (i<=b)))):bI [.int i,.int a,.int b] R:=by
 unfold bI
 tb_from(CA ?_)
 tb_from(U4 (λh=>?_) λh=>?_)
 ·rw[decide_eq_true h,Bool.true_and] at q;exact q
 ·rw[decide_eq_false h,Bool.false_and] at q;exact q
theorem uC {ks:List Int} {n:Nat} {R:PV->Prop} (h:SmOk ks n) (q:R (.bl true)):cQ [gV ks,.int n] R:=by
 unfold cQ
 tb_from(KQ ?_)
 tb_from(fL (λi env=>∃(l:Int) (t:Option PV),env=[some (gV ks),some (.int n),some (.int l),t]/\∀k,ks[i]? =some k->l<=k) ⟨0,none,rfl,λk hk=>(h.at_ k (List.mem_of_getElem? hk)).1⟩ ?_ ?_)
 ·rintro i x env N hx ⟨l,t,rfl,hl⟩ hN
  rw[List.getElem?_map,Option.map_eq_some_iff] at hx
  obtain⟨k,hk,rfl⟩:=hx
  have h1:=hl k hk
  have h2:=h.at_ k (List.mem_of_getElem? hk)
  tb_from(n9 ?_)
  rw[decide_eq_true h1,decide_eq_true (show k<=(n:Int)-1 by omega)]
  tb_from(hN _ ⟨k+1,_,rfl,λk' hk'=>?_⟩)
  obtain⟨a1,a2⟩:=List.getElem?_eq_some_iff.mp hk
  obtain⟨b1,b2⟩:=List.getElem?_eq_some_iff.mp hk'
  have:=(List.pairwise_iff_getElem.mp h.lt) i (i+1) a1 b1 (by omega)
  rw[a2,b2] at this
  omega
 ·rintro env ⟨l,t,rfl,hl⟩
  exact q
theorem G6{bk:List Sr}{ks:List Int}{R:PV->Prop}(h:SmOk ks bk.length)(q:R (.bl true)):gA [bZ bk,gV ks] R:=by
 unfold gA
 walk_at "w"
 rw[a0f]
 exact uC h q
theorem M6{bk:List Sr}{as ks:List Int}(h:as.Sublist ks):(aH bk as).Sublist (aH bk ks):=h.map _
theorem SmOk.sub{as ks:List Int}{n:Nat}(h:SmOk ks n)(s:as.Sublist ks):SmOk as n:=⟨h.lt.sublist s,λk hk=>h.at_ k (s.subset hk)⟩
theorem Crowd.le_of{ss:List Sr}{G:Nat}{f:Option Int}(h:Crowd ss G f){b:Nat}(hb:∀m,aL ss m<=b):G<=b:=by
 cases f with
 |none=>rw[h.non rfl];omega
 |some m=>rw[<- (h.fst m rfl).1];exact hb m
theorem HJ {ms:List Int} {P:Int->Prop} [DecidablePred P]:(∀x∈ms,¬P x)\/∃x∈ms,P x/\∀y∈ms,P y->y<=x:=by
 induction ms with
 |nil=>exact .inl λx hx=>(by cases hx)
 | cons a ms ih=>
  by_cases ha:P a
  ·rcases ih with h|⟨x,hx,px,top⟩
   ·refine .inr ⟨a,List.mem_cons_self,ha,λy hy py=>?_⟩
    rcases List.mem_cons.mp hy with z|z
    ·omega
    ·exact absurd py (h y z)
   ·by_cases hax:a<=x
    ·refine .inr ⟨x,List.mem_cons_of_mem _ hx,px,λy hy py=>?_⟩
     rcases List.mem_cons.mp hy with z|z
     ·omega
     ·exact top y z py
    ·refine .inr ⟨a,List.mem_cons_self,ha,λy hy py=>?_⟩
     rcases List.mem_cons.mp hy with z|z
     ·omega
     ·have:=top y z py;omega
  ·rcases ih with h|⟨x,hx,px,top⟩
   ·refine .inl λy hy=>?_
    rcases List.mem_cons.mp hy with z|z
    ·rw[z];exact ha
    ·exact h y z
   ·refine .inr ⟨x,List.mem_cons_of_mem _ hx,px,λy hy py=>?_⟩
    rcases List.mem_cons.mp hy with z|z
    ·rw[z] at py;exact absurd py ha
    ·exact top y z py
theorem jP (ss:List Sr):∀pp:List Pr,(ss.map λs=>bU s pp).sum=(pp.map λp=>p.2*(aL ss p.1:Int)).sum
 | []=>by
  have:∀s,bU s []=0:=λs=>rfl
  simp only[this,List.map_nil,List.sum_nil]
  induction ss with
  |nil=>rfl
  |cons a l ih=>rw[List.map_cons,List.sum_cons,ih];rfl
 | p::pp=>by
  have ih:=jP ss pp
  rw[List.map_cons,List.sum_cons,<- ih]
  clear ih
  induction ss with
  |nil=>simp[aL]
  | cons s ss ih=>
   rw[List.map_cons,List.sum_cons,List.map_cons,List.sum_cons,ih]
   unfold aL bU
   rw[List.countP_cons,List.filter_cons]
   by_cases h:aN s p.1=true
   ·rw[if_pos h,if_pos h,List.map_cons,List.sum_cons]
    rw[show ((List.countP (λs=>aN s p.1) ss+1:Nat):Int)=(List.countP (λs=>aN s p.1) ss:Int)+1 by omega,Int.mul_add]
    omega
   ·rw[if_neg h,if_neg h,Nat.add_zero]
    omega
theorem FD(s:Sr)(pp:List Pr):0<=bO s pp:=by unfold bO;omega
theorem gS {bk:List Sr} {pp:List Pr}:∀(n:Nat) (ks:List Int),SmOk ks n->n<=bk.length->((aH bk ks).map λs=>bO s pp).sum<=((bk.take n).map λs=>bO s pp).sum
 | 0,ks,h,_=>by
  have:ks=[]:=List.length_eq_zero_iff.mp (by have:=h.len;omega)
  subst this;simp[aH]
 | n +1,ks,h,hn=>by
  have es:bk[n]? =some (eO bk n):=by unfold eO;rw[Int.toNat_natCast,a0a (by omega)];rfl
  rw[List.take_add_one,es,List.map_append,List.sum_append]
  rcases List.eq_nil_or_concat ks with z|⟨l,k,z⟩
  ·subst z
   have:=gS (bk:=bk) (pp:=pp) n [] ⟨.nil,by simp⟩ (by omega)
   have:=FD (eO bk n) pp
   simp[aH] at*
   omega
  ·rw [List.concat_eq_append] at z
   subst z
   have hp:=List.pairwise_append.mp h.lt
   have hk:=h.at_ k (by simp)
   have lt:∀j∈l,j<k:=λj hj=>hp.2.2 j hj k (by simp)
   by_cases e:k=n
   ·subst e
    have:=gS (bk:=bk) (pp:=pp) n l ⟨hp.1,λj hj=>⟨(h.at_ j (by simp[hj])).1,lt j hj⟩⟩ (by omega)
    simp[aH] at*
    omega
   ·have:=gS (bk:=bk) (pp:=pp) n (l++[k]) ⟨h.lt,λj hj=>⟨(h.at_ j hj).1,by
     rcases List.mem_append.mp hj with z|z
     ·have:=lt j z;omega
     ·simp at z;omega⟩⟩ (by omega)
    have:=FD (eO bk n) pp
    simp[aH] at*
    omega
theorem TV (ss:List Sr) (pp:List Pr):d6 ss<=(ss.map λs=>bU s pp).sum+(ss.map λs=>bO s pp).sum:=by
 unfold d6
 induction ss with
 |nil=>simp
 | cons s ss ih=>
  rw[List.map_cons,List.sum_cons,List.map_cons,List.sum_cons,List.map_cons,List.sum_cons]
  have:s.w<=bU s pp+bO s pp:=by unfold bO;omega
  omega
def cJ(bk:List Sr)(b:Int)(pp:List Pr):Int:=(pp.map (·.2)).sum*b+bL bk pp
theorem AF {bk:List Sr} {b:Int} {pp:List Pr} {ks:List Int} (hk:SmOk ks bk.length) (h:∀m,(aL (aH bk ks) m:Int)<=b) (hp:∀p∈pp,0<=p.2):d6 (aH bk ks)<=cJ bk b pp:=by
 have h1:=TV (aH bk ks) pp
 rw[jP] at h1
 have h2:=gS (bk:=bk) (pp:=pp) bk.length ks hk (Nat.le_refl _)
 rw[List.take_length] at h2
 have h3:(pp.map λp=>p.2*(aL (aH bk ks) p.1:Int)).sum<=(pp.map (·.2)).sum*b:=by
  clear h1 h2
  induction pp with
  |nil=>simp
  | cons p pp ih=>
   rw[List.map_cons,List.sum_cons,List.map_cons,List.sum_cons,Int.add_mul]
   have a1:=ih λq hq=>hp q (List.mem_cons_of_mem _ hq)
   have a2:=Int.mul_le_mul_of_nonneg_left (h p.1) (hp p List.mem_cons_self)
   omega
 unfold cJ bL
 omega
theorem zT {pp:List Pr} {R:PV->Prop} (hl:pp.length<=1000) (q:R (.int (pp.map (·.2)).sum)):eC [sW pp] R:=by
 unfold eC
 walk_at "w"
 refine⟨bB (by rw[a0f];omega),?_⟩
 refine gO (λi acc env=>acc=((pp.take i).map (·.2)).map PV.int/\∃t1 t2,env=[t1,t2]) ⟨rfl,_,_,rfl⟩ ?_ ?_
 ·rintro i x acc env N hx ⟨rfl,t1,t2,rfl⟩ hN
  rw[List.getElem?_map,Option.map_eq_some_iff] at hx
  obtain⟨⟨m,v⟩,hp,rfl⟩:=hx
  show RD.cW 2 _ (.tup [.int m,.int v]) _ _
  tb_from(⟨rfl,?_⟩)
  tb_from(hN _ _ ⟨?_,_,_,rfl⟩)
  rw[List.take_add_one,hp];simp
 ·rintro acc env ⟨rfl,t1,t2,rfl⟩
  rw[a0f,List.take_length]
  walk_at "w"
  exact yB q
theorem OG{bk:List Sr}{b:Int}{pp:List Pr}{R:PV->Prop}(hb:bk.length<=1000)(hl:pp.length<=1000)(hp:∀p∈pp,0<=p.2)(b0:0<=b)(b1:b<=1000)(q:R (.int (cJ bk b pp))):l7 [bZ bk,.int b,sW pp] R:=by
 unfold l7
 tb_from(zT hl ?_)
 tb_from(⟨.inr ⟨by omega,by omega⟩,?_⟩)
 tb_from(CC hb hl ?_)
 exact q
theorem Q8 {bk:List Sr} {Q:PV->Prop} {e1:Option PV} {j:Int} {g:Sr->Int} (hj:∀(s:Sr) (R:PV->Prop),R (.int (g s))->dJ (iD s) (.int j) R) (q:Q (gV (bk.map g))) :
  jI (RD.aF 0) RD.dM (RD.b9 dJ (RD.a9 0) (RD.pC (PV.int j))) Q (bk.map iD) [] [e1]:=by
 refine gO (λi acc env=>acc=((bk.take i).map g).map PV.int/\∃t,env=[t]) ⟨rfl,_,rfl⟩ ?_ ?_
 ·rintro i x acc env N hx ⟨rfl,t,rfl⟩ hN
  rw[List.getElem?_map,Option.map_eq_some_iff] at hx
  obtain⟨s,hs,rfl⟩:=hx
  tb_from(hj _ _ ?_)
  refine hN _ _ ⟨?_,_,rfl⟩
  rw[List.take_add_one,hs];simp
 ·rintro acc env ⟨rfl,t,rfl⟩
  rw[a0f,List.take_length];exact q
end Lib
set_option maxHeartbeats 2000000
namespace Lib
open PySem L2
structure Rd where
 u:Nat
 v:Nat
 g:Int
 k:Option Int
 deriving DecidableEq
abbrev Gs:=List (Option Int)
abbrev Ls:=List (Option Rd)
def gt{α:Type}(l:List (Option α))(v:Nat):Option α:=l.getD v none
theorem rX {α:Type} {l:List (Option α)} {v w:Nat} {x:Option α} (hv:v<l.length):gt (l.set v x) w=if w=v then x else gt l w:=by
 unfold gt
 rw[a0c,a0c,List.getElem?_set]
 by_cases h:w=v
 ·subst h;simp[hv]
 ·have h':¬v=w:=λz=>h z.symm
  simp[h,h']
def qC(φ:Nat->Int)(rs:List Rd):Prop:=∀r∈rs,φ r.u+r.g<=φ r.v
inductive Ch(ls:Ls)(st:Nat):Nat->Nat->Prop where
 |base:Ch ls st 0 st
 |step {k v:Nat} {r:Rd}:gt ls v=some r->Ch ls st k r.u->Ch ls st (k+1) v
def CG(gs:Gs):Nat:=gs.countP Option.isSome
structure GI(φ:Nat->Int)(rs:List Rd)(n st:Nat)(Gm:Int)(gs:Gs)(ls:Ls):Prop where
 lg:gs.length=n
 ll:ls.length=n
 st0:gt gs st=some 0
 stl:gt ls st=none
 ub:∀v b,gt gs v=some b->b<=φ v-φ st
 lb:∀v b,gt gs v=some b->-((CG gs:Int)*Gm)<=b
 las:∀v r,gt ls v=some r->r∈rs/\r.v=v/\∃a b,gt gs r.u=some a/\gt gs v=some b/\b<=a+r.g
 has:∀v b,gt gs v=some b->v=st\/∃r,gt ls v=some r
 ch:∀v b,gt gs v=some b->∃k,Ch ls st k v
section
variable{φ:Nat->Int}{rs:List Rd}{n st:Nat}{Gm:Int}{gs:Gs}{ls:Ls}
structure Bet(gs:Gs)(r:Rd)(a:Int):Prop where
 fr:gt gs r.u=some a
 up:∀b,gt gs r.v=some b->b<a+r.g
theorem ZK (h:GI φ rs n st Gm gs ls) (hF:qC φ rs) {v:Nat} {x:Option Rd} (hv:v<n) (hvs:v≠st):∀(k u:Nat) (a:Int),Ch ls st k u->gt gs u=some a->Ch (ls.set v x) st k u\/∃b,gt gs v=some b/\a<=b+φ u-φ v:=by
 intro k
 induction k with
 | zero=>
  intro u a hc ha
  cases hc
  exact .inl .base
 | succ k ih=>
  intro u a hc ha
  cases hc with
  | step e c=>
   rename_i r
   by_cases huv:u=v
   ·subst huv
    exact .inr ⟨a,ha,by omega⟩
   ·obtain ⟨hr,hrv,a',b',e1,e2,e3⟩:=h.las u r e
    rw[ha] at e2
    cases e2
    rcases ih r.u a' c e1 with z|⟨b,z1,z2⟩
    ·refine .inl (.step (r:=r) ?_ z)
     rw[rX (by rw[h.ll];exact hv),if_neg huv];exact e
    ·have:=hF r hr
     rw[hrv] at this
     exact .inr ⟨b,z1,by omega⟩
theorem GI.step (h:GI φ rs n st Gm gs ls) (hF:qC φ rs) (hG:∀r∈rs,-Gm<=r.g) (G0:0<=Gm) {r:Rd} {a:Int} (hr:r∈rs) (hb:Bet gs r a) (hu:r.u<n) (hv:r.v<n):GI φ rs n st Gm (gs.set r.v (some (a+r.g))) (ls.set r.v (some r)):=by
 have fr:=hF r hr
 have ua:=h.ub r.u a hb.fr
 have hvs:r.v≠st:=λz=>by
  have:=hb.up 0 (by rw[z];exact h.st0)
  rw[z] at fr
  omega
 have huv:r.u≠r.v:=λz=>by
  have:=hb.up a (by rw[<- z];exact hb.fr)
  rw[z] at fr
  omega
 have gg:∀w,gt (gs.set r.v (some (a+r.g))) w=if w=r.v then some (a+r.g) else gt gs w:=λw=>rX (by rw[h.lg];exact hv)
 have gl:∀w,gt (ls.set r.v (some r)) w=if w=r.v then some r else gt ls w:=λw=>rX (by rw[h.ll];exact hv)
 have hc1:CG gs<=CG (gs.set r.v (some (a+r.g)))/\(gt gs r.v=none->CG (gs.set r.v (some (a+r.g)))=CG gs+1):=by
  unfold CG
  rw[List.countP_set (by rw[h.lg];exact hv)]
  have e:gt gs r.v=gs[r.v]'(by rw[h.lg];exact hv):=by
   unfold gt
   rw[a0c,a0a (by rw[h.lg];exact hv)];rfl
  have pos:(gs[r.v]'(by rw[h.lg];exact hv)).isSome=true->0<gs.countP Option.isSome:=λz=>List.countP_pos_iff.mpr ⟨_,List.getElem_mem _,z⟩
  constructor
  ·split
   ·rename_i z
    have:=pos z
    simp;omega
   ·simp
  ·intro z
   rw[e] at z
   rw[z];simp
 have mul1:-((CG (gs.set r.v (some (a+r.g))):Int)*Gm)<= -((CG gs:Int)*Gm):=by
  have:(CG gs:Int)*Gm<=(CG (gs.set r.v (some (a+r.g))):Int)*Gm:=Int.mul_le_mul_of_nonneg_right (by exact_mod_cast hc1.1) G0
  omega
 have chu:∃k,Ch (ls.set r.v (some r)) st k r.u:=by
  obtain⟨k,hk⟩:=h.ch r.u a hb.fr
  rcases ZK h hF (x:=some r) hv hvs k r.u a hk hb.fr with z|⟨b,z1,z2⟩
  ·exact⟨k,z⟩
  ·have:=hb.up b z1
   omega
 have chv:∃k,Ch (ls.set r.v (some r)) st k r.v:=by
  obtain⟨k,hk⟩:=chu
  exact⟨k+1,.step (by rw[gl,if_pos rfl]) hk⟩
 have chall:∀k w,Ch ls st k w->∃k',Ch (ls.set r.v (some r)) st k' w:=by
  intro k
  induction k with
  |zero=>intro w hw;cases hw;exact⟨0,.base⟩
  | succ k ih=>
   intro w hw
   cases hw with
   | step e c=>
    by_cases z:w=r.v
    ·rw[z];exact chv
    ·obtain⟨k',hk'⟩:=ih _ c
     exact⟨k'+1,.step (by rw[gl,if_neg z];exact e) hk'⟩
 refine⟨by simp[h.lg],by simp[h.ll],by rw[gg,if_neg (Ne.symm hvs)];exact h.st0,by rw[gl,if_neg (Ne.symm hvs)];exact h.stl,λw b hw=>?_,λw b hw=>?_,λw r' hw=>?_,λw b hw=>?_,λw b hw=>?_⟩
 ·rw[gg] at hw
  split at hw
  ·rename_i z;cases hw;rw[z];omega
  ·exact h.ub w b hw
 ·rw [gg] at hw
  split at hw
  ·cases hw
   cases hgv:gt gs r.v with
   | some b'=>
    have:=h.lb r.v b' hgv
    have:=hb.up b' hgv
    omega
   | none=>
    rw[hc1.2 hgv]
    have:=h.lb r.u a hb.fr
    have:=hG r hr
    have e:((CG gs+1:Nat):Int)*Gm=(CG gs:Int)*Gm+Gm:=by rw[Int.natCast_add,Int.add_mul];simp
    rw[e];omega
  ·have:=h.lb w b hw;omega
 ·rw [gl] at hw
  split at hw
  ·rename_i z
   cases hw
   exact⟨hr,z.symm,a,a+r.g,by rw[gg,if_neg huv];exact hb.fr,by rw[gg,if_pos z],Int.le_refl _⟩
  ·rename_i z
   obtain⟨h1,h2,a',b',e1,e2,e3⟩:=h.las w r' hw
   by_cases zu:r'.u=r.v
   ·have:=hb.up a' (by rw[<- zu];exact e1)
    exact⟨h1,h2,a+r.g,b',by rw[gg,if_pos zu],by rw[gg,if_neg z];exact e2,by omega⟩
   ·exact⟨h1,h2,a',b',by rw[gg,if_neg zu];exact e1,by rw[gg,if_neg z];exact e2,e3⟩
 ·by_cases z:w=r.v
  ·exact .inr ⟨r,by rw[gl,if_pos z]⟩
  ·rw[gg,if_neg z] at hw
   rcases h.has w b hw with y|⟨r',y⟩
   ·exact .inl y
   ·exact .inr ⟨r',by rw[gl,if_neg z];exact y⟩
 ·by_cases z:w=r.v
  ·rw[z];exact chv
  ·rw[gg,if_neg z] at hw
   obtain⟨k,hk⟩:=h.ch w b hw
   exact chall k w hk
def a1J(φ:Nat->Int)(st:Nat)(C:Nat)(gs:Gs)(v:Nat):Nat:=match gt gs v with
 |none=>C
 |some b=>(φ v-φ st-b).toNat
def kI(φ:Nat->Int)(st C n:Nat)(gs:Gs):Nat:=((List.range n).map (a1J φ st C gs)).sum
theorem N7 {α:Type} {f f':α->Nat}:∀ {l:List α},(∀a∈l,f' a<=f a)->(∃a∈l,f' a<f a)->(l.map f').sum<(l.map f).sum
 |[],_,h=>by obtain⟨a,ha,_⟩:=h;cases ha
 | x ::l,h1,h2=>by
  rw[List.map_cons,List.sum_cons,List.map_cons,List.sum_cons]
  have le:(l.map f').sum<=(l.map f).sum:=by
   clear h2
   induction l with
   |nil=>simp
   | cons y l ih=>
    rw[List.map_cons,List.sum_cons,List.map_cons,List.sum_cons]
    have:=h1 y (by simp)
    have:=ih λa ha=>h1 a (by
     rcases List.mem_cons.mp ha with z|z
     ·simp[z]
     ·simp[z])
    omega
  have hx:=h1 x List.mem_cons_self
  obtain⟨a,ha,hlt⟩:=h2
  rcases List.mem_cons.mp ha with z|z
  ·subst z;omega
  ·have:=N7 (l:=l) (λb hb=>h1 b (List.mem_cons_of_mem _ hb)) ⟨a,z,hlt⟩
   omega
theorem QJ (h:GI φ rs n st Gm gs ls) (hF:qC φ rs) (hG:∀r∈rs,-Gm<=r.g) (G0:0<=Gm) {C:Nat} (hC:∀v,v<n->φ v-φ st+n*Gm<C) {r:Rd} {a:Int} (hr:r∈rs) (hb:Bet gs r a) (hu:r.u<n) (hv:r.v<n) :
  kI φ st C n (gs.set r.v (some (a+r.g)))<kI φ st C n gs:=by
 have h':=h.step hF hG G0 hr hb hu hv
 have gg:∀w,gt (gs.set r.v (some (a+r.g))) w=if w=r.v then some (a+r.g) else gt gs w:=λw=>rX (by rw[h.lg];exact hv)
 have hcn:(CG (gs.set r.v (some (a+r.g))):Int)*Gm<=n*Gm:=by
  refine Int.mul_le_mul_of_nonneg_right ?_ G0
  have:CG (gs.set r.v (some (a+r.g)))<=(gs.set r.v (some (a+r.g))).length:=List.countP_le_length
  rw[List.length_set,h.lg] at this
  exact_mod_cast this
 have ub:=h'.ub r.v (a+r.g) (by rw[gg,if_pos rfl])
 have lb:=h'.lb r.v (a+r.g) (by rw[gg,if_pos rfl])
 have hlt:a1J φ st C (gs.set r.v (some (a+r.g))) r.v<a1J φ st C gs r.v:=by
  unfold a1J
  rw[gg,if_pos rfl]
  dsimp only
  cases hgv:gt gs r.v with
  | none=>
   dsimp only
   have:=hC r.v hv
   omega
  | some b=>
   dsimp only
   have:=hb.up b hgv
   omega
 refine N7 (λw _=>?_) ⟨r.v,List.mem_range.mpr hv,hlt⟩
 by_cases z:w=r.v
 ·rw[z];exact Nat.le_of_lt hlt
 ·unfold a1J
  rw[gg,if_neg z]
  exact Nat.le_refl _
def SQ(gs:Gs)(rs:List Rd):Prop:=∀r∈rs,∀a,gt gs r.u=some a->∃b,gt gs r.v=some b/\a+r.g<=b
theorem OL (hn:gt ls st=none):∀ {k k' v:Nat},Ch ls st k v->Ch ls st k' v->k=k':=by
 intro k
 induction k with
 | zero=>
  intro k' v h h'
  cases h
  cases h' with
  |base=>rfl
  |step e _=>rw[hn] at e;cases e
 | succ k ih=>
  intro k' v h h'
  cases h with
  | step e c=>
   cases h' with
   |base=>rw[hn] at e;cases e
   |step e' c'=>rw[e] at e';cases e';rw[ih c c']
inductive Way(ls:Ls)(st:Nat):Nat->List Rd->Prop where
 |base:Way ls st st []
 |step {v:Nat} {r:Rd} {p:List Rd}:gt ls v=some r->Way ls st r.u p->Way ls st v (r::p)
theorem Z3:∀ {k v:Nat},Ch ls st k v->∃p,Way ls st v p/\p.length=k:=by
 intro k
 induction k with
 |zero=>intro v h;cases h;exact⟨[],.base,rfl⟩
 | succ k ih=>
  intro v h
  cases h with
  | step e c=>
   obtain⟨p,hp,hl⟩:=ih c
   exact⟨_::p,.step e hp,by simp[hl]⟩
theorem Way.ch{v:Nat}{p:List Rd}(h:Way ls st v p):Ch ls st p.length v:=by
 induction h with
 |base=>exact .base
 |step e _ ih=>exact .step e ih
end
def BW(r:Rd):PV:=.tup [.int (r.u:Nat),.int (r.v:Nat),.int r.g,gX r.k]
def NZ:Option Rd->PV
 |none=>.non
 |some r=>BW r
abbrev VM(gs:Gs):PV:=.lst (gs.map gX)
abbrev QN(ls:Ls):PV:=.lst (ls.map NZ)
abbrev IZ(rs:List Rd):PV:=.lst (rs.map BW)
theorem GS(o:Option Int):(gX o).flat=true:=by cases o<;>rfl
theorem A3(r:Rd):(BW r).flat=true:=by
 unfold BW
 rw[PV.flat,PV.flats,PV.flats,PV.flats,PV.flats,PV.flats,GS];rfl
theorem PX(x:Int)(r:Rd):(PV.tup [.int x,BW r]).flat=true:=by
 rw[PV.flat,PV.flats,PV.flats,PV.flats,A3];rfl
theorem SZ{gs:Gs}{v:Nat}(h:v<gs.length):iU (gs.map gX) (v:Int)=some (gX (gt gs v)):=by
 refine c9 (by omega) ?_
 rw[Int.toNat_natCast,List.getElem?_map,a0a h]
 unfold gt
 rw[a0c,a0a h];rfl
theorem T5{ls:Ls}{v:Nat}(h:v<ls.length):iU (ls.map NZ) (v:Int)=some (NZ (gt ls v)):=by
 refine c9 (by omega) ?_
 rw[Int.toNat_natCast,List.getElem?_map,a0a h]
 unfold gt
 rw[a0c,a0a h];rfl
theorem zP:∀rs:List Rd,∃Gm:Int,0<=Gm/\∀r∈rs,-Gm<=r.g
 |[]=>⟨0,Int.le_refl _,λr h=>by cases h⟩
 | r::rs=>by
  obtain⟨G,h0,h⟩:=zP rs
  refine⟨max G (-r.g),by omega,λq hq=>?_⟩
  rcases List.mem_cons.mp hq with z|z
  ·subst z;omega
  ·have:=h q z;omega
theorem zO (f:Nat->Int):∀n:Nat,∃C:Nat,∀v,v<n->f v<C
 |0=>⟨0,λv h=>by omega⟩
 | n+1=>by
  obtain⟨C,h⟩:=zO f n
  refine⟨max C ((f n).toNat+1),λv hv=>?_⟩
  by_cases e:v=n
  ·subst e;omega
  ·have:=h v (by omega);omega
theorem xR{n v:Nat}(h:v<n):rZ n (v:Int)=some v:=by
 unfold rZ
 rw[if_pos (by omega),if_pos (by omega),Int.toNat_natCast]
theorem a13(n:Nat):(List.replicate (n:Int).toNat [PV.non]).flatten=(List.replicate n (none:Option Int)).map gX:=by
 rw[Int.toNat_natCast,List.map_replicate];simp[gX]
theorem a15(n:Nat):(List.replicate (n:Int).toNat [PV.non]).flatten=(List.replicate n (none:Option Rd)).map NZ:=by
 rw[Int.toNat_natCast,List.map_replicate];simp[NZ]
theorem CK{α:Type}{n v:Nat}:gt (List.replicate n (none:Option α)) v=none:=by
 unfold gt
 rw[a0c,List.getElem?_replicate]
 split<;>rfl
theorem map_set{α:Type}(f:α->PV)(l:List α)(i:Nat)(x:α):(l.map f).set i (f x)=(l.set i x).map f:=by rw[List.map_set]
theorem KN {φ:Nat->Int} {rs:List Rd} {n st:Nat} {Gm:Int} (hst:st<n) (G0:0<=Gm):GI φ rs n st Gm ((List.replicate n none).set st (some 0)) (List.replicate n none):=by
 have gg:∀w,gt ((List.replicate n (none:Option Int)).set st (some 0)) w=if w=st then some 0 else none:=λw=>by rw[rX (by simpa using hst),CK]
 have one:∀v b,gt ((List.replicate n (none:Option Int)).set st (some 0)) v=some b->v=st/\b=0:=λv b h=>by
  rw[gg] at h
  split at h
  ·rename_i z;cases h;exact⟨z,rfl⟩
  ·cases h
 refine⟨by simp,by simp,by rw[gg,if_pos rfl],CK,λv b h=>?_,λv b h=>?_,λv r h=>?_,λv b h=>.inl (one v b h).1,λv b h=>?_⟩
 ·obtain⟨rfl,rfl⟩:=one v b h;omega
 ·obtain⟨rfl,rfl⟩:=one v b h
  have:0<=(CG ((List.replicate n (none:Option Int)).set v (some 0)):Int)*Gm:=Int.mul_nonneg (by omega) G0
  omega
 ·rw[CK] at h;cases h
 ·obtain⟨rfl,rfl⟩:=one v b h;exact⟨0,.base⟩
theorem oO {rs:List Rd} {n st:Nat} {φ:Nat->Int} {R:PV->Prop} (hF:qC φ rs) (hrs:∀r∈rs,r.u<n/\r.v<n) (hst:st<n) (hn:n<=100)
  (q:∀gs ls Gm,GI φ rs n st Gm gs ls->SQ gs rs->R (.tup [VM gs,QN ls])):bP [IZ rs,.int n,.int st] R:=by
 obtain⟨Gm,G0,hG⟩:=zP rs
 obtain⟨C,hC⟩:=zO (λv=>φ v-φ st+n*Gm) n
 unfold bP
 have h1000:n<=sizeLine:=bB (by omega)
 tb_from(⟨by omega,by omega,by simpa using h1000,?_⟩)
 rw[a13]
 tb_from(⟨by omega,by omega,by simpa using h1000,?_⟩)
 rw[a15]
 walk_at "w"
 rw[show rZ ((List.replicate n (none:Option Int)).map gX).length (st:Int)=some st from xR (by simpa using hst)]
 walk_at "w"
 rw[show ((List.replicate n (none:Option Int)).map gX).set st (PV.int 0)=((List.replicate n (none:Option Int)).set st (some 0)).map gX from map_set gX _ st (some 0)]
 refine⟨λm env=>∃(gs:Gs) (ls:Ls) (bet:Bool) (t6 t7 t8 t9 t10:Option PV),env=[some (IZ rs),some (.int n),some (.int st),some (VM gs),some (QN ls),some (.bl bet),t6,t7,t8,t9,t10]/\GI φ rs n st Gm gs ls/\(bet=true->m=kI φ st C n gs+1)/\(bet=false->m=0/\SQ gs rs),⟨_,_,_,true,none,none,none,none,none,rfl,KN hst G0,λ_=>rfl,λz=>by cases z⟩,?_⟩
 rintro m env ⟨gs,ls,bet,t6,t7,t8,t9,t10,rfl,hI,hbt,hbf⟩
 walk_at "w"
 cases bet with
 | false=>
  walk_at "w"
  exact q gs ls Gm hI (hbf rfl).2
 | true=>
  have hm:=hbt rfl
  refine⟨λenv'=>∃(gs':Gs) (ls':Ls) (bet:Bool) (t6 t7 t8 t9 t10:Option PV),env'=[some (IZ rs),some (.int n),some (.int st),some (VM gs'),some (QN ls'),some (.bl bet),t6,t7,t8,t9,t10]/\GI φ rs n st Gm gs' ls'/\(bet=true->kI φ st C n gs'<kI φ st C n gs)/\(bet=false->SQ gs' rs),?_,?_⟩
  ·rintro env' ⟨gs',ls',bet',s6,s7,s8,s9,s10,rfl,hI',h1,h2⟩
   cases bet' with
   |true=>exact⟨kI φ st C n gs'+1,by have:=h1 rfl;omega,gs',ls',true,_,_,_,_,_,rfl,hI',λ_=>rfl,λz=>by cases z⟩
   |false=>exact⟨0,by omega,gs',ls',false,_,_,_,_,_,rfl,hI',(λz=>by cases z),λ_=>⟨rfl,h2 rfl⟩⟩
  tb_from(fL (λi env=>∃(gs':Gs) (ls':Ls) (bet:Bool) (t6 t7 t8 t9 t10:Option PV),env=[some (IZ rs),some (.int n),some (.int st),some (VM gs'),some (QN ls'),some (.bl bet),t6,t7,t8,t9,t10]/\GI φ rs n st Gm gs' ls'/\(bet=true->kI φ st C n gs'<kI φ st C n gs)/\(bet=false->gs'=gs/\SQ gs' (rs.take i))) ⟨gs,ls,false,_,_,_,_,_,rfl,hI,(λz=>by cases z),λ_=>⟨rfl,λr hr=>by simp at hr⟩⟩ ?_ ?_)
  ·rintro i x env N hx ⟨gs',ls',bet,s6,s7,s8,s9,s10,rfl,hI',h1,h2⟩ hN
   rw[List.getElem?_map,Option.map_eq_some_iff] at hx
   obtain⟨r,hr,rfl⟩:=hx
   have hrm:=List.mem_of_getElem? hr
   obtain⟨hu,hv⟩:=hrs r hrm
   have au:=SZ (gs:=gs') (v:=r.u) (by rw[hI'.lg];exact hu)
   have av:=SZ (gs:=gs') (v:=r.v) (by rw[hI'.lg];exact hv)
   have later:∀bb:Option Int,gt gs' r.v=bb->∀t6' t7' t8' t9' t10':Option PV,(∀a,gt gs' r.u=some a->∃b,bb=some b/\a+r.g<=b)->N [some (IZ rs),some (.int n),some (.int st),some (VM gs'),some (QN ls'),some (.bl bet),t6',t7',t8',t9',t10']:=by
    intro bb hbb t6' t7' t8' t9' t10' hh
    refine hN _ ⟨gs',ls',bet,_,_,_,_,_,rfl,hI',h1,λz=>⟨(h2 z).1,λr' hr' a ha=>?_⟩⟩
    rw[List.take_add_one,hr] at hr'
    rcases List.mem_append.mp hr' with y|y
    ·exact (h2 z).2 r' y a ha
    ·simp at y
     subst y
     rw[hbb];exact hh a ha
   show RD.aF 6 (.tup [.int (r.u:Nat),.int (r.v:Nat),.int r.g,gX r.k]) _ _
   tb_from(⟨rfl,?_⟩)
   tb_from(cE au ?_)
   cases hgu:gt gs' r.u with
   | none=>
    walk_at "w"
    exact later _ rfl _ _ _ _ _ λa ha=>by rw[hgu] at ha;cases ha
   | some a=>
    tb_from(cE av ?_)
    have better:Bet gs' r a->RD.aO (RD.vS 3 4 (RD.lT (RD.jK (RD.a8 (RD.b9 RD.eE (RD.b9 dJ (RD.a9 3) (RD.a9 7)) (RD.a9 9)) (RD.a8 (RD.a9 6) RD.aG)))) (RD.a9 8) (RD.a9 8)) (RD.aO (RD.bN 5 (RD.pC (.bl true))) RD.bK) {nx:=N,rt:=R} [some (IZ rs),some (.int n),some (.int st),some (VM gs'),some (QN ls'),some (.bl bet),some (BW r),some (.int (r.u:Nat)),some (.int (r.v:Nat)),some (.int r.g),some (gX r.k)]:=by
     intro hb
     tb_from(cE au ?_)
     rw[hgu]
     tb_from(⟨PX _ r,?_⟩)
     walk_at "w"
     rw[show rZ (gs'.map gX).length (r.v:Int)=some r.v from xR (by rw[a0f,hI'.lg];exact hv)]
     walk_at "w"
     rw[show rZ (ls'.map NZ).length (r.v:Int)=some r.v from xR (by rw[a0f,hI'.ll];exact hv)]
     walk_at "w"
     rw[show (gs'.map gX).set r.v (PV.int (a+r.g))=(gs'.set r.v (some (a+r.g))).map gX from map_set gX _ r.v (some (a+r.g))]
     rw[show (ls'.map NZ).set r.v (BW r)=(ls'.set r.v (some r)).map NZ from map_set NZ _ r.v (some r)]
     refine hN _ ⟨gs'.set r.v (some (a+r.g)),ls'.set r.v (some r),true,_,_,_,_,_,rfl,hI'.step hF hG G0 hrm hb hu hv,λ_=>?_,λz=>by cases z⟩
     have l1:=QJ hI' hF hG G0 hC hrm hb hu hv
     cases bet with
     |true=>have:=h1 rfl;omega
     |false=>rw[(h2 rfl).1] at l1 ⊢;exact l1
    cases hgv:gt gs' r.v with
    | none=>
     walk_at "w"
     exact better ⟨hgu,λb hb=>by rw[hgv] at hb;cases hb⟩
    | some b=>
     tb_from(cE au ?_)
     rw[hgu]
     tb_from(cE av ?_)
     rw[hgv]
     tb_from(U4 (λh=>?_) λh=>?_)
     ·exact better ⟨hgu,λb' hb'=>by rw[hgv] at hb';cases hb';exact h⟩
     ·exact later _ hgv _ _ _ _ _ λa' ha'=>by
       rw[hgu] at ha';cases ha'
       exact⟨b,rfl,by omega⟩
  ·rintro env ⟨gs',ls',bet,s6,s7,s8,s9,s10,rfl,hI',h1,h2⟩
   rw[a0f,List.take_length] at h2
   walk_at "w"
   exact⟨gs',ls',bet,_,_,_,_,_,rfl,hI',h1,λz=>(h2 z).2⟩
theorem LF:∀(n:Nat) (l:List Nat),l.Nodup->(∀x∈l,x<n)->l.length<=n:=by
 intro n
 induction n with
 | zero=>intro l _ h;cases l with
  |nil=>simp
  |cons a l=>have:=h a List.mem_cons_self;omega
 | succ n ih=>
  intro l nd h
  by_cases hm:n∈l
  ·have:(l.erase n).length<=n:=by
    refine ih _ (nd.sublist List.erase_sublist) λx hx=>?_
    have hx':=List.mem_of_mem_erase hx
    have hne:x≠n:=λz=>by subst z;exact (List.Nodup.not_mem_erase nd) hx
    have:=h x hx'
    omega
   rw[List.length_erase_of_mem hm] at this
   omega
  ·have:=ih l nd λx hx=>by
    have h1:=h x hx
    have:x≠n:=λz=>by subst z;exact hm hx
    omega
   omega
section
variable{φ:Nat->Int}{rs:List Rd}{n st:Nat}{Gm:Int}{gs:Gs}{ls:Ls}
theorem FS {v:Nat} {p:List Rd} (h:Way ls st v p):∀r∈p,∃w k,gt ls w=some r/\Ch ls st k w/\k<=p.length/\0<k:=by
 induction h with
 |base=>intro r hr;cases hr
 | @step v r p e w ih=>
  intro r' hr'
  rcases List.mem_cons.mp hr' with z|z
  ·subst z
   exact⟨v,p.length+1,e,.step e w.ch,by simp,by omega⟩
  ·obtain⟨w',k,h1,h2,h3,h4⟩:=ih r' z
   exact⟨w',k,h1,h2,by simp;omega,h4⟩
theorem GI.wayIn(h:GI φ rs n st Gm gs ls){v:Nat}{p:List Rd}(w:Way ls st v p):∀r∈p,r∈rs/\gt ls r.v=some r:=by
 intro r hr
 obtain⟨w',k,e,_⟩:=FS w r hr
 obtain⟨h1,h2,_⟩:=h.las w' r e
 exact⟨h1,by rw[h2];exact e⟩
theorem GI.wayNd (h:GI φ rs n st Gm gs ls) {v:Nat} {p:List Rd} (w:Way ls st v p):(p.map Rd.v).Nodup:=by
 induction w with
 |base=>exact List.nodup_nil
 | @step v r p e w ih=>
  rw[List.map_cons,List.nodup_cons]
  refine⟨λhm=>?_,ih⟩
  obtain⟨r',hr',z⟩:=List.mem_map.mp hm
  obtain⟨w',k,e',c',hk,_⟩:=FS w r' hr'
  obtain⟨_,h2,_⟩:=h.las w' r' e'
  obtain⟨_,h3,_⟩:=h.las v r e
  have:w'=v:=by rw[<- h2,z,h3]
  subst this
  have:=OL h.stl c' (.step e w.ch)
  omega
theorem GI.wayLen (h:GI φ rs n st Gm gs ls) (hrs:∀r∈rs,r.u<n/\r.v<n) {v:Nat} {p:List Rd} (w:Way ls st v p):p.length<=n:=by
 have:=LF n (p.map Rd.v) (h.wayNd w) λx hx=>by
  obtain⟨r,hr,rfl⟩:=List.mem_map.mp hx
  exact (hrs r (h.wayIn w r hr).1).2
 simpa using this
end
theorem qI {ls:Ls} {st goal:Nat} {p:List Rd} {R:PV->Prop} (hw:Way ls st goal p) (hn:gt ls st=none) (hg:goal<ls.length) (hu:∀r∈p,r.u<ls.length) (hp:p.length<=1000) (q:R (gV (p.filterMap Rd.k))):bW [QN ls,.int goal] R:=by
 unfold bW
 tb_from(⟨λm env=>∃(v:Nat) (p':List Rd) (ds:List Int) (t3 t4 t5:Option PV),env=[some (QN ls),some (.int v),some (gV ds),t3,t4,t5]/\Way ls st v p'/\m=p'.length/\ds++p'.filterMap Rd.k=p.filterMap Rd.k/\v<ls.length/\(∀r∈p',r.u<ls.length),⟨_,goal,p,[],none,none,none,rfl,hw,rfl,rfl,hg,hu⟩,?_⟩)
 rintro m env ⟨v,p',ds,t3,t4,t5,rfl,w,rfl,ht,hv,hu'⟩
 tb_from(cE (T5 hv) ?_)
 have hdl:ds.length<=1000:=by
  have:=congrArg List.length ht
  have:=List.length_filterMap_le Rd.k p
  rw[List.length_append] at*
  omega
 cases w with
 | base=>
  rw[hn]
  walk_at "w"
  rw[List.filterMap_nil,List.append_nil] at ht
  rw[ht];exact q
 | @step _ r p'' e w=>
  rw[e]
  unfold NZ BW
  tb_from(⟨λenv'=>∃(v:Nat) (ds:List Int) (t3 t4 t5:Option PV),env'=[some (QN ls),some (.int v),some (gV ds),t3,t4,t5]/\Way ls st v p''/\ds++p''.filterMap Rd.k=p.filterMap Rd.k/\v<ls.length,?_,?_⟩)
  ·rintro env' ⟨v',ds',s3,s4,s5,rfl,w',ht',hv'⟩
   exact⟨p''.length,by simp,v',p'',ds',s3,s4,s5,rfl,w',rfl,ht',hv',λr' hr'=>hu' r' (List.mem_cons_of_mem _ hr')⟩
  walk_at "w"
  refine cE (z:=BW r) (by rw[T5 hv,e];rfl) ?_
  unfold BW
  tb_from(⟨rfl,?_⟩)
  walk_at "w"
  have hr:=hu' r List.mem_cons_self
  rw[List.filterMap_cons] at ht
  cases hk:r.k with
  | none=>
   rw[hk] at ht
   walk_at "w"
   exact⟨r.u,ds,_,_,_,rfl,w,ht,hr⟩
  | some k=>
   rw[hk] at ht
   tb_from(⟨rfl,?_⟩)
   tb_from(⟨rfl,?_⟩)
   walk_at "w"
   refine⟨oH (n:=(ds.map PV.int).length) (by rw[a0f];exact hdl),?_⟩
   have ei:gV (ds++[k])= .lst (ds.map PV.int++[gX (some k)]):=by unfold gV;rw[List.map_append];rfl
   exact⟨r.u,ds++[k],some (.int (r.v:Nat)),some (.int r.g),some (gX (some k)),by rw[ei],w,by rw[List.append_assoc];exact ht,hr⟩
theorem xF{ks ms:List Int}{R:PV->Prop}(h1:ks.length<32)(h2:ms.length<32)(q:R (gV (aM (lK ks ms)))):d9 [gV ks,gV ms] R:=by
 unfold d9
 tb_from(vO h1 ?_)
 tb_from(vO h2 ?_)
 exact q
def uO(bk:List Sr):List Int:=if aM (fY bk)=[] then [0] else aM (fY bk)
theorem zQ {bk:List Sr} {R:PV->Prop} (hl:bk.length<=31) (q:R (gV (uO bk))):e8 [bZ bk] R:=by
 unfold e8
 tb_from(vC hl ?_)
 walk_at "w"
 unfold uO at q
 refine U3 (λh=>?_) λh=>?_
 ·rw[if_neg (λz=>by rw[z] at h;cases h)] at q;exact q
 ·have:aM (fY bk)=[]:=by
   cases hu:aM (fY bk) with
   |nil=>rfl
   |cons a l=>rw[hu] at h;cases h
  rw[if_pos this] at q
  walk_at "w"
  exact q
def eT(γ:Nat->Int)(i:Nat):Int:=γ (i+1)-γ i
def iQ(γ:Nat->Int)(sp:List Int):List Pr:=(sp.zipIdx.filter λz=>decide (0<eT γ z.2)).map λz=>(z.1,eT γ z.2)
theorem zR {γ:Nat->Int} {n:Nat} {sp:List Int} {R:PV->Prop} (hn:n<=1000) (hs:sp.length<n) (q:R (sW (iQ γ sp))):e9 [gV ((List.range n).map γ),gV sp] R:=by
 unfold e9
 have hat:∀i,i<n->iU (((List.range n).map γ).map PV.int) (i:Int)=some (.int (γ i)):=λi hi=>c9 (by omega) (by
  rw[Int.toNat_natCast,List.getElem?_map,List.getElem?_map,List.getElem?_range hi];rfl)
 walk_at "w"
 refine⟨by omega,by rw[a0f];omega,?_⟩
 refine⟨by rw[bE];exact bB (by rw[a0f];omega),?_⟩
 refine gO (λi acc env=>acc=((List.range i).map (eT γ)).map PV.int/\∃t,env=[t,some (gV ((List.range n).map γ))]) ⟨rfl,_,rfl⟩ ?_ ?_
 ·rintro i x acc env N hx ⟨rfl,t,rfl⟩ hN
  obtain⟨rfl,hi⟩:=fD hx
  rw[a0f] at hi
  have x0:(0:Int)+(i:Int)=i:=by omega
  rw[x0]
  walk_at "w"
  refine cE (by have:=hat (i+1) (by omega);rw[<- this];congr 1) ?_
  tb_from(cE (hat i (by omega)) ?_)
  tb_from(hN _ _ ⟨?_,_,rfl⟩)
  rw[List.range_succ];simp[eT]
 ·rintro acc env ⟨rfl,t,rfl⟩
  have e1:(c4 0 ((sp.map PV.int).length:Int).toNat).length=sp.length:=by rw[bE,a0f];omega
  rw[e1]
  walk_at "w"
  refine⟨by rw[j4];exact bB (by simp;omega),?_⟩
  refine gO (λi acc env=>acc=(((sp.take i).zipIdx.filter λz=>decide (0<eT γ z.2)).map λz=>(z.1,eT γ z.2)).map Z6/\∃t1 t2,env=[t1,t2]) ⟨rfl,_,_,rfl⟩ ?_ ?_
  ·rintro i x acc env N hx ⟨rfl,t1,t2,rfl⟩ hN
   rw[zI] at hx
   obtain⟨a,b,ha,hb,rfl⟩:=hx
   rw[List.getElem?_map,Option.map_eq_some_iff] at ha hb
   obtain⟨s,hs',rfl⟩:=ha
   obtain⟨v,hv,rfl⟩:=hb
   rw[List.getElem?_map,Option.map_eq_some_iff] at hv
   obtain⟨j,hj,rfl⟩:=hv
   have hjl:=(List.getElem?_eq_some_iff.mp hj).1
   rw[List.length_range] at hjl
   rw[List.getElem?_range hjl] at hj
   cases hj
   have ez:(sp.take (i+1)).zipIdx=(sp.take i).zipIdx++[(s,i)]:=by
    rw[List.take_add_one,hs',List.zipIdx_append]
    have:(sp.take i).length=i:=by rw[List.length_take];omega
    simp[this]
   tb_from(⟨rfl,?_⟩)
   tb_from(U4 (λh=>?_) λh=>?_)
   ·refine hN _ _ ⟨?_,_,_,rfl⟩
    rw[ez,List.filter_append,List.filter_cons,if_pos (by simpa using h)]
    simp[Z6]
   ·refine hN _ _ ⟨?_,_,_,rfl⟩
    rw[ez,List.filter_append,List.filter_cons,if_neg (by simpa using h)]
    simp
  ·rintro acc env ⟨rfl,t1,t2,rfl⟩
   have e2:(uV (sp.map PV.int) (((List.range sp.length).map (eT γ)).map PV.int)).length=sp.length:=by rw[j4];simp
   rw[e2,List.take_length]
   exact⟨KC _,q⟩
end Lib
namespace L2
open PySem
theorem JW {g:hW} {tt:eS} {tk tv:aR} {Q:PV->Prop}:∀ {items:List PV} {ks:List cI} {xs:List PV} {env:b5} (I:Nat->List cI->List PV->b5->Prop),I 0 ks xs env->
  (∀(i:Nat) (x:PV) (ks:List cI) (xs:List PV) (env:b5) (N:List cI->List PV->b5->Prop),items[i]? =some x->I i ks xs env->(∀ks' xs' env',I (i+1) ks' xs' env'->N ks' xs' env')->g x env λenv1=>tt env1 λb=>Br b (tk env1 λk=>tv env1 λy=>match VU k with
   |some kk=>ks.length<1000/\N (OU ks kk) (IV ks xs kk y) env1
   |none=>False) (N ks xs env1))->
  (∀ks xs env,I items.length ks xs env->Q (.dic ks xs))->uM g tt tk tv Q items ks xs env
 |[],ks,xs,env,I,h0,hs,hd=>hd ks xs env h0
 | x::items,ks,xs,env,I,h0,hs,hd=>by
  rw[uM]
  refine hs 0 x ks xs env (λks xs env=>uM g tt tk tv Q items ks xs env) rfl h0 λks' xs' env' h=>?_
  exact JW (λi=>I (i+1)) h (λi y a b e N hy=>hs (i+1) y a b e N (by simpa using hy)) λa b e h=>hd a b e (by simpa using h)
end L2
namespace Lib
open PySem L2
theorem KD(rs:List Rd):PV.flats (rs.map BW)=true:=PV.flats_of λx h=>by obtain⟨s,_,rfl⟩:=List.mem_map.mp h;exact A3 s
def rE(m:Nat):List Rd:=(List.range m).map λi=>⟨i,i+1,0,none⟩
def rG(rooms:List Int)(m:Nat):List Rd:=((List.range m).filter λi=>decide (0<rooms.getD i 0)).map λi=>⟨i+1,i,0,none⟩
def A5(rooms:List Int):List Rd:=rE rooms.length++(rG rooms rooms.length).reverse
theorem xG {rooms:List Int} {R:PV->Prop} (hl:rooms.length<=100) (q:R (IZ (A5 rooms))):dA [gV rooms] R:=by
 unfold dA
 walk_at "w"
 refine⟨by omega,by rw[a0f];omega,?_⟩
 refine⟨by rw[bE];exact bB (by rw[a0f];omega),?_⟩
 refine gO (λi acc env=>acc=(rE i).map BW/\∃t,env=[t]) ⟨rfl,_,rfl⟩ ?_ ?_
 ·rintro i x acc env N hx ⟨rfl,t,rfl⟩ hN
  obtain⟨rfl,hi⟩:=fD hx
  have x0:(0:Int)+(i:Int)=i:=by omega
  rw[x0]
  tb_from(hN _ _ ⟨?_,_,rfl⟩)
  unfold rE
  rw[List.range_succ,List.map_append,List.map_append];rfl
 ·rintro acc env ⟨rfl,t,rfl⟩
  have e1:(c4 0 ((rooms.map PV.int).length:Int).toNat).length=rooms.length:=by rw[bE,a0f];omega
  rw[e1]
  walk_at "w"
  refine⟨bB (by rw[gE,a0f];omega),?_⟩
  refine gO (λi acc env=>acc=(rG rooms i).map BW/\∃t1 t2,env=[t1,t2]) ⟨rfl,_,_,rfl⟩ ?_ ?_
  ·rintro i x acc env N hx ⟨rfl,t1,t2,rfl⟩ hN
   rw[nH,List.getElem?_map,Option.map_map,Option.map_eq_some_iff] at hx
   obtain⟨r,hr,rfl⟩:=hx
   have eg:rooms.getD i 0=r:=by rw[a0c,hr];rfl
   show RD.cW 2 _ (.tup [.int (i:Int),.int r]) _ _
   tb_from(⟨rfl,?_⟩)
   tb_from(U4 (λh=>?_) λh=>?_)
   ·refine hN _ _ ⟨?_,_,_,rfl⟩
    unfold rG
    rw[List.range_succ,List.filter_append,List.filter_cons,if_pos (by rw[eg];simpa using h),List.map_append,List.map_append];rfl
   ·refine hN _ _ ⟨?_,_,_,rfl⟩
    unfold rG
    rw[List.range_succ,List.filter_append,List.filter_cons,if_neg (by rw[eg];simpa using h)];simp
  ·rintro acc env ⟨rfl,t1,t2,rfl⟩
   rw[gE,a0f]
   tb_from(⟨rfl,?_⟩)
   have hb:(rG rooms rooms.length).length<=rooms.length:=by
    unfold rG
    rw[a0f]
    have:=List.length_filter_le (λi=>decide (0<rooms.getD i 0)) (List.range rooms.length)
    simpa using this
   refine⟨bB (by simp[rE];omega),?_⟩
   rw[<- List.map_reverse,<- List.map_append]
   exact⟨KD _,q⟩
def gW(pl:List Int)(m:Int):Nat:=pl.idxOf m
theorem SV:∀(pl:List Int) (o:Nat) (m:Int),m∈pl->NY (pl.map λp=>(Sum.inl p:cI)) ((List.range' o pl.length).map λ(i:Nat)=>PV.int (i:Int)) (.inl m)=some (.int ((o+gW pl m:Nat):Int))
 |[],o,m,h=>by cases h
 | p::pl,o,m,h=>by
  unfold NY gW
  rw[List.length_cons,List.range'_succ,List.map_cons,List.map_cons,List.zip_cons_cons,List.find?_cons]
  by_cases e:p=m
  ·subst e
   simp
  ·have e':decide ((Sum.inl p:cI)= .inl m)=false:=by simp[e]
   dsimp only
   rw[e']
   have hm:m∈pl:=(List.mem_cons.mp h).resolve_left λz=>e z.symm
   have ih:=SV pl (o+1) m hm
   unfold NY gW at ih
   dsimp only
   rw[ih,List.idxOf_cons]
   have:(p==m)=false:=by simpa using e
   rw[this]
   simp
   omega
theorem SW{pl:List Int}{m:Int}(h:m∈pl):NY (pl.map λp=>(Sum.inl p:cI)) ((List.range pl.length).map λ(i:Nat)=>PV.int (i:Int)) (.inl m)=some (.int (gW pl m:Nat)):=by
 have:=SV pl 0 m h
 rw[<- List.range_eq_range',Nat.zero_add] at this
 exact this
def d4(pl ks:List Int)(s:Sr)(k:Nat):Rd:=if (k:Int)∈ks then ⟨gW pl s.e,gW pl s.b,-s.w,some (k:Int)⟩ else ⟨gW pl s.b,gW pl s.e,s.w,some (k:Int)⟩
def S0(bk:List Sr)(pl ks:List Int):List Rd:=bk.zipIdx.map λz=>d4 pl ks z.1 z.2
theorem GK(ks:List Int):PV.deps (ks.map PV.int)<=60:=Nat.le_trans (PV.deps_of (n:=0) λx h=>by obtain⟨k,_,rfl⟩:=List.mem_map.mp h;rw[EC];exact Nat.le_refl _) (by decide)
theorem qT{ks:List cI}{xs:List PV}{m:Int}{z:PV}{Q:PV->Prop}(h:NY ks xs (.inl m)=some z)(q:Q z):sI (.dic ks xs) (.int m) Q:=by
 show (match NY ks xs (.inl m) with|some z=>Q z|none=>False)
 rw[h];exact q
theorem qJ {bk:List Sr} {pl ks:List Int} {R:PV->Prop} (hb:bk.length<=31) (hp:pl.length<=100) (nd:pl.Nodup) (hin:∀s∈bk,s.b∈pl/\s.e∈pl) (hk:ks.length<=100) (q:R (IZ (S0 bk pl ks))):bX [bZ bk,gV pl,gV ks] R:=by
 unfold bX
 tb_from(JW (λi a b env=>a=(pl.take i).map (λp=>(Sum.inl p:cI))/\b=(List.range i).map (λ(i:Nat)=>PV.int (i:Int))/\∃t1 t2,env=[t1,t2]) ⟨rfl,rfl,_,_,rfl⟩ ?_ ?_)
 ·rintro i x a b env N hx ⟨rfl,rfl,t1,t2,rfl⟩ hN
  rw[nH,List.getElem?_map,Option.map_map,Option.map_eq_some_iff] at hx
  obtain⟨m,hm,rfl⟩:=hx
  have hi:=(List.getElem?_eq_some_iff.mp hm).1
  show RD.cW 2 _ (.tup [.int (i:Int),.int m]) _ _
  tb_from(⟨rfl,?_⟩)
  tb_from(⟨rfl,?_⟩)
  walk_at "w"
  have nk:kIn ((pl.take i).map (λp=>(Sum.inl p:cI))) (.inl m)=false:=by
   unfold kIn
   rw[List.any_eq_false]
   intro k hk'
   obtain⟨p,hp',rfl⟩:=List.mem_map.mp hk'
   have:p≠m:=by
    rintro rfl
    obtain⟨j,hj,ej⟩:=List.getElem_of_mem hp'
    rw[List.length_take] at hj
    rw[List.getElem_take] at ej
    obtain⟨_,em⟩:=List.getElem?_eq_some_iff.mp hm
    have:=(List.nodup_iff_pairwise_ne.mp nd)
    have:=(List.pairwise_iff_getElem.mp this) j i (by omega) hi (by omega)
    exact this (ej.trans em.symm)
   simp[this]
  refine⟨by rw[a0f,List.length_take];omega,?_⟩
  refine hN _ _ _ ⟨?_,?_,_,_,rfl⟩
  ·unfold OU
   rw[nk,List.take_add_one,hm,List.map_append];rfl
  ·unfold IV
   rw[nk,List.range_succ,List.map_append];rfl
 ·rintro a b env ⟨rfl,rfl,t1,t2,rfl⟩
  rw[gE,a0f,List.take_length]
  generalize hd:PV.dic (pl.map λp=>(Sum.inl p:cI)) ((List.range pl.length).map λ(i:Nat)=>PV.int (i:Int))=dd
  tb_from(fL (λi env=>∃t5 t6 t7 t8 t9,env=[some (bZ bk),some (gV pl),some (gV ks),some dd,some (IZ ((bk.take i).zipIdx.map λz=>d4 pl ks z.1 z.2)),t5,t6,t7,t8,t9]) ⟨_,_,_,_,_,rfl⟩ ?_ ?_)
  ·rintro i x env N hx ⟨t5,t6,t7,t8,t9,rfl⟩ hN
   rw[nH,List.getElem?_map,Option.map_map,Option.map_eq_some_iff] at hx
   obtain⟨s,hs,rfl⟩:=hx
   have hi:=(List.getElem?_eq_some_iff.mp hs).1
   obtain⟨mb,me⟩:=hin s (List.mem_of_getElem? hs)
   have gb:=SW mb
   have ge:=SW me
   have ez:(bk.take (i+1)).zipIdx=(bk.take i).zipIdx++[(s,i)]:=by
    rw[List.take_add_one,hs,List.zipIdx_append]
    have:(bk.take i).length=i:=by rw[List.length_take];omega
    simp[this]
   have hlen:(((bk.take i).zipIdx.map λz=>d4 pl ks z.1 z.2).map BW).length<=1000:=by
    rw[a0f,a0f,List.length_zipIdx,List.length_take];omega
   have es:IZ ((bk.take (i+1)).zipIdx.map λz=>d4 pl ks z.1 z.2)= .lst ((((bk.take i).zipIdx.map λz=>d4 pl ks z.1 z.2).map BW)++[BW (d4 pl ks s i)]):=by
    rw[ez];unfold IZ;rw[List.map_append,List.map_append];rfl
   show RD.cW 2 _ (.tup [.int (i:Int),.tup [.str s.nm,.int s.b,.int s.e,.int s.w]]) _ _
   tb_from(⟨rfl,?_⟩)
   tb_from(⟨rfl,?_⟩)
   walk_at "w"
   refine⟨by rw[EC];decide,GK ks,?_⟩
   rw[O8]
   subst hd
   refine U4 (λh=>?_) λh=>?_
   ·tb_from(⟨rfl,?_⟩)
    tb_from(qT ge ?_)
    tb_from(qT gb ?_)
    tb_from(⟨rfl,?_⟩)
    tb_from(⟨oH hlen,?_⟩)
    refine hN _ ⟨some (.int (i:Int)),some (.str s.nm),some (.int s.b),some (.int s.e),some (.int s.w),?_⟩
    rw[es]
    have:d4 pl ks s i=⟨gW pl s.e,gW pl s.b,-s.w,some (i:Int)⟩:=if_pos h
    rw[this];rfl
   ·tb_from(⟨rfl,?_⟩)
    tb_from(qT gb ?_)
    tb_from(qT ge ?_)
    tb_from(⟨rfl,?_⟩)
    tb_from(⟨oH hlen,?_⟩)
    refine hN _ ⟨some (.int (i:Int)),some (.str s.nm),some (.int s.b),some (.int s.e),some (.int s.w),?_⟩
    rw[es]
    have:d4 pl ks s i=⟨gW pl s.b,gW pl s.e,s.w,some (i:Int)⟩:=if_neg h
    rw[this];rfl
  ·rintro env ⟨t5,t6,t7,t8,t9,rfl⟩
   rw[gE,a0f,List.take_length]
   walk_at "w"
   exact q
def dC(bk:List Sr)(ks lim pl:List Int):List Int:=(lim.zip pl).map λ(z:Int×Int)=>z.1-((aL (aH bk ks) z.2:Nat):Int)
def fI(bk:List Sr)(pl lim ks:List Int):List Rd:=A5 (dC bk ks lim pl)++S0 bk pl ks
theorem CD {bk:List Sr} {pl lim ks:List Int} {R:PV->Prop} (hb:bk.length<=31) (hp:pl.length<=100) (nd:pl.Nodup) (hin:∀s∈bk,s.b∈pl/\s.e∈pl) (hk:ks.length<=100) (ok:∀k∈ks,0<=k/\k<(bk.length:Int)) (q:R (IZ (fI bk pl lim ks))):fB [bZ bk,gV pl,gV lim,gV ks] R:=by
 unfold fB
 walk_at "w"
 refine⟨by rw[j4];exact bB (by simp;omega),?_⟩
 refine gO (λi acc env=>acc=(((lim.zip pl).take i).map λ(z:Int×Int)=>z.1-((aL (aH bk ks) z.2:Nat):Int)).map PV.int/\∃t1 t2,env=[t1,t2,some (bZ bk),some (gV ks)]) ⟨rfl,_,_,rfl⟩ ?_ ?_
 ·rintro i x acc env N hx ⟨rfl,t1,t2,rfl⟩ hN
  rw[zI] at hx
  obtain⟨a,b,ha,hb',rfl⟩:=hx
  rw[List.getElem?_map,Option.map_eq_some_iff] at ha hb'
  obtain⟨l,hl,rfl⟩:=ha
  obtain⟨p,hp',rfl⟩:=hb'
  have ez:(lim.zip pl)[i]? =some (l,p):=List.getElem?_zip_eq_some.mpr ⟨hl,hp'⟩
  tb_from(⟨rfl,?_⟩)
  tb_from(vB (by omega) ok ?_)
  tb_from(hN _ _ ⟨?_,_,_,rfl⟩)
  rw[List.take_add_one,ez];simp
 ·rintro acc env ⟨rfl,t1,t2,rfl⟩
  have e1:(uV (lim.map PV.int) (pl.map PV.int)).length=(lim.zip pl).length:=by rw[j4];simp
  rw[e1,List.take_length]
  have hz:(lim.zip pl).length<=pl.length:=by rw[List.length_zip];omega
  walk_at "w"
  refine xG (rooms:=dC bk ks lim pl) (by unfold dC;rw[a0f];omega) ?_
  tb_from(qJ hb hp nd hin hk ?_)
  have hf:(A5 (dC bk ks lim pl)).length<=200:=by
   have h1:(dC bk ks lim pl).length<=100:=by unfold dC;rw[a0f];omega
   unfold A5 rE rG
   rw[List.length_append,List.length_reverse,a0f,a0f,List.length_range]
   have:=List.length_filter_le (λi=>decide (0<(dC bk ks lim pl).getD i 0)) (List.range (dC bk ks lim pl).length)
   rw[List.length_range] at this
   omega
  have hs:(S0 bk pl ks).length<=31:=by unfold S0;rw[a0f,List.length_zipIdx];omega
  refine⟨bB (by rw[a0f,a0f];omega),?_⟩
  rw[<- List.map_append]
  exact q
structure PlOk(bk:List Sr)(pl:List Int):Prop where
 lt:pl.Pairwise (· < ·)
 ne:0<pl.length
 mem:∀s∈bk,s.b∈pl/\s.e∈pl/\s.b<s.e
theorem PlOk.nd{bk:List Sr}{pl:List Int}(h:PlOk bk pl):pl.Nodup:=h.lt.imp λh=>by omega
theorem lP{pl:List Int}{m:Int}(h:m∈pl):gW pl m<pl.length:=List.idxOf_lt_length_of_mem h
theorem CP{pl:List Int}{m:Int}(h:m∈pl):pl[gW pl m]'(lP h)=m:=List.getElem_idxOf (lP h)
theorem PlOk.le {bk:List Sr} {pl:List Int} (h:PlOk bk pl) {m:Int} (hm:m∈pl) {c:Nat} (hc:c<pl.length):gW pl m<=c↔m<=pl[c]:=by
 have pw:=List.pairwise_iff_getElem.mp h.lt
 have e:=CP hm
 constructor
 ·intro z
  rcases Nat.eq_or_lt_of_le z with y|y
  ·subst y;rw[e];exact Int.le_refl _
  ·have:=pw _ _ (lP hm) hc y
   rw[e] at this;omega
 ·intro z
  refine Nat.le_of_not_lt λy=>?_
  have:=pw _ _ hc (lP hm) y
  rw[e] at this;omega
theorem PlOk.over{bk:List Sr}{pl:List Int}(h:PlOk bk pl){s:Sr}(hs:s∈bk){c:Nat}(hc:c<pl.length):aN s pl[c]=true↔gW pl s.b<=c/\c<gW pl s.e:=by
 obtain⟨h1,h2,h3⟩:=h.mem s hs
 rw[c5,h.le h1 hc]
 have:=h.le h2 hc
 omega
theorem PlOk.ilt{bk:List Sr}{pl:List Int}(h:PlOk bk pl){s:Sr}(hs:s∈bk):gW pl s.b<gW pl s.e:=by
 obtain⟨h1,h2,h3⟩:=h.mem s hs
 refine Nat.lt_of_not_le λz=>?_
 have:=(h.le h2 (lP h1)).mp z
 rw[CP h1] at this
 omega
def pB(c x:Nat):Int:=if x<=c then 0 else 1
def jU(c:Nat)(r:Rd):Int:=pB c r.v-pB c r.u
theorem IJ {ls:Ls} {st v:Nat} {p:List Rd} (hv:∀w r,gt ls w=some r->r.v=w) (h:Way ls st v p) (c:Nat):(p.map (jU c)).sum=pB c v-pB c st:=by
 induction h with
 |base=>simp
 | @step v r p e w ih=>
  rw[List.map_cons,List.sum_cons,ih]
  unfold jU
  rw[hv v r e];omega
theorem tW {f:Int->Int} {len:Nat}:∀ {ns:List Int},ns.Nodup->(∀k∈ns,0<=k/\k<(len:Int))->((List.range len).map λ(j:Nat)=>if (j:Int)∈ns then f (j:Int) else 0).sum=(ns.map f).sum
 | [],_,_=>by
  rw[List.map_nil,List.sum_nil]
  have:∀l:List Nat,(l.map λ(j:Nat)=>if (j:Int)∈([]:List Int) then f (j:Int) else 0).sum=0:=by
   intro l
   induction l with
   |nil=>rfl
   |cons a l ih=>rw[List.map_cons,List.sum_cons,ih];simp
  exact this _
 | k :: ns,nd,h=>by
  have nd':=List.nodup_cons.mp nd
  have ih:=tW (f:=f) nd'.2 λj hj=>h j (List.mem_cons_of_mem _ hj)
  rw[List.map_cons,List.sum_cons,<- ih]
  have hk:=h k List.mem_cons_self
  have key:∀l:List Nat,l.Nodup->(l.map λ(j:Nat)=>if (j:Int)∈k::ns then f (j:Int) else 0).sum=(if k.toNat∈l then f k else 0)+(l.map λ(j:Nat)=>if (j:Int)∈ns then f (j:Int) else 0).sum:=by
   intro l
   induction l with
   |nil=>intro _;rfl
   | cons a l ihl=>
    intro ndl
    have ndl':=List.nodup_cons.mp ndl
    rw[List.map_cons,List.sum_cons,List.map_cons,List.sum_cons,ihl ndl'.2]
    by_cases e:(a:Int)=k
    ·have ea:a=k.toNat:=by omega
     have n1:¬(a:Int)∈ns:=by rw[e];exact nd'.1
     have n2:¬k.toNat∈l:=by rw[<- ea];exact ndl'.1
     rw[if_pos (by rw[e];exact List.mem_cons_self),if_neg n2,if_neg n1,if_pos (by rw[<- ea];exact List.mem_cons_self),e]
    ·have e1:((a:Int)∈k::ns)↔(a:Int)∈ns:=by simp[e]
     have e2:(k.toNat∈a::l)↔k.toNat∈l:=by
      have:¬k.toNat=a:=by omega
      simp[this]
     simp only[e1,e2]
     omega
  rw[key _ List.nodup_range,if_pos (List.mem_range.mpr (by omega))]
theorem FI{α:Type}(f g:α->Int):∀l:List α,(l.map λa=>f a+g a).sum=(l.map f).sum+(l.map g).sum
 |[]=>rfl
 |a::l=>by rw[List.map_cons,List.sum_cons,List.map_cons,List.sum_cons,List.map_cons,List.sum_cons,FI f g l];omega
theorem cR{α:Type}{f g:α->Int}:∀ {l:List α},(∀a∈l,f a=g a)->(l.map f).sum=(l.map g).sum
 |[],_=>rfl
 |a::l,h=>by rw[List.map_cons,List.sum_cons,List.map_cons,List.sum_cons,h a List.mem_cons_self,cR λb hb=>h b (List.mem_cons_of_mem _ hb)]
theorem SmOk.nd{ks:List Int}{n:Nat}(h:SmOk ks n):ks.Nodup:=h.lt.imp λh=>by omega
theorem kP{bk:List Sr}{ks:List Int}{len:Nat}(h:SmOk ks len)(f:Sr->Int):((aH bk ks).map f).sum=((List.range len).map λ(j:Nat)=>if (j:Int)∈ks then f (eO bk (j:Int)) else 0).sum:=by
 rw[tW (f:=λk=>f (eO bk k)) h.nd h.at_]
 unfold aH
 rw[List.map_map];rfl
theorem xU (ss:List Sr) (m:Int):(aL ss m:Int)=(ss.map λs=>if aN s m then (1:Int) else 0).sum:=by
 unfold aL
 induction ss with
 |nil=>rfl
 | cons s ss ih=>
  rw[List.map_cons,List.sum_cons,<- ih,List.countP_cons]
  by_cases h:aN s m=true
  ·simp[h];omega
  ·simp[h]
theorem FT {bk:List Sr} {ks ns:List Int} {len:Nat} (hk:SmOk ks len) (nd:ns.Nodup) (hn:∀k∈ns,0<=k/\k<(len:Int)) (f:Sr->Int) :
  ((aH bk (aM (lK ks ns))).map f).sum=((aH bk ks).map f).sum+(ns.map λk=>if k∈ks then -f (eO bk k) else f (eO bk k)).sum:=by
 have hx:SmOk (aM (lK ks ns)) len:=⟨fP _,λk hk'=>by
  rw[bF,kK] at hk'
  rcases hk' with z|z
  ·exact hk.at_ k z.1
  ·exact hn k z.1⟩
 rw[kP hx,kP hk,<- tW (f:=λk=>if k∈ks then -f (eO bk k) else f (eO bk k)) nd hn,<- FI]
 refine cR λj _=>?_
 have e:((j:Int)∈aM (lK ks ns))↔(((j:Int)∈ks/\(j:Int)∉ns)\/((j:Int)∈ns/\(j:Int)∉ks)):=by rw[bF,kK]
 by_cases h1:(j:Int)∈ks<;>by_cases h2:(j:Int)∈ns<;>simp[e,h1,h2]<;>omega
theorem N2 {ks ns:List Int} {len:Nat} (hk:SmOk ks len) (hn:∀k∈ns,0<=k/\k<(len:Int)):SmOk (aM (lK ks ns)) len:=⟨fP _,λk hk'=>by
  rw[bF,kK] at hk'
  rcases hk' with z|z
  ·exact hk.at_ k z.1
  ·exact hn k z.1⟩
theorem FJ {f:Rd->Int} {A B:Rd} (hAB:A≠B):∀ {p:List Rd},p.Nodup->(∀r∈p,(r=A->f r=1)/\(r=B->f r=-1)/\(r≠A->r≠B->f r=0))->(p.map f).sum=(if A∈p then 1 else 0)-(if B∈p then 1 else 0)
 |[],_,_=>by simp
 | r::p,nd,h=>by
  have nd':=List.nodup_cons.mp nd
  have ih:=FJ hAB nd'.2 λq hq=>h q (List.mem_cons_of_mem _ hq)
  rw[List.map_cons,List.sum_cons,ih]
  obtain⟨h1,h2,h3⟩:=h r List.mem_cons_self
  by_cases eA:r=A
  ·subst eA
   have nB:¬(B=r):=λz=>hAB z.symm
   rw[h1 rfl]
   simp[nd'.1,nB]
   omega
  ·by_cases eB:r=B
   ·subst eB
    have nA:¬(A=r):=hAB
    rw[h2 rfl]
    simp[nd'.1,nA]
    omega
   ·have nA:¬(A=r):=λz=>eA z.symm
    have nB:¬(B=r):=λz=>eB z.symm
    rw[h3 eA eB]
    simp[nA,nB]
theorem I0{bk:List Sr}{ks lim pl:List Int}(h:lim.length<=pl.length):(dC bk ks lim pl).length=lim.length:=by
 unfold dC;rw[a0f,List.length_zip];omega
theorem kS{bk:List Sr}{ks lim pl:List Int}{c:Nat}(hc:c<lim.length)(hp:c<pl.length):(dC bk ks lim pl).getD c 0=lim[c]-((aL (aH bk ks) pl[c]:Nat):Int):=by
 unfold dC
 have ez:(lim.zip pl)[c]? =some (lim[c],pl[c]):=List.getElem?_zip_eq_some.mpr ⟨a0a hc,a0a hp⟩
 rw[a0c,List.getElem?_map,ez];rfl
theorem oB{bk:List Sr}{j:Nat}(h:j<bk.length):eO bk (j:Int)=bk[j]:=Y3 (a0a h)
theorem oC{bk:List Sr}{j:Nat}(h:j<bk.length):eO bk (j:Int)∈bk:=by rw[oB h];exact List.getElem_mem h
inductive RdIs(bk:List Sr)(pl lim ks:List Int):Rd->Prop where
 |ahead {i:Nat}:i<lim.length->RdIs bk pl lim ks ⟨i,i+1,0,none⟩
 |back {i:Nat}:i<lim.length->0<(dC bk ks lim pl).getD i 0->RdIs bk pl lim ks ⟨i+1,i,0,none⟩
 |str {j:Nat}:j<bk.length->RdIs bk pl lim ks (d4 pl ks (eO bk (j:Int)) j)
theorem k8 {bk:List Sr} {pl lim ks:List Int} (h:lim.length<=pl.length) {r:Rd}:r∈fI bk pl lim ks↔RdIs bk pl lim ks r:=by
 unfold fI A5
 rw[I0 h]
 constructor
 ·intro hr
  rcases List.mem_append.mp hr with z|z
  ·rcases List.mem_append.mp z with z|z
   ·obtain⟨i,hi,rfl⟩:=List.mem_map.mp z
    exact .ahead (List.mem_range.mp hi)
   ·obtain⟨i,hi,rfl⟩:=List.mem_map.mp (List.mem_reverse.mp z)
    obtain⟨h1,h2⟩:=List.mem_filter.mp hi
    exact .back (List.mem_range.mp h1) (by simpa using h2)
  ·obtain⟨⟨s,j⟩,hz,rfl⟩:=List.mem_map.mp z
   have:=List.mem_zipIdx hz
   have hj:j<bk.length:=by simpa using this.2.1
   have es:s=eO bk (j:Int):=by rw[oB hj];simpa using this.2.2
   dsimp only
   rw[es]
   exact .str hj
 ·intro hr
  cases hr with
  |ahead hi=>exact List.mem_append_left _ (List.mem_append_left _ (List.mem_map.mpr ⟨_,List.mem_range.mpr hi,rfl⟩))
  |back hi hr=>exact List.mem_append_left _ (List.mem_append_right _ (List.mem_reverse.mpr (List.mem_map.mpr ⟨_,List.mem_filter.mpr ⟨List.mem_range.mpr hi,by simpa using hr⟩,rfl⟩)))
  | @str j hj=>
   refine List.mem_append_right _ (List.mem_map.mpr ⟨(bk[j],j),?_,by rw[oB hj]⟩)
   exact List.mem_of_getElem? (i:=j) (by rw[List.getElem?_zipIdx,a0a hj];simp)
theorem FH{pl ks:List Int}{s:Sr}{j:Nat}:(d4 pl ks s j).k=some (j:Int):=by unfold d4;split<;>rfl
theorem RdIs.num {bk:List Sr} {pl lim ks:List Int} {r:Rd} (h:RdIs bk pl lim ks r) {k:Int} (hk:r.k=some k):0<=k/\k<(bk.length:Int)/\r=d4 pl ks (eO bk k) k.toNat:=by
 cases h with
 |ahead=>cases hk
 |back=>cases hk
 | @str j hj=>
  rw[FH] at hk
  cases hk
  exact⟨by omega,by omega,by rw[Int.toNat_natCast]⟩
theorem RdIs.lt {bk:List Sr} {pl lim ks:List Int} (hP:PlOk bk pl) (hl:lim.length+1=pl.length) {r:Rd} (h:RdIs bk pl lim ks r):r.u<pl.length/\r.v<pl.length:=by
 cases h with
 |ahead=>dsimp only;omega
 |back=>dsimp only;omega
 | @str j hj=>
  obtain⟨h1,h2,_⟩:=hP.mem _ (oC hj)
  have:=lP h1
  have:=lP h2
  unfold d4
  split<;>exact⟨by assumption,by assumption⟩
section
variable{bk:List Sr}{pl lim ks:List Int}{p:List Rd}
theorem xX (hp:p.Nodup) (hin:∀r∈p,RdIs bk pl lim ks r):(p.filterMap Rd.k).Nodup:=by
 induction p with
 |nil=>exact List.nodup_nil
 | cons r p ih=>
  have hp':=List.nodup_cons.mp hp
  have ih:=ih hp'.2 λq hq=>hin q (List.mem_cons_of_mem _ hq)
  rw[List.filterMap_cons]
  cases hk:r.k with
  |none=>exact ih
  | some k=>
   refine List.nodup_cons.mpr ⟨λhm=>?_,ih⟩
   obtain⟨r',hr',hk'⟩:=List.mem_filterMap.mp hm
   have e1:=((hin r List.mem_cons_self).num hk).2.2
   have e2:=((hin r' (List.mem_cons_of_mem _ hr')).num hk').2.2
   exact hp'.1 (by rw[e1,<- e2];exact hr')
theorem lA(hin:∀r∈p,RdIs bk pl lim ks r):∀k∈p.filterMap Rd.k,0<=k/\k<(bk.length:Int):=by
 intro k hk
 obtain⟨r,hr,e⟩:=List.mem_filterMap.mp hk
 have:=(hin r hr).num e
 exact⟨this.1,this.2.1⟩
theorem FK (f:Rd->Int) (hin:∀r∈p,RdIs bk pl lim ks r):(p.map f).sum=(p.map λr=>if r.k=none then f r else 0).sum+((p.filterMap Rd.k).map λk=>f (d4 pl ks (eO bk k) k.toNat)).sum:=by
 induction p with
 |nil=>rfl
 | cons r p ih=>
  have ih:=ih λq hq=>hin q (List.mem_cons_of_mem _ hq)
  rw[List.map_cons,List.sum_cons,ih,List.map_cons,List.sum_cons,List.filterMap_cons]
  cases hk:r.k with
  |none=>simp;omega
  | some k=>
   have e:=((hin r List.mem_cons_self).num hk).2.2
   simp only[reduceCtorEq,if_false]
   rw[List.map_cons,List.sum_cons,<- e];omega
theorem GH (hP:PlOk bk pl) {j:Nat} (hj:j<bk.length) {c:Nat} (hc:c<pl.length):jU c (d4 pl ks (eO bk (j:Int)) j)=if (j:Int)∈ks then -(if aN (eO bk (j:Int)) pl[c] then (1:Int) else 0) else (if aN (eO bk (j:Int)) pl[c] then (1:Int) else 0):=by
 have ho:=hP.over (oC hj) hc
 have hl:=hP.ilt (oC hj)
 unfold jU d4 pB
 by_cases hk:(j:Int)∈ks
 ·rw [if_pos hk,if_pos hk]
  dsimp only
  by_cases h:aN (eO bk (j:Int)) pl[c]=true
  ·have:=ho.mp h
   rw[if_pos h]
   rw[if_pos this.1,if_neg (by omega)];rfl
  ·rw[if_neg h]
   have:¬(gW pl (eO bk (j:Int)).b<=c/\c<gW pl (eO bk (j:Int)).e):=λz=>h (ho.mpr z)
   by_cases h1:gW pl (eO bk (j:Int)).b<=c
   ·rw[if_pos h1,if_pos (by omega)];rfl
   ·rw[if_neg h1,if_neg (by omega)];rfl
 ·rw [if_neg hk,if_neg hk]
  dsimp only
  by_cases h:aN (eO bk (j:Int)) pl[c]=true
  ·have:=ho.mp h
   rw[if_pos h]
   rw[if_pos this.1,if_neg (by omega)];rfl
  ·rw[if_neg h]
   have:¬(gW pl (eO bk (j:Int)).b<=c/\c<gW pl (eO bk (j:Int)).e):=λz=>h (ho.mpr z)
   by_cases h1:gW pl (eO bk (j:Int)).b<=c
   ·rw[if_pos h1,if_pos (by omega)];rfl
   ·rw[if_neg h1,if_neg (by omega)];rfl
theorem WC (hP:PlOk bk pl) (hk:SmOk ks bk.length) (hp:p.Nodup) (hin:∀r∈p,RdIs bk pl lim ks r) {c:Nat} (hc:c<pl.length) :
  ((aL (aH bk (aM (lK ks (p.filterMap Rd.k)))) pl[c]:Nat):Int)=(aL (aH bk ks) pl[c]:Nat)+(p.map (jU c)).sum-((if (⟨c,c+1,0,none⟩ : Rd)∈p then 1 else 0)-(if (⟨c+1,c,0,none⟩ : Rd)∈p then 1 else 0)):=by
 have h1:=FT (bk:=bk) hk (xX hp hin) (lA hin) λs=>if aN s pl[c] then (1:Int) else 0
 rw[xU,h1,<- xU,FK (jU c) hin]
 have h2:((p.filterMap Rd.k).map λk=>if k∈ks then -(if aN (eO bk k) pl[c] then (1:Int) else 0) else (if aN (eO bk k) pl[c] then (1:Int) else 0)).sum=((p.filterMap Rd.k).map λk=>jU c (d4 pl ks (eO bk k) k.toNat)).sum:=by
  refine cR λk hk'=>?_
  obtain⟨k0,k1⟩:=lA hin k hk'
  have:=GH (ks:=ks) hP (j:=k.toNat) (by omega) hc
  have e:((k.toNat:Nat):Int)=k:=by omega
  rw[e] at this
  exact this.symm
 rw[h2]
 have h3:(p.map λr=>if r.k=none then jU c r else 0).sum=(if (⟨c,c+1,0,none⟩ : Rd)∈p then 1 else 0)-(if (⟨c+1,c,0,none⟩ : Rd)∈p then 1 else 0):=by
  refine FJ (λz=>by injection z with z1 z2;omega) hp λr hr=>⟨λe=>?_,λe=>?_,λn1 n2=>?_⟩
  ·subst e;simp[jU,pB]
  ·subst e;simp[jU,pB]
  ·cases hin r hr with
   | @ahead i hi=>
    have:i≠c:=λz=>n1 (by rw[z])
    simp only[if_true]
    unfold jU pB
    dsimp only
    by_cases h:i<=c
    ·rw[if_pos h,if_pos (by omega)];rfl
    ·rw[if_neg h,if_neg (by omega)];rfl
   | @back i hi hr=>
    have:i≠c:=λz=>n2 (by rw[z])
    simp only[if_true]
    unfold jU pB
    dsimp only
    by_cases h:i<=c
    ·rw[if_pos h,if_pos (by omega)];rfl
    ·rw[if_neg h,if_neg (by omega)];rfl
   |@str j hj=>rw[if_neg (by rw[FH];simp)]
 rw[h3]
 omega
theorem a1R (hk:SmOk ks bk.length) (hp:p.Nodup) (hin:∀r∈p,RdIs bk pl lim ks r):d6 (aH bk (aM (lK ks (p.filterMap Rd.k))))=d6 (aH bk ks)+(p.map Rd.g).sum:=by
 have h1:=FT (bk:=bk) hk (xX hp hin) (lA hin) Sr.w
 unfold d6
 rw[h1,FK Rd.g hin]
 have h2:((p.filterMap Rd.k).map λk=>if k∈ks then -(eO bk k).w else (eO bk k).w).sum=((p.filterMap Rd.k).map λk=>(d4 pl ks (eO bk k) k.toNat).g).sum:=by
  refine cR λk hk'=>?_
  obtain⟨k0,k1⟩:=lA hin k hk'
  have e:((k.toNat:Nat):Int)=k:=by omega
  unfold d4
  rw[e]
  split<;>rfl
 have h3:(p.map λr=>if r.k=none then r.g else 0).sum=0:=by
  have:(p.map λr=>if r.k=none then r.g else 0).sum=(p.map λ_=>(0:Int)).sum:=cR λr hr=>by
   cases hin r hr with
   |ahead=>rfl
   |back=>rfl
   |@str j hj=>rw[if_neg (by rw[FH];simp)]
  rw[this]
  clear this hp hin h1 h2
  induction p with
  |nil=>rfl
  |cons a l ih=>rw[List.map_cons,List.sum_cons,ih];rfl
 rw[h2,h3];omega
end
theorem gT(f:Nat->Int)(m:Nat):((List.range (m+1)).map f).sum=((List.range m).map f).sum+f m:=by
 rw[List.range_succ,List.map_append,List.sum_append];simp
theorem JC (bk:List Sr) (f:Sr->Int):(bk.map f).sum=((List.range bk.length).map λ(j:Nat)=>f (eO bk (j:Int))).sum:=by
 have:bk.map f=(List.range bk.length).map λ(j:Nat)=>f (eO bk (j:Int)):=by
  apply List.ext_getElem
  ·simp
  ·intro i h1 h2
   simp at h1 h2 ⊢
   rw[oB h1]
 rw[this]
theorem yE {γ:Nat->Int} {sp:List Int} (F:Int->Int) (h0:∀c,c<sp.length->0<=eT γ c):((iQ γ sp).map λp=>p.2*F p.1).sum=((List.range sp.length).map λc=>eT γ c*F (sp.getD c 0)).sum:=by
 unfold iQ
 have key:∀m,m<=sp.length->(((((sp.take m).zipIdx.filter λz=>decide (0<eT γ z.2)).map λz=>((z.1,eT γ z.2):Pr))).map λp=>p.2*F p.1).sum=((List.range m).map λc=>eT γ c*F (sp.getD c 0)).sum:=by
  intro m
  induction m with
  |zero=>intro _;rfl
  | succ m ih=>
   intro hm
   have hs:sp[m]? =some (sp.getD m 0):=by
    rw[a0c,a0a (by omega)];rfl
   have ez:(sp.take (m+1)).zipIdx=(sp.take m).zipIdx++[(sp.getD m 0,m)]:=by
    rw[List.take_add_one,hs,List.zipIdx_append]
    have:(sp.take m).length=m:=by rw[List.length_take];omega
    simp[this]
   rw[ez,List.filter_append,List.map_append,List.map_append,List.sum_append,ih (by omega),gT]
   congr 1
   rw[List.filter_cons]
   by_cases h:0<eT γ m
   ·rw[if_pos (by simpa using h)];simp
   ·have:=h0 m (by omega)
    have e:eT γ m=0:=by omega
    rw[if_neg (by simpa using h),e];simp
 have:=key sp.length (Nat.le_refl _)
 rw[List.take_length] at this
 exact this
theorem MW(γ:Nat->Int)(m:Nat):((List.range m).map (eT γ)).sum=γ m-γ 0:=by
 induction m with
 |zero=>simp
 |succ m ih=>rw[gT,ih];unfold eT;omega
theorem wI (γ:Nat->Int) {a b:Nat} (hab:a<=b):∀m,((List.range m).map λc=>eT γ c*(if a<=c/\c<b then 1 else 0)).sum=γ (min b m)-γ (min a m)
 |0=>by simp
 | m+1=>by
  rw[gT,wI γ hab m]
  by_cases h:a<=m/\m<b
  ·rw[if_pos h,Int.mul_one]
   rw[show min b (m+1)=m+1 by omega,show min a (m+1)=a by omega,show min b m=m by omega,show min a m=a by omega]
   unfold eT;omega
  ·rw[if_neg h,Int.mul_zero]
   by_cases h2:a<=m
   ·rw[show min b (m+1)=min b m by omega,show min a (m+1)=min a m by omega];omega
   ·rw[show min b (m+1)=m+1 by omega,show min a (m+1)=m+1 by omega,show min b m=m by omega,show min a m=m by omega];omega
theorem SF (s:Sr) (pp:List Pr):bU s pp=(pp.map λp=>p.2*(if aN s p.1 then 1 else 0)).sum:=by
 unfold bU
 induction pp with
 |nil=>rfl
 | cons p pp ih=>
  rw[List.filter_cons,List.map_cons,List.sum_cons,<- ih]
  by_cases h:aN s p.1=true
  ·rw[if_pos h,if_pos h,List.map_cons,List.sum_cons];omega
  ·rw[if_neg h,if_neg h];omega
section
variable{bk:List Sr}{pl ks:List Int}{lim:List Int}{γ:Nat->Int}
theorem nJ(hl:lim.length+1=pl.length)(fe:qC γ (fI bk pl lim ks)){c:Nat}(hc:c<lim.length):0<=eT γ c:=by
 have:=fe _ ((k8 (by omega)).mpr (.ahead hc))
 unfold eT
 dsimp only at this
 omega
theorem lO{pl:List Int}{c:Nat}(hc:c+1<pl.length):pl.dropLast.getD c 0=pl[c]:=by
 rw[a0c,List.dropLast_eq_take,List.getElem?_take,if_pos (by omega),a0a (by omega)];rfl
theorem SG (hP:PlOk bk pl) (hl:lim.length+1=pl.length) (fe:qC γ (fI bk pl lim ks)) {s:Sr} (hs:s∈bk):bU s (iQ γ pl.dropLast)=γ (gW pl s.e)-γ (gW pl s.b):=by
 have hdl:pl.dropLast.length=lim.length:=by rw[List.length_dropLast];omega
 rw[SF,yE (λm=>if aN s m then 1 else 0) λc hc=>nJ hl fe (by omega),hdl]
 have:((List.range lim.length).map λc=>eT γ c*(if aN s (pl.dropLast.getD c 0) then 1 else 0)).sum=((List.range lim.length).map λc=>eT γ c*(if gW pl s.b<=c/\c<gW pl s.e then 1 else 0)).sum:=cR λc hc=>by
  have hc':=List.mem_range.mp hc
  rw[lO (by omega)]
  have ho:=hP.over hs (c:=c) (by omega)
  by_cases h:aN s pl[c]=true
  ·rw[if_pos h,if_pos (ho.mp h)]
  ·rw[if_neg h,if_neg (λz=>h (ho.mpr z))]
 obtain⟨_,h2,_⟩:=hP.mem s hs
 have hi:=hP.ilt hs
 have he:=lP h2
 rw[this,wI γ (by omega) lim.length,show min (gW pl s.e) lim.length=gW pl s.e by omega,show min (gW pl s.b) lim.length=gW pl s.b by omega]
theorem JS (hP:PlOk bk pl) (hk:SmOk ks bk.length) (hl:lim.length+1=pl.length) (fe:qC γ (fI bk pl lim ks)) :
  bL bk (iQ γ pl.dropLast)=d6 (aH bk ks)-((iQ γ pl.dropLast).map λp=>p.2*((aL (aH bk ks) p.1:Nat):Int)).sum:=by
 unfold bL
 rw[JC,<- jP]
 unfold d6
 rw[kP hk,kP hk]
 have neg:∀(f g:Nat->Int) (l:List Nat),(l.map f).sum-(l.map g).sum=(l.map λj=>f j-g j).sum:=by
  intro f g l
  induction l with
  |nil=>rfl
  |cons a l ih=>rw[List.map_cons,List.sum_cons,List.map_cons,List.sum_cons,List.map_cons,List.sum_cons,<- ih];omega
 rw[neg]
 refine cR λj hj=>?_
 have hj':=List.mem_range.mp hj
 have ht:=SG hP hl fe (oC hj')
 have hr:=fe _ ((k8 (by omega)).mpr (.str hj'))
 unfold bO
 rw[ht]
 unfold d4 at hr
 by_cases h:(j:Int)∈ks
 ·rw[if_pos h] at hr
  rw[if_pos h,if_pos h]
  dsimp only at hr
  omega
 ·rw[if_neg h] at hr
  rw[if_neg h,if_neg h]
  dsimp only at hr
  omega
theorem RB (hl:lim.length+1=pl.length) (fe:qC γ (fI bk pl lim ks)) (hld:∀(c:Nat) (h:c<lim.length),((aL (aH bk ks) (pl[c]'(by omega)):Nat):Int)<=lim[c]) (L:Int->Int) (hL:∀(c:Nat) (h:c<lim.length),L (pl[c]'(by omega))=lim[c]) :
  ((iQ γ pl.dropLast).map λp=>p.2*((aL (aH bk ks) p.1:Nat):Int)).sum=((iQ γ pl.dropLast).map λp=>p.2*L p.1).sum:=by
 have hdl:pl.dropLast.length=lim.length:=by rw[List.length_dropLast];omega
 rw[yE (λm=>((aL (aH bk ks) m:Nat):Int)) λc hc=>nJ hl fe (by omega),yE L λc hc=>nJ hl fe (by omega),hdl]
 refine cR λc hc=>?_
 have hc':=List.mem_range.mp hc
 rw[lO (by omega),hL c hc']
 have h1:=hld c hc'
 by_cases e:((aL (aH bk ks) (pl[c]'(by omega)):Nat):Int)=lim[c]
 ·rw[e]
 ·have hb:=fe _ ((k8 (by omega)).mpr (.back hc' (by rw[kS hc' (by omega)];omega)))
  have h2:=nJ hl fe hc'
  have:eT γ c=0:=by
   unfold eT at h2 ⊢
   dsimp only at hb
   omega
  rw[this];simp
end
abbrev kJ(pl:List Int)(many:Nat):List Int:=List.replicate (pl.length-1) (many:Int)
structure BS(bk:List Sr)(pl:List Int)(many:Nat)(ks:List Int):Prop where
 sm:SmOk ks bk.length
 ld:∀(c:Nat) (h:c+1<pl.length),aL (aH bk ks) (pl[c]'(by omega))<=many
 pot:∃φ,qC φ (fI bk pl (kJ pl many) ks)
theorem LA{pl:List Int}{many:Nat}(h:0<pl.length):(kJ pl many).length+1=pl.length:=by
 rw[List.length_replicate];omega
theorem l9{pl:List Int}{many c:Nat}(h:c<(kJ pl many).length):(kJ pl many)[c]=(many:Int):=List.getElem_replicate ..
section
variable{bk:List Sr}{pl ks:List Int}{many:Nat}{γ:Nat->Int}
theorem BS.claim (h:BS bk pl many ks) (hP:PlOk bk pl) (fe:qC γ (fI bk pl (kJ pl many) ks)):cJ bk (many:Int) (iQ γ pl.dropLast)=d6 (aH bk ks)/\((iQ γ pl.dropLast).map (·.2)).sum=γ (pl.length-1)-γ 0:=by
 have hl:=LA (many:=many) hP.ne
 have h1:=JS hP h.sm hl fe
 have hll:(kJ pl many).length=pl.length-1:=List.length_replicate ..
 have h2:=RB (bk:=bk) (ks:=ks) hl fe (λc hc=>by rw[l9];have:=h.ld c (by omega);omega) (λ_=>(many:Int)) (λc hc=>(l9 hc).symm)
 have h3:((iQ γ pl.dropLast).map λp=>p.2*(many:Int)).sum=((iQ γ pl.dropLast).map (·.2)).sum*(many:Int):=by
  generalize iQ γ pl.dropLast=pp
  induction pp with
  |nil=>simp
  |cons p pp ih=>rw[List.map_cons,List.sum_cons,ih,List.map_cons,List.sum_cons,Int.add_mul]
 refine⟨?_,?_⟩
 ·unfold cJ
  rw[h1,h2,h3];omega
 ·have h4:=yE (γ:=γ) (sp:=pl.dropLast) (λ_=>1) λc hc=>nJ hl fe (by rw[List.length_dropLast] at hc;omega)
  have h5:((iQ γ pl.dropLast).map λp=>p.2*1).sum=((iQ γ pl.dropLast).map (·.2)).sum:=cR λp _=>Int.mul_one _
  have h6:((List.range pl.dropLast.length).map λc=>eT γ c*1).sum=((List.range pl.dropLast.length).map (eT γ)).sum:=cR λc _=>Int.mul_one _
  rw[<- h5,h4,h6,MW,List.length_dropLast]
theorem L6 (hP:PlOk bk pl) (hk:SmOk ks bk.length) {b:Nat} (h:∀(c:Nat) (h:c+1<pl.length),aL (aH bk ks) (pl[c]'(by omega))<=b) (m:Int):aL (aH bk ks) m<=b:=by
 rcases HJ (ms:=pl) (P:=λx=>x<=m) with hn|⟨x,hx,px,top⟩
 ·rw[nN λs hs z=>hn s.b (hP.mem s (o3 hk.at_ hs)).1 z.1];omega
 ·have e:aL (aH bk ks) m=aL (aH bk ks) x:=sC λs hs=>kH (by
   obtain⟨h1,h2,_⟩:=hP.mem s (o3 hk.at_ hs)
   have:=top _ h1
   have:=top _ h2
   constructor<;>constructor<;>intro z<;>omega)
  rw[e]
  have hi:=lP hx
  have eg:=CP hx
  by_cases hlast:gW pl x+1<pl.length
  ·have:=h _ hlast
   rw[eg] at this;exact this
  ·have:aL (aH bk ks) x=0:=nN λs hs z=>by
    have hm:=hP.mem s (o3 hk.at_ hs)
    have h3:=lP hm.2.1
    have:=(hP.le hm.2.1 hi).mp (by omega)
    rw[eg] at this
    omega
   omega
theorem BS.next (h:BS bk pl many ks) (hP:PlOk bk pl) (fe:qC γ (fI bk pl (kJ pl many) ks)) {ls:Ls} {p:List Rd} (hv:∀w r,gt ls w=some r->r.v=w) (hw:Way ls 0 (pl.length-1) p) (hp:p.Nodup) (hin:∀r∈p,r∈fI bk pl (kJ pl many) ks/\γ r.v=γ r.u+r.g) :
  BS bk pl (many+1) (aM (lK ks (p.filterMap Rd.k)))/\d6 (aH bk (aM (lK ks (p.filterMap Rd.k))))=d6 (aH bk ks)+(γ (pl.length-1)-γ 0):=by
 have hne:=hP.ne
 have hll:(kJ pl many).length=pl.length-1:=List.length_replicate ..
 have hll':(kJ pl (many+1)).length=pl.length-1:=List.length_replicate ..
 have his:∀r∈p,RdIs bk pl (kJ pl many) ks r:=λr hr=>(k8 (by omega)).mp (hin r hr).1
 have sm':=N2 h.sm (lA his)
 have ldc:∀(c:Nat) (hc:c+1<pl.length),((aL (aH bk (aM (lK ks (p.filterMap Rd.k)))) (pl[c]'(by omega)):Nat):Int)=(aL (aH bk ks) (pl[c]'(by omega)):Nat)+1-((if (⟨c,c+1,0,none⟩ : Rd)∈p then 1 else 0)-(if (⟨c+1,c,0,none⟩ : Rd)∈p then 1 else 0)):=by
  intro c hc
  have:=WC hP h.sm hp his (c:=c) (by omega)
  rw[IJ hv hw c] at this
  rw[this]
  have s1:pB c (pl.length-1)=1:=by unfold pB;rw[if_neg (by omega)]
  have s0:pB c 0=0:=by unfold pB;rw[if_pos (by omega)]
  rw[s1,s0];omega
 have room:∀c,(⟨c+1,c,0,none⟩ : Rd)∈p->∀hc:c+1<pl.length,((aL (aH bk ks) (pl[c]'(by omega)):Nat):Int)<many:=by
  intro c hm hc
  have hi:=his _ hm
  generalize hr:(⟨c+1,c,0,none⟩ : Rd)=r at hi
  cases hi with
  |@ahead i _=>injection hr with z1 z2;omega
  | @back i hi' hroom=>
   injection hr with z1 z2
   subst z2
   rw[kS hi' (by omega),l9] at hroom
   omega
  |@str j hj=>have:=congrArg Rd.k hr;rw[FH] at this;cases this
 refine⟨⟨sm',λc hc=>?_,γ,λr hr=>?_⟩,?_⟩
 ·have e:=ldc c hc
  have:=h.ld c hc
  by_cases hb:(⟨c+1,c,0,none⟩ : Rd)∈p
  ·have:=room c hb hc
   rw[if_pos hb] at e
   split at e<;>omega
  ·rw[if_neg hb] at e
   split at e<;>omega
 ·have hr':=(k8 (by omega)).mp hr
  cases hr' with
  |@ahead i hi=>exact fe _ ((k8 (by omega)).mpr (.ahead (by omega)))
  | @back i hi hroom=>
   rw[kS hi (by omega),l9] at hroom
   have hi2:i+1<pl.length:=by omega
   have e:=ldc i hi2
   have h1:=h.ld i hi2
   by_cases hfull:aL (aH bk ks) (pl[i]'(by omega))=many
   ·have ha:(⟨i,i+1,0,none⟩ : Rd)∈p:=by
     refine Classical.byContradiction λhna=>?_
     rw[if_neg hna] at e
     have hnb:¬(⟨i+1,i,0,none⟩ : Rd)∈p:=λhb=>by have:=room i hb hi2;omega
     rw[if_neg hnb] at e
     omega
    have:=(hin _ ha).2
    dsimp only at this ⊢
    omega
   ·exact fe _ ((k8 (by omega)).mpr (.back (by omega) (by rw[kS (by omega) (by omega),l9];omega)))
  | @str j hj=>
   have hold:=fe _ ((k8 (by omega)).mpr (.str (ks:=ks) hj))
   have e:((j:Int)∈aM (lK ks (p.filterMap Rd.k)))↔(((j:Int)∈ks/\(j:Int)∉p.filterMap Rd.k)\/((j:Int)∈p.filterMap Rd.k/\(j:Int)∉ks)):=by rw[bF,kK]
   by_cases hm:(j:Int)∈p.filterMap Rd.k
   ·obtain ⟨r,hrp,hrk⟩:=List.mem_filterMap.mp hm
    have er:=((his r hrp).num hrk).2.2
    rw[Int.toNat_natCast] at er
    have ht:=(hin r hrp).2
    rw[er] at ht
    unfold d4 at ht ⊢
    by_cases hk:(j:Int)∈ks
    ·rw[if_pos hk] at ht
     rw[if_neg (λz=>by rcases e.mp z with y|y<;>simp_all)]
     dsimp only at ht ⊢
     omega
    ·rw[if_neg hk] at ht
     rw[if_pos (e.mpr (.inr ⟨hm,hk⟩))]
     dsimp only at ht ⊢
     omega
   ·unfold d4 at hold ⊢
    by_cases hk:(j:Int)∈ks
    ·rw[if_pos hk] at hold
     rw[if_pos (e.mpr (.inl ⟨hk,hm⟩))]
     exact hold
    ·rw[if_neg hk] at hold
     rw[if_neg (λz=>by rcases e.mp z with y|y<;>simp_all)]
     exact hold
 ·rw [a1R h.sm hp his]
  congr 1
  have:∀ {v:Nat} {q:List Rd},Way ls 0 v q->(∀r∈q,γ r.v=γ r.u+r.g)->(q.map Rd.g).sum=γ v-γ 0:=by
   intro v q hq
   induction hq with
   |base=>intro _;simp
   | @step v r q e w ih=>
    intro ht
    rw[List.map_cons,List.sum_cons,ih λr' hr'=>ht r' (List.mem_cons_of_mem _ hr')]
    have:=ht r List.mem_cons_self
    rw[hv v r e] at this
    omega
  exact this hw λr hr=>(hin r hr).2
theorem BS.start (hP:PlOk bk pl) (hw:∀s∈bk,0<=s.w):BS bk pl 0 []:=by
 refine⟨⟨.nil,by simp⟩,λc h=>by show aL [] _<=0;exact Nat.le_refl _,λv=>(bk.map λs=>if gW pl s.e<=v then s.w else 0).sum,λr hr=>?_⟩
 have hne:=hP.ne
 have hll:(kJ pl 0).length=pl.length-1:=List.length_replicate ..
 have mono:∀ {a b:Nat},a<=b->(bk.map λs=>if gW pl s.e<=a then s.w else 0).sum<=(bk.map λs=>if gW pl s.e<=b then s.w else 0).sum:=by
  intro a b hab
  clear hP hr
  induction bk with
  |nil=>exact Int.le_refl _
  | cons s ss ih=>
   rw[List.map_cons,List.sum_cons,List.map_cons,List.sum_cons]
   have h1:=ih λt ht=>hw t (List.mem_cons_of_mem _ ht)
   have h2:=hw s List.mem_cons_self
   split<;>split<;>omega
 cases (k8 (by omega)).mp hr with
 |@ahead i hi=>dsimp only;have:=mono (show i<=i+1 by omega);omega
 | @back i hi hroom=>
  rw[kS hi (by omega),l9] at hroom
  have:aL (aH bk []) (pl[i]'(by omega))=0:=rfl
  omega
 | @str j hj=>
  have hs:=oC hj
  have hl:=hP.ilt hs
  unfold d4
  rw[if_neg (by simp)]
  dsimp only
  generalize eO bk (j:Int)=s at hs hl
  clear hr hj
  have key:∀ss:List Sr,(∀t∈ss,0<=t.w)->s∈ss->(ss.map λt=>if gW pl t.e<=gW pl s.b then t.w else 0).sum+s.w<=(ss.map λt=>if gW pl t.e<=gW pl s.e then t.w else 0).sum:=by
   intro ss
   induction ss with
   |nil=>intro _ h;cases h
   | cons t ss ih=>
    intro h0 hm
    rw[List.map_cons,List.sum_cons,List.map_cons,List.sum_cons]
    have m1:(ss.map λt=>if gW pl t.e<=gW pl s.b then t.w else 0).sum<=(ss.map λt=>if gW pl t.e<=gW pl s.e then t.w else 0).sum:=by
     have h0':∀t∈ss,0<=t.w:=λt ht=>h0 t (List.mem_cons_of_mem _ ht)
     clear ih hm h0
     induction ss with
     |nil=>exact Int.le_refl _
     | cons t ss ih=>
      rw[List.map_cons,List.sum_cons,List.map_cons,List.sum_cons]
      have h1:=ih λt ht=>h0' t (List.mem_cons_of_mem _ ht)
      have h2:=h0' t List.mem_cons_self
      split<;>split<;>omega
    rcases List.mem_cons.mp hm with z|z
    ·subst z
     rw[if_neg (by omega),if_pos (Nat.le_refl _)];omega
    ·have:=ih (λt ht=>h0 t (List.mem_cons_of_mem _ ht)) z
     have h2:=h0 t List.mem_cons_self
     split<;>split<;>omega
  exact key bk hw hs
end
def IW(gs:Gs)(v:Nat):Int:=(gt gs v).getD 0
section
variable{φ:Nat->Int}{rs:List Rd}{n:Nat}{Gm:Int}{gs:Gs}{ls:Ls}
theorem jF (h:GI φ rs n 0 Gm gs ls) (hf:SQ gs rs) (ha:∀i,i+1<n->(⟨i,i+1,0,none⟩ : Rd)∈rs):∀v,v<n->gt gs v=some (IW gs v)
 |0,_=>by unfold IW;rw[h.st0];rfl
 | v+1,hv=>by
  have ih:=jF h hf ha v (by omega)
  obtain⟨b,hb,_⟩:=hf _ (ha v hv) _ ih
  dsimp only at hb
  unfold IW;rw[hb];rfl
theorem A7(h:GI φ rs n 0 Gm gs ls)(hf:SQ gs rs)(ha:∀i,i+1<n->(⟨i,i+1,0,none⟩ : Rd)∈rs)(hrs:∀r∈rs,r.u<n/\r.v<n):qC (IW gs) rs:=λr hr=>by
 obtain⟨b,hb,le⟩:=hf r hr _ (jF h hf ha r.u (hrs r hr).1)
 have e:=jF h hf ha r.v (hrs r hr).2
 rw[hb] at e
 injection e with e
 omega
theorem PZ (h:GI φ rs n 0 Gm gs ls) (hf:SQ gs rs) (ha:∀i,i+1<n->(⟨i,i+1,0,none⟩ : Rd)∈rs):VM gs=gV ((List.range n).map (IW gs)):=by
 have:gs.map gX=((List.range n).map (IW gs)).map PV.int:=by
  apply List.ext_getElem
  ·simp[h.lg]
  ·intro i h1 h2
   have hi:i<gs.length:=by simpa using h1
   have hn:i<n:=by rw[<- h.lg];exact hi
   have e:=jF h hf ha i hn
   unfold gt at e
   rw[a0c,a0a hi] at e
   simp only[Option.getD_some] at e
   rw[List.getElem_map,e,List.getElem_map,List.getElem_map,List.getElem_range];rfl
 show PV.lst _=PV.lst _
 rw[this]
theorem Q0(h:GI φ rs n 0 Gm gs ls)(hf:SQ gs rs)(ha:∀i,i+1<n->(⟨i,i+1,0,none⟩ : Rd)∈rs)(hrs:∀r∈rs,r.u<n/\r.v<n)(hn:0<n):∃p,Way ls 0 (n-1) p/\p.Nodup/\p.length<=n/\∀r∈p,r∈rs/\IW gs r.v=IW gs r.u+r.g:=by
 obtain⟨k,hk⟩:=h.ch _ _ (jF h hf ha (n-1) (by omega))
 obtain⟨p,hp,_⟩:=Z3 hk
 refine⟨p,hp,(List.pairwise_map.mp (h.wayNd hp)).imp λhne heq=>hne (congrArg _ heq),h.wayLen hrs hp,λr hr=>?_⟩
 obtain⟨h1,h2⟩:=h.wayIn hp r hr
 refine⟨h1,?_⟩
 obtain⟨_,_,a,b,e1,e2,le⟩:=h.las _ _ h2
 have f:=A7 h hf ha hrs r h1
 rw[jF h hf ha r.u (hrs r h1).1] at e1
 rw[jF h hf ha r.v (hrs r h1).2] at e2
 injection e1 with e1
 injection e2 with e2
 omega
end
structure Bst(bk:List Sr)(b:Nat)(ks:List Int)(pp:List Pr):Prop where
 sm:SmOk ks bk.length
 ld:∀m,aL (aH bk ks) m<=b
 cl:cJ bk (b:Int) pp=d6 (aH bk ks)
 pr:PpOk pp (λm x=>1<=x/\∃s∈bk,m=s.b\/m=s.e) (2*bk.length)
 nx:∃ks',SmOk ks' bk.length/\(∀m,aL (aH bk ks') m<=b+1)/\cJ bk ((b:Int)+1) pp=d6 (aH bk ks')
theorem rN(bk:List Sr)(b:Int)(pp:List Pr):cJ bk (b+1) pp=cJ bk b pp+(pp.map (·.2)).sum:=by
 unfold cJ
 rw[Int.mul_add];omega
theorem Bst.nn{bk:List Sr}{b:Nat}{ks:List Int}{pp:List Pr}(h:Bst bk b ks pp):∀p∈pp,0<=p.2:=λp hp=>by have:=(h.pr.at_ p hp).1;omega
theorem a0L {bk:List Sr} {n:Nat} (hb:∀s∈bk,s.b<s.e):PlOk bk (uO bk):=by
 unfold uO
 split
 ·rename_i e
  have:bk=[]:=by
   cases bk with
   |nil=>rfl
   | cons s ss=>
    have:s.b∈aM (fY (s::ss)):=bF.mpr (fM.mpr ⟨s,List.mem_cons_self,.inl rfl⟩)
    rw[e] at this;cases this
  subst this
  exact⟨by simp,by simp,λs hs=>by cases hs⟩
 ·rename_i e
  refine⟨fP _,List.length_pos_iff.mpr e,λs hs=>⟨bF.mpr (fM.mpr ⟨s,hs,.inl rfl⟩),bF.mpr (fM.mpr ⟨s,hs,.inr rfl⟩),hb s hs⟩⟩
theorem XB {bk:List Sr}:(uO bk).length<=2*bk.length+1:=by
 unfold uO
 split
 ·simp
 ·have:=wL (fY bk)
  rw[xV] at this
  omega
theorem XC{bk:List Sr}{m:Int}(h:m∈(uO bk).dropLast):∃s∈bk,m=s.b\/m=s.e:=by
 unfold uO at h
 split at h
 ·cases h
 ·exact fM.mp (bF.mp (List.dropLast_subset _ h))
theorem a0P {γ:Nat->Int} {sp:List Int} (lt:sp.Pairwise (· < ·)) {P:Int->Prop} (hP:∀m∈sp,P m) {n:Nat} (hn:sp.length<=n):PpOk (iQ γ sp) (λm x=>1<=x/\P m) n:=by
 unfold iQ
 refine⟨?_,λp hp=>?_,?_⟩
 ·rw[List.pairwise_map]
  refine List.Pairwise.filter _ ?_
  have:(sp.zipIdx.map Prod.fst).Pairwise (· < ·):=by rw[List.zipIdx_map_fst];exact lt
  exact List.pairwise_map.mp this
 ·obtain⟨z,hz,rfl⟩:=List.mem_map.mp hp
  obtain⟨h1,h2⟩:=List.mem_filter.mp hz
  have h2:0<eT γ z.2:=by simpa using h2
  refine⟨by dsimp only;omega,hP _ ?_⟩
  have:=List.mem_map_of_mem (f:=Prod.fst) h1
  rw[List.zipIdx_map_fst] at this
  exact this
 ·rw[a0f]
  have:=List.length_filter_le (λz:Int×Nat=>decide (0<eT γ z.2)) sp.zipIdx
  rw[List.length_zipIdx] at this
  omega
theorem JT (xs:List Int):zY (xs.map PV.int) none (some (-1))=xs.dropLast.map PV.int:=by
 unfold zY
 rw[HT.sIx_none]
 have:HT.sIx (xs.map PV.int).length (xs.map PV.int).length (some (-1))=xs.length-1:=by
  unfold HT.sIx
  simp
  omega
 rw[this,List.dropLast_eq_take,List.drop_zero,Nat.sub_zero,List.map_take]
abbrev Tl:=List Int×List Pr
def SE(z:Tl):PV:=.tup [gV z.1,sW z.2]
theorem WG {l:List Int} {n:Nat} (nd:l.Nodup) (h:∀k∈l,0<=k/\k<(n:Int)):l.length<=n:=by
 have:=LF n (l.map Int.toNat) (by
  rw[List.nodup_iff_pairwise_ne,List.pairwise_map]
  refine List.Pairwise.imp_of_mem (fun {a b} ha hb hne z=>hne ?_) nd
  have:=h a ha
  have:=h b hb
  omega) λx hx=>by
   obtain⟨k,hk,rfl⟩:=List.mem_map.mp hx
   have:=h k hk
   omega
 simpa using this
theorem a14(m:Nat)(x:Int):(List.replicate (m:Int).toNat [PV.int x]).flatten=(List.replicate m x).map PV.int:=by
 rw[Int.toNat_natCast,List.map_replicate];simp
theorem xE {bk:List Sr} {B:Nat} {R:PV->Prop} (hb:bk.length<=31) (hlt:∀s∈bk,s.b<s.e) (hw:∀s∈bk,0<=s.w) (hB:B<=100)
  (q:∀tl:List Tl,tl.length=B+1->(∀(j:Nat) (h:j<tl.length),Bst bk j tl[j].1 tl[j].2)->R (.lst (tl.map SE))):d8 [bZ bk,.int B] R:=by
 unfold d8
 have hP:PlOk bk (uO bk):=a0L (n:=0) hlt
 have hpl:=XB (bk:=bk)
 tb_from(zQ hb ?_)
 generalize hpe:uO bk=pl at hP hpl ⊢
 have hne:=hP.ne
 tb_from(⟨by omega,by omega,?_⟩)
 refine fL (λi env=>∃(ks:List Int) (tl:List Tl) (t5 t6 t7 t8:Option PV),env=[some (bZ bk),some (.int B),some (gV pl),some (gV ks),some (.lst (tl.map SE)),t5,t6,t7,t8]/\BS bk pl i ks/\tl.length=i/\∀(j:Nat) (h:j<tl.length),Bst bk j tl[j].1 tl[j].2) ⟨[],[],none,none,none,none,rfl,BS.start hP hw,rfl,λj h=>by cases h⟩ ?_ ?_
 ·rintro i x env N hx ⟨ks,tl,t5,t6,t7,t8,rfl,bs,hti,hall⟩ hN
  obtain⟨rfl,hi⟩:=fD hx
  have hkl:=bs.sm.len
  have x0:(0:Int)+(i:Int)=i:=by omega
  rw[x0]
  walk_at "w"
  have hmap:(pl.map PV.int).length=pl.length:=a0f ..
  have e1:((pl.map PV.int).length:Int)-1=((pl.length-1:Nat):Int):=by rw[hmap];omega
  refine⟨by omega,by omega,bB (by rw[e1];simp;omega),?_⟩
  rw[e1,a14]
  have hll:(kJ pl i).length=pl.length-1:=List.length_replicate ..
  tb_from(CD hb (by omega) hP.nd (λs hs=>⟨(hP.mem s hs).1,(hP.mem s hs).2.1⟩) (by omega) bs.sm.at_ (lim:=kJ pl i) ?_)
  walk_at "w"
  obtain⟨φ,hφ⟩:=bs.pot
  have hrs:∀r∈fI bk pl (kJ pl i) ks,r.u<pl.length/\r.v<pl.length:=λr hr=>RdIs.lt hP (by omega) ((k8 (by omega)).mp hr)
  have ha:∀j,j+1<pl.length->(⟨j,j+1,0,none⟩ : Rd)∈fI bk pl (kJ pl i) ks:=λj hj=>(k8 (by omega)).mpr (.ahead (by omega))
  rw[hmap]
  refine oO hφ hrs (st:=0) hne (by omega) λgs ls Gm gi fx=>?_
  have hγ:=A7 gi fx ha hrs
  obtain⟨p,hp,pnd,plen,pin⟩:=Q0 gi fx ha hrs hne
  have his:∀r∈p,RdIs bk pl (kJ pl i) ks r:=λr hr=>(k8 (by omega)).mp (pin r hr).1
  obtain⟨bn,wn⟩:=bs.next hP hγ (λw r e=>(gi.las w r e).2.1) hp pnd pin
  obtain⟨c1,c2⟩:=bs.claim hP hγ
  rw[PZ gi fx ha]
  tb_from(⟨rfl,?_⟩)
  tb_from(⟨rfl,?_⟩)
  walk_at "w"
  rw[JT]
  refine zR (by omega) (by rw[List.length_dropLast];omega) ?_
  walk_at "w"
  refine⟨oH (by rw[a0f];omega),?_⟩
  walk_at "w"
  have e2:(λ(i j:Int)=>PV.int (i-j)) ((pl.map PV.int).length:Int) 1= .int ((pl.length-1:Nat):Int):=by dsimp only;rw[e1]
  rw[e2]
  refine qI hp gi.stl (by rw[gi.ll];omega) (λr hr=>by rw[gi.ll];exact (hrs r (pin r hr).1).1) (by omega) ?_
  walk_at "w"
  have nl:=WG (xX pnd his) (lA his)
  refine xF (by omega) (by omega) ?_
  walk_at "w"
  have et:(tl++[(ks,iQ (IW gs) pl.dropLast)]).map SE=tl.map SE++[.tup [gV ks,sW (iQ (IW gs) pl.dropLast)]]:=by rw[List.map_append];rfl
  refine hN _ ⟨_,tl++[(ks,iQ (IW gs) pl.dropLast)],_,_,_,_,by rw[et],bn,by simp[hti],λj hj=>?_⟩
  have hlen:(tl++[(ks,iQ (IW gs) pl.dropLast)]).length=i+1:=by simp[hti]
  by_cases hji:j<tl.length
  ·rw[List.getElem_append_left hji];exact hall j hji
  ·have ej:j=tl.length:=by omega
   subst ej
   rw[List.getElem_append_right (Nat.le_refl _)]
   simp only[Nat.sub_self,List.getElem_cons_zero]
   rw[hti]
   refine⟨bs.sm,L6 hP bs.sm bs.ld,c1,a0P (hP.lt.sublist (List.dropLast_sublist _)) (λm hm=>XC (by rw[hpe];exact hm)) (by rw[List.length_dropLast];omega),_,bn.sm,L6 hP bn.sm bn.ld,?_⟩
   rw[rN,c1,c2,wn]
 ·rintro env ⟨ks,tl,t5,t6,t7,t8,rfl,bs,hti,hall⟩
  walk_at "w"
  rw[bE] at hti
  exact q tl (by omega) hall
theorem jL (bk:List Sr):aH bk ((List.range bk.length).map λ(i:Nat)=>(i:Int))=bk:=by
 unfold aH
 apply List.ext_getElem
 ·simp
 ·intro i h1 h2
  rw[List.getElem_map,List.getElem_map,List.getElem_range,oB h2]
theorem HI {bk:List Sr} {ks:List Int} (h:SmOk ks bk.length) (m:Int):aL (aH bk ks) m<=aL bk m:=by
 have e1:=xU (aH bk ks) m
 have e2:=xU bk m
 rw[kP h] at e1
 rw[JC] at e2
 have:∀l:List Nat,(l.map λ(j:Nat)=>if (j:Int)∈ks then (if aN (eO bk (j:Int)) m then (1:Int) else 0) else 0).sum<=(l.map λ(j:Nat)=>if aN (eO bk (j:Int)) m then (1:Int) else 0).sum:=by
  intro l
  induction l with
  |nil=>exact Int.le_refl _
  | cons j l ih=>
   rw[List.map_cons,List.sum_cons,List.map_cons,List.sum_cons]
   split<;>split<;>omega
 have:=this (List.range bk.length)
 omega
theorem qH{bk:List Sr}{R:PV->Prop}(hb:bk.length<=31)(hlt:∀s∈bk,s.b<s.e)(q:∀G f,Crowd bk G f->R (.int (G:Nat))):bV [bZ bk] R:=by
 unfold bV
 walk_at "w"
 have hm:(bk.map iD).length=bk.length:=a0f ..
 refine⟨by omega,by omega,?_⟩
 rw[hm,Int.toNat_natCast,CL]
 walk_at "w"
 have sm:=mW bk.length
 refine rM (by simpa using hb) sm.at_ (by rw[jL];exact hlt) λG f hc=>?_
 rw[jL] at hc
 tb_from(i7 rfl ?_)
 exact q G f hc
theorem Bst.stays {bk:List Sr} {G b:Nat} {f:Option Int} {ks:List Int} {pp:List Pr} (hc:Crowd bk G f) (h:Bst bk G ks pp) (hb:G<=b) (hne:G<b):Bst bk b ks pp:=by
 obtain⟨ks',s',l',c'⟩:=h.nx
 have h1:=AF (b:=(G:Int)) s' (λm=>by have:=HI s' m;have:=hc.top m;omega) h.nn
 rw[rN,h.cl] at c'
 rw[h.cl] at h1
 have hp:pp=[]:=by
  cases pp with
  |nil=>rfl
  | cons p pp=>
   have p1:=(h.pr.at_ p List.mem_cons_self).1
   have:∀l:List Pr,(∀p∈l,0<=p.2)->0<=(l.map (·.2)).sum:=by
    intro l
    induction l with
    |nil=>intro _;exact Int.le_refl _
    | cons a l ih=>
     intro hl
     have h1:=hl a List.mem_cons_self
     have h2:=ih λp hp=>hl p (List.mem_cons_of_mem _ hp)
     rw[List.map_cons,List.sum_cons];omega
   have:=this pp λp hp=>h.nn p (List.mem_cons_of_mem _ hp)
   rw[List.map_cons,List.sum_cons] at c'
   omega
 subst hp
 have e:∀c:Int,cJ bk c []=cJ bk (G:Int) []:=λc=>by unfold cJ;simp
 exact⟨h.sm,λm=>Nat.le_trans (h.ld m) hb,by rw[e];exact h.cl,h.pr,ks,h.sm,λm=>Nat.le_trans (h.ld m) (by omega),by rw[e];exact h.cl⟩
theorem C9 {bk:List Sr} {b:Nat} {R:PV->Prop} (hb:bk.length<=31) (hlt:∀s∈bk,s.b<s.e) (hw:∀s∈bk,0<=s.w) (q:∀ks pp,Bst bk b ks pp->R (.tup [gV ks,sW pp])):eZ [bZ bk,.int b] R:=by
 unfold eZ
 tb_from(qH hb hlt λG f hc=>?_)
 have hG:G<=bk.length:=hc.le_of λm=>List.countP_le_length
 walk_at "w"
 have em:min (b:Int) (G:Int)=((min b G:Nat):Int):=by omega
 rw[em]
 refine xE hb hlt hw (by omega) λtl hl hall=>?_
 walk_at "w"
 have hlast:=hall (min b G) (by omega)
 refine cE (z:=SE (tl[min b G]'(by omega))) ?_ ?_
 ·have e:tl=tl.dropLast++[tl[min b G]'(by omega)]:=by
   have h1:=(List.dropLast_concat_getLast (l:=tl) (λz=>by rw[z] at hl;cases hl)).symm
   rw[List.getLast_eq_getElem] at h1
   have h2:tl.length-1=min b G:=by omega
   simp only[h2] at h1
   exact h1
  have e2:tl.map SE=tl.dropLast.map SE++[SE (tl[min b G]'(by omega))]:=by
   have:=congrArg (List.map SE) e
   rw[List.map_append] at this
   exact this
  rw[e2]
  exact J6 _ _
 ·refine q _ _ ?_
  by_cases h:b<=G
  ·have e:min b G=b:=by omega
   simp only[e] at hlast ⊢
   exact hlast
  ·have e:min b G=G:=by omega
   simp only[e] at hlast ⊢
   exact hlast.stays hc (by omega) (by omega)
theorem oQ{bk:List Sr}{b:Nat}{R:PV->Prop}(hb:bk.length<=31)(hlt:∀s∈bk,s.b<s.e)(hw:∀s∈bk,0<=s.w)(q:∀ks pp,Bst bk b ks pp->R (.tup [.int (d6 (aH bk ks)),gV ks,sW pp])):e7 [bZ bk,.int b] R:=by
 unfold e7
 tb_from(C9 hb hlt hw λks pp h=>?_)
 tb_from(⟨rfl,?_⟩)
 walk_at "w"
 have:=h.sm.len
 refine EB (by omega) h.sm.at_ ?_
 walk_at "w"
 exact q ks pp h
theorem pD:∀(l ks:List Int),l.Pairwise (· < ·)->ks.Pairwise (· < ·)->(∀k∈ks,k∈l)->ks.Sublist l
 |l,[],_,_,_=>List.nil_sublist _
 |[],k::ks,_,_,h=>by cases h k List.mem_cons_self
 | a::l,k::ks,hl,hk,h=>by
  have hl':=List.pairwise_cons.mp hl
  have hk':=List.pairwise_cons.mp hk
  rcases List.mem_cons.mp (h k List.mem_cons_self) with z|z
  ·subst z
   refine .cons₂ _ (pD l ks hl'.2 hk'.2 λx hx=>?_)
   rcases List.mem_cons.mp (h x (List.mem_cons_of_mem _ hx)) with y|y
   ·have:=hk'.1 x hx;omega
   ·exact y
  ·refine .cons _ (pD l (k::ks) hl'.2 hk λx hx=>?_)
   have hak:=hl'.1 k z
   rcases List.mem_cons.mp hx with y|y
   ·rw[y];exact z
   ·rcases List.mem_cons.mp (h x hx) with w|w
    ·have:=hk'.1 x y;omega
    ·exact w
theorem lE {bk:List Sr} {ks:List Int} (h:SmOk ks bk.length):(aH bk ks).Sublist bk:=by
 have:=M6 (bk:=bk) (pD _ ks (mW bk.length).lt h.lt λk hk=>by
  have:=h.at_ k hk
  exact List.mem_map.mpr ⟨k.toNat,List.mem_range.mpr (by omega),by omega⟩)
 rw[jL] at this
 exact this
theorem RV{bk ss:List Sr}(h:ss.Sublist bk):∃ks,SmOk ks bk.length/\aH bk ks=ss:=by
 have h':=h
 rw[<- jL bk] at h'
 unfold aH at h'
 obtain⟨as,ha,e⟩:=List.sublist_map_iff.mp h'
 exact⟨as,(mW _).sub ha,e.symm⟩
structure Most(bk:List Sr)(b:Nat)(w:Int):Prop where
 top:∀ss,ss.Sublist bk->(∀m,aL ss m<=b)->d6 ss<=w
 at_:∃ss,ss.Sublist bk/\(∀m,aL ss m<=b)/\d6 ss=w
theorem Bst.most{bk:List Sr}{b:Nat}{ks:List Int}{pp:List Pr}(h:Bst bk b ks pp):Most bk b (d6 (aH bk ks)):=by
 refine⟨λss hs hl=>?_,_,lE h.sm,h.ld,rfl⟩
 obtain⟨ks',sm,rfl⟩:=RV hs
 rw[<- h.cl]
 exact AF sm (λm=>by have:=hl m;omega) h.nn
theorem Most.mono{bk:List Sr}{b c:Nat}{w v:Int}(h:Most bk b w)(h':Most bk c v)(hbc:b<=c):w<=v:=by
 obtain⟨ss,h1,h2,h3⟩:=h.at_
 rw[<- h3]
 exact h'.top ss h1 λm=>Nat.le_trans (h2 m) hbc
theorem Most.uniq{bk:List Sr}{b:Nat}{w v:Int}(h:Most bk b w)(h':Most bk b v):w=v:=Int.le_antisymm (h.mono h' (Nat.le_refl _)) (h'.mono h (Nat.le_refl _))
theorem yX {α:Type} {f g:α->Int}:∀ {l:List α},(∀x∈l,f x<=g x)->(l.map f).sum<=(l.map g).sum
 |[],_=>Int.le_refl _
 | a::l,h=>by
  rw[List.map_cons,List.sum_cons,List.map_cons,List.sum_cons]
  have h1:=h a List.mem_cons_self
  have h2:=yX λx hx=>h x (List.mem_cons_of_mem a hx)
  omega
theorem mX {α:Type} {f g:α->Int}:∀ {l:List α},(∀x∈l,f x<=g x)->(l.map g).sum<=(l.map f).sum->∀x∈l,f x=g x
 |[],_,_,x,hx=>by cases hx
 | a::l,h,e,x,hx=>by
  rw[List.map_cons,List.sum_cons,List.map_cons,List.sum_cons] at e
  have h1:=h a List.mem_cons_self
  have hl:∀x∈l,f x<=g x:=λx hx=>h x (List.mem_cons_of_mem a hx)
  have h2:=yX hl
  rcases List.mem_cons.mp hx with z|z
  ·rw[z];omega
  ·exact mX hl (by omega) x z
theorem a1K {bk:List Sr} {b:Int} {pp:List Pr} {ks:List Int} (hk:SmOk ks bk.length) (h:∀m,(aL (aH bk ks) m:Int)<=b) (hp:∀p∈pp,1<=p.2) (hc:cJ bk b pp=d6 (aH bk ks)) :
  (∀p∈pp,(aL (aH bk ks) p.1:Int)=b)/\∀s∈aH bk ks,bU s pp<=s.w:=by
 have h1:=TV (aH bk ks) pp
 have h2:=gS (bk:=bk) (pp:=pp) bk.length ks hk (Nat.le_refl _)
 rw[List.take_length] at h2
 have hle:∀p∈pp,p.2*(aL (aH bk ks) p.1:Int)<=p.2*b:=λp hpp=>Int.mul_le_mul_of_nonneg_left (h p.1) (by have:=hp p hpp;omega)
 have e3:(pp.map λp=>p.2*b).sum=(pp.map (·.2)).sum*b:=by
  clear hle hc h1 h2 hp
  induction pp with
  |nil=>simp
  |cons p pp ih=>rw[List.map_cons,List.sum_cons,List.map_cons,List.sum_cons,Int.add_mul,ih]
 have h3:=yX hle
 have sw:=jP (aH bk ks) pp
 unfold cJ bL at hc
 constructor
 ·intro p hpp
  have:=mX hle (by rw[e3,<- sw];omega) p hpp
  have p1:=hp p hpp
  exact Int.eq_of_mul_eq_mul_left (by omega) this
 ·intro s hs
  have hw:∀s∈aH bk ks,s.w<=bU s pp+bO s pp:=λs _=>by unfold bO;omega
  have e4:((aH bk ks).map λs=>bU s pp+bO s pp).sum=((aH bk ks).map λs=>bU s pp).sum+((aH bk ks).map λs=>bO s pp).sum:=by
   generalize aH bk ks=ss
   induction ss with
   |nil=>rfl
   |cons s ss ih=>simp only[List.map_cons,List.sum_cons];omega
  have:=mX hw (by rw[e4];unfold d6 at hc;omega) s hs
  unfold bO at this
  omega
theorem DE {s:Sr} {pp:List Pr} {p:Pr} (hp:p∈pp) (h0:∀p∈pp,0<=p.2) (ho:aN s p.1=true):p.2<=bU s pp:=by
 unfold bU
 induction pp with
 |nil=>cases hp
 | cons q pp ih=>
  have nn:∀l:List Pr,(∀p∈l,0<=p.2)->0<=(l.map (·.2)).sum:=by
   intro l
   induction l with
   |nil=>intro _;exact Int.le_refl _
   | cons a l ih=>
    intro hl
    have h1:=hl a List.mem_cons_self
    have h2:=ih λp hp=>hl p (List.mem_cons_of_mem _ hp)
    rw[List.map_cons,List.sum_cons];omega
  have hq:=h0 q List.mem_cons_self
  have h0':∀p∈pp,0<=p.2:=λp hp=>h0 p (List.mem_cons_of_mem _ hp)
  have n2:=nn (pp.filter λp=>aN s p.1) λp hp=>h0' p (List.mem_filter.mp hp).1
  rw[List.filter_cons]
  rcases List.mem_cons.mp hp with z|z
  ·subst z
   rw[if_pos ho,List.map_cons,List.sum_cons];omega
  ·have:=ih z h0'
   split
   ·rw[List.map_cons,List.sum_cons];omega
   ·exact this
theorem Bst.under{bk:List Sr}{b:Nat}{ks:List Int}{pp:List Pr}(h:Bst bk b ks pp){p:Pr}(hp:p∈pp):∃s∈bk,aN s p.1=true/\p.2<=s.w:=by
 obtain⟨ks',s',l',c'⟩:=h.nx
 obtain⟨t1,t2⟩:=a1K (b:=(b:Int)+1) s' (λm=>by have:=l' m;omega) (λp hp=>(h.pr.at_ p hp).1) c'
 have e:=t1 p hp
 have hpos:0<aL (aH bk ks') p.1:=by omega
 unfold aL at hpos
 obtain⟨s,hs,ho⟩:=List.countP_pos_iff.mp hpos
 exact⟨s,(lE s').subset hs,ho,Int.le_trans (DE hp h.nn ho) (t2 s hs)⟩
end Lib
set_option maxHeartbeats 2000000
set_option maxHeartbeats 2000000
set_option maxHeartbeats 2000000
namespace Lib
open PySem L2
inductive Shuf:List Sr->List Sr->List Sr->Prop where
 |nil:Shuf [] [] []
 |l {a b c:List Sr} {s:Sr}:Shuf a b c->Shuf (a++[s]) b (c++[s])
 |r {a b c:List Sr} {s:Sr}:Shuf a b c->Shuf a (b++[s]) (c++[s])
theorem Shuf.perm {a b c:List Sr} (h:Shuf a b c):c.Perm (a++b):=by
 induction h with
 |nil=>exact List.Perm.refl _
 | @l a b c s _ ih=>
  rw[List.append_assoc]
  refine (ih.append_right [s]).trans ?_
  rw[List.append_assoc]
  exact List.Perm.append_left a List.perm_append_comm
 | @r a b c s _ ih=>
  rw[<- List.append_assoc]
  exact ih.append_right [s]
theorem Shuf.w{a b c:List Sr}(h:Shuf a b c):d6 c=d6 a+d6 b:=by
 have ws:∀xs ys:List Sr,d6 (xs++ys)=d6 xs+d6 ys:=λxs ys=>by unfold d6;rw[List.map_append,List.sum_append]
 induction h with
 |nil=>rfl
 |l _ ih=>rw[ws,ws,ih];omega
 |r _ ih=>rw[ws,ws,ih];omega
theorem Shuf.ld{a b c:List Sr}(h:Shuf a b c)(m:Int):aL c m=aL a m+aL b m:=by
 unfold aL
 rw[h.perm.countP_eq,List.countP_append]
theorem S1{l:List Sr}{s:Sr}(h:l.Sublist [s]):l=[]\/l=[s]:=by
 cases h with
 |cons _ h=>exact .inl (List.sublist_nil.mp h)
 |cons_cons _ h=>rw[List.sublist_nil.mp h];exact .inr rfl
theorem Shuf.down {a b c:List Sr} (h:Shuf a b c):∀ {ss:List Sr},ss.Sublist c->∃s1 s2,s1.Sublist a/\s2.Sublist b/\Shuf s1 s2 ss:=by
 induction h with
 | nil=>
  intro ss hs
  rw[List.sublist_nil.mp hs]
  exact⟨[],[],.refl _,.refl _,.nil⟩
 | @l a b c s _ ih=>
  intro ss hs
  obtain⟨l1,l2,rfl,h1,h2⟩:=List.sublist_append_iff.mp hs
  obtain⟨s1,s2,a1,a2,a3⟩:=ih h1
  rcases S1 h2 with rfl|rfl
  ·exact⟨s1,s2,a1.trans (List.sublist_append_left _ _),a2,by rw[List.append_nil];exact a3⟩
  ·exact⟨s1++[s],s2,a1.append (.refl _),a2,.l a3⟩
 | @r a b c s _ ih=>
  intro ss hs
  obtain⟨l1,l2,rfl,h1,h2⟩:=List.sublist_append_iff.mp hs
  obtain⟨s1,s2,a1,a2,a3⟩:=ih h1
  rcases S1 h2 with rfl|rfl
  ·exact⟨s1,s2,a1,a2.trans (List.sublist_append_left _ _),by rw[List.append_nil];exact a3⟩
  ·exact⟨s1,s2++[s],a1,a2.append (.refl _),.r a3⟩
theorem Shuf.up {a b c:List Sr} (h:Shuf a b c):∀ {s1 s2:List Sr},s1.Sublist a->s2.Sublist b->∃ss,ss.Sublist c/\Shuf s1 s2 ss:=by
 induction h with
 | nil=>
  intro s1 s2 h1 h2
  rw[List.sublist_nil.mp h1,List.sublist_nil.mp h2]
  exact⟨[],.refl _,.nil⟩
 | @l a b c s _ ih=>
  intro s1 s2 h1 h2
  obtain⟨l1,l2,rfl,h3,h4⟩:=List.sublist_append_iff.mp h1
  obtain⟨ss,b1,b2⟩:=ih h3 h2
  rcases S1 h4 with rfl|rfl
  ·exact⟨ss,b1.trans (List.sublist_append_left _ _),by rw[List.append_nil];exact b2⟩
  ·exact⟨ss++[s],b1.append (.refl _),.l b2⟩
 | @r a b c s _ ih=>
  intro s1 s2 h1 h2
  obtain⟨l1,l2,rfl,h3,h4⟩:=List.sublist_append_iff.mp h2
  obtain⟨ss,b1,b2⟩:=ih h1 h3
  rcases S1 h4 with rfl|rfl
  ·exact⟨ss,b1.trans (List.sublist_append_left _ _),by rw[List.append_nil];exact b2⟩
  ·exact⟨ss++[s],b1.append (.refl _),.r b2⟩
structure Far(a b:List Sr)(F:Int):Prop where
 e:∀s∈a,s.e<=F
 b:∀s∈b,F<=s.b
theorem Far.ld{a b:List Sr}{F:Int}(h:Far a b F)(m:Int):aL a m=0\/aL b m=0:=by
 by_cases hm:F<=m
 ·exact .inl (nN λs hs z=>by have:=h.e s hs;omega)
 ·exact .inr (nN λs hs z=>by have:=h.b s hs;omega)
theorem Far.sub{a b a' b':List Sr}{F:Int}(h:Far a b F)(h1:a'.Sublist a)(h2:b'.Sublist b):Far a' b' F:=⟨λs hs=>h.e s (h1.mem hs),λs hs=>h.b s (h2.mem hs)⟩
theorem Shuf.most {a b c:List Sr} {F:Int} {n:Nat} {v w:Int} (h:Shuf a b c) (f:Far a b F) (ha:Most a n v) (hb:Most b n w):Most c n (v+w):=by
 refine⟨λss hs hl=>?_,?_⟩
 ·obtain⟨s1,s2,h1,h2,h3⟩:=h.down hs
  rw[h3.w]
  have e1:=ha.top s1 h1 λm=>by have:=hl m;rw[h3.ld] at this;omega
  have e2:=hb.top s2 h2 λm=>by have:=hl m;rw[h3.ld] at this;omega
  omega
 ·obtain⟨s1,a1,a2,a3⟩:=ha.at_
  obtain⟨s2,b1,b2,b3⟩:=hb.at_
  obtain⟨ss,c1,c2⟩:=h.up a1 b1
  refine⟨ss,c1,λm=>?_,by rw[c2.w,a3,b3]⟩
  rw[c2.ld]
  have:=a2 m
  have:=b2 m
  rcases (f.sub a1 b1).ld m with z|z<;>omega
theorem Shuf.claim {a b c:List Sr} {F:Int} {n:Int} {p1 p2:List Pr} (h:Shuf a b c) (f:Far a b F) (h1:∀p∈p1,p.1<F) (h2:∀p∈p2,F<=p.1):cJ c n (p1++p2)=cJ a n p1+cJ b n p2:=by
 have toll0:∀(s:Sr) (pp:List Pr),(∀p∈pp,aN s p.1=false)->bU s pp=0:=λs pp hh=>by
  unfold bU
  rw[List.filter_eq_nil_iff.mpr λp hp=>by rw[hh p hp];exact Bool.false_ne_true];rfl
 have tapp:∀s:Sr,bU s (p1++p2)=bU s p1+bU s p2:=λs=>by unfold bU;rw[List.filter_append,List.map_append,List.sum_append]
 have ra:bL a (p1++p2)=bL a p1:=by
  unfold bL
  congr 1
  refine List.map_congr_left λs hs=>?_
  unfold bO
  rw[tapp,toll0 s p2 λp hp=>Bool.eq_false_iff.mpr λz=>by have:=(c5).mp z;have:=f.e s hs;have:=h2 p hp;omega,Int.add_zero]
 have rb:bL b (p1++p2)=bL b p2:=by
  unfold bL
  congr 1
  refine List.map_congr_left λs hs=>?_
  unfold bO
  rw[tapp,toll0 s p1 λp hp=>Bool.eq_false_iff.mpr λz=>by have:=(c5).mp z;have:=f.b s hs;have:=h1 p hp;omega,Int.zero_add]
 have rc:∀pp,bL c pp=bL a pp+bL b pp:=λpp=>by
  have:∀l1 l2:List Sr,l1.Perm l2->bL l1 pp=bL l2 pp:=λl1 l2 hp=>by
   induction hp with
   |nil=>rfl
   |cons x _ ih=>show bO x pp+bL _ pp=bO x pp+bL _ pp;rw[ih]
   |swap x y l=>show bO y pp+(bO x pp+_)=bO x pp+(bO y pp+_);omega
   |trans _ _ h1 h2=>rw[h1,h2]
  rw[this c (a++b) h.perm]
  unfold bL
  rw[List.map_append,List.sum_append]
 unfold cJ
 rw[rc,ra,rb,List.map_append,List.sum_append,Int.add_mul]
 omega
theorem rS {P:Sr->Bool} {a s:List Sr} (h:s.Sublist a):a.Nodup->(∀x∈a,P x=true↔x∈s)->a.filter P=s:=by
 induction h with
 |slnil=>intro _ _;rfl
 | @cons l1 l2 x h ih=>
  intro nd hP
  rw[List.nodup_cons] at nd
  rw[List.filter_cons,if_neg (λz=>nd.1 (h.mem ((hP x List.mem_cons_self).mp z)))]
  exact ih nd.2 λy hy=>hP y (List.mem_cons_of_mem _ hy)
 | @cons_cons l1 l2 x h ih=>
  intro nd hP
  rw[List.nodup_cons] at nd
  rw[List.filter_cons,if_pos ((hP x List.mem_cons_self).mpr List.mem_cons_self)]
  congr 1
  refine ih nd.2 λy hy=>(hP y (List.mem_cons_of_mem _ hy)).trans ?_
  rw[List.mem_cons]
  exact⟨λz=>z.resolve_left λe=>nd.1 (e▸hy),.inr⟩
end Lib
set_option maxHeartbeats 4000000
namespace K34
open PySem L2
abbrev f6:PN:=Lib.f6
abbrev e6:PN:=Lib.e6
abbrev cK:PN:=Lib.cK
abbrev dW:PN:=Lib.dW
abbrev dA:PN:=Lib.dA
abbrev bX:PN:=Lib.bX
abbrev bP:PN:=Lib.bP
abbrev bW:PN:=Lib.bW
abbrev d9:PN:=Lib.d9
abbrev e9:PN:=Lib.e9
abbrev eC:PN:=Lib.eC
abbrev vF:PN:=D9
abbrev cN:PN:=EW
abbrev bI:PN:=Lib.bI
abbrev f7:PN:=Lib.f7
abbrev e8:PN:=Lib.e8
abbrev gC:PN:=Lib.gC
abbrev iV:PN:=Lib.iV
def AX: bD:=(aO (bN 3 (gY (a8 (fS (c8 lB (a8 (a9 1) aG))) (a8 (fS (c8 lB (a8 (a9 2) aG))) aG))))
 (aO (bN 4 (gY aG))
 (aO (yC (mZ (b9 a3O (b9 y9 (fS (b9 dJ (a9 3) (pC (.int 0)))) (fS (b9 dJ (a9 3) (pC (.int 1))))) (gY aG))) (aO (bN 5 (c8 cN (a8 (a9 0) (a8 (pC (.int 2)) aG))))
 (aO (mK (mZ (b9 a3N (b9 dJ (a9 3) (a9 5)) (gY aG))) (aO (bN 5 (b9 kM (pC (.int 1)) (a9 5)))
 bK) bK)
 (aO (nQ 4 3 (a9 5) (pC (.int 0)))
 bK))))
 (c6 (a9 4)))))
abbrev B4:{r:bD // r=AX}:=⟨_,by unfold AX;walk_at "rp"⟩
def nE:PN:=SU (λa0 a1 a2=>[some a0,some a1,some a2,none,none,none]) (λ_=>False) B4.1
abbrev f9:PN:=Lib.f9
abbrev cQ:PN:=Lib.cQ
abbrev fB:PN:=Lib.fB
abbrev gB:PN:=Lib.gB
def vV: bD:=(aO (bN 4 (gY aG))
 (aO (nR (fT (c8 cN (a8 (a9 0) (a8 (b9 eE (a9 1) (pC (.int 1))) aG)))) (aF 5) (aO (bN 6 (b9 eE (a9 2) (c8 cN (a8 (a9 0) (a8 (pC (.int 9)) aG)))))
 (aO (bN 7 (b9 eE (b9 eE (a9 6) (pC (.int 1))) (c8 cN (a8 (a9 0) (a8 (pC (.int 9)) aG)))))
 (aO (bN 8 (c8 cN (a8 (a9 0) (a8 (b9 dJ (gY (a8 (pC (.int 4)) (a8 (pC (.int 12)) (a8 (b9 eE (b9 vR (pC (.int 10)) (pC (.int 12))) (pC (.int 1))) aG)))) (c8 cN (a8 (a9 0) (a8 (pC (.int 3)) aG)))) aG))))
 (aO (gQ "list" 4 dN (a8 (jK (a8 (b9 sG (iP LX (c8 iV (a8 (a9 0) (a8 (a9 5) aG))) (pQ (LZ lU (pC (.int 7)))) lC) (a9 3)) (a8 (a9 6) (a8 (a9 7) (a8 (a9 8) aG))))) aG))
 bK)))))
 (c6 (a9 4))))
abbrev w9:{r:bD // r=vV}:=⟨_,by unfold vV;walk_at "rp"⟩
def iW:PN:=a2F (λa0 a1 a2 a3=>[some a0,some a1,some a2,some a3,none,none,none,none,none]) (λ_=>False) w9.1
abbrev dU:PN:=Lib.dU
abbrev gA:PN:=Lib.gA
abbrev d8:PN:=Lib.d8
abbrev fA:PN:=Lib.fA
abbrev dZ:PN:=Lib.dZ
abbrev bV:PN:=Lib.bV
abbrev l7:PN:=Lib.l7
abbrev eZ:PN:=Lib.eZ
abbrev e7:PN:=Lib.e7
def T9: bD:=(aO (nR (fT (c8 vP (a8 (pC (.int 1)) (a8 (c8 vQ (a8 (c8 nU (a8 (a9 0) aG)) (a8 (pC (.int 6)) aG))) aG)))) (aF 1) (aO (bN 2 (c8 vF (a8 (a9 0) (a8 (a9 1) aG))))
 (aO (bN 3 (c8 iW (a8 (a9 2) (a8 (pC (.int 8)) (a8 (LZ lU (pC (.int 4))) (a8 (pC (.str "y")) aG))))))
 (aO (bN 4 (b9 eE (LO oX (a8 (qU (eF (a9 3)) (aF 0) dM (b9 dJ (a9 0) (pC (.int 2))) (λenv=>[none])) aG) (pC (.int 0))) (b9 dJ (gY (a8 (pC (.int 0)) (a8 (pC (.int 0)) (a8 (pC (.int 1)) (a8 (b9 vR (pC (.int 10)) (pC (.int 11))) aG))))) (c8 cN (a8 (a9 2) (a8 (pC (.int 4)) aG))))))
 (aO (bN 5 (c8 iW (a8 (a9 2) (a8 (pC (.int 8)) (a8 (a9 4) (a8 (pC (.str "z")) aG))))))
 (aO (bN 6 (c8 cN (a8 (a9 2) (a8 (pC (.int 5)) aG))))
 (aO (bN 7 (gY (a8 (c8 e7 (a8 (a9 3) (a8 (a9 6) aG))) (a8 (c8 e7 (a8 (a9 5) (a8 (a9 6) aG))) aG))))
 (aO (bN 8 (c8 nE (a8 (a9 2) (a8 (a9 3) (a8 (a9 5) aG)))))
 (aO (bN 9 (b9 eE (b9 dJ (b9 dJ (a9 7) (pC (.int 0))) (pC (.int 0))) (b9 dJ (b9 dJ (a9 7) (pC (.int 1))) (pC (.int 0)))))
 (aO (bN 10 (b9 y9 (b9 dJ (b9 dJ (a9 7) (pC (.int 0))) (pC (.int 2))) (b9 dJ (b9 dJ (a9 7) (pC (.int 1))) (pC (.int 2)))))
 (aO (mK (mZ (b9 AU (b9 dJ (c8 e7 (a8 (a9 8) (a8 (a9 6) aG))) (pC (.int 0))) (a9 9))) (c6 (pC (.bl false))) bK)
 (aO (mK (HV (mZ (b9 yA (c8 mL (a8 (a9 10) aG)) (pC (.int 48)))) (mZ (b9 AU (c8 l7 (a8 (a9 8) (a8 (a9 6) (a8 (a9 10) aG)))) (a9 9)))) (c6 (pC (.bl false))) bK)
 (aO (bN 11 (b9 y9 (qU (eF (b9 dJ (b9 dJ (a9 7) (pC (.int 0))) (pC (.int 1)))) (aF 0) dM (b9 dJ (a9 1) (a9 0)) (λenv=>[none,jn (lR env 3)])) (qU (eF (b9 dJ (b9 dJ (a9 7) (pC (.int 1))) (pC (.int 1)))) (aF 0) dM (b9 dJ (a9 1) (a9 0)) (λenv=>[none,jn (lR env 5)]))))
 (aO (bN 12 (qU (fT (c8 mL (a8 (a9 8) aG))) (aF 0) (mZ (b9 a1X (b9 dJ (a9 2) (a9 0)) (a9 1))) (a9 0) (λenv=>[none,jn (lR env 11),jn (lR env 8)])))
 (aO (mK (Z5 (DA (mZ (c8 dZ (a8 (a9 8) (a8 (a9 6) (a8 (a9 12) aG)))))) (mZ (b9 AU (c8 dW (a8 (a9 8) (a8 (a9 12) aG))) (a9 9)))) (c6 (pC (.bl false))) bK)
 bK)))))))))))))))
 (c6 (pC (.bl true))))
abbrev TF:{r:bD // r=T9}:=⟨_,by unfold T9;walk_at "rp"⟩
def JU:PN:=SS (λa0=>[some a0,none,none,none,none,none,none,none,none,none,none,none,none]) (λR=>R .non) TF.1
end K34
set_option maxHeartbeats 16000000
namespace K34
open PySem L2 Lib
theorem a2E {nm:Str} {k:Nat} (h:NmOk nm k):∃pre,(Txt.slice nm (some (-7)) none).cps.toList=pre++[97+k]:=by
 obtain⟨pre,e,hl,_⟩:=h.ex
 have el:nm.length=pre.length+1:=by
  show nm.cps.size=_
  rw[<- Array.length_toList,e,List.length_append,List.length_singleton]
 by_cases h7:pre.length<7
 ·have key:∀n:Nat,n<7->((1:Int)==1&&(Builtin.Str.strSliceIndices (some (-7)) none 1 (n+1)).length==n+1)=true:=by decide
  have:Txt.slice nm (some (-7)) none=nm:=by
   unfold Txt.slice
   rw[el]
   exact if_pos (key _ h7)
  rw[this]
  exact⟨pre,e⟩
 ·have h7:pre.length=7:=by omega
  match pre,h7 with
  | [a,b,c,d,f,g,i],_=>
   have ec:nm.cps= #[a,b,c,d,f,g,i,97+k]:=Array.toList_inj.mp e
   have es:Builtin.Str.strSliceIndices (some (-7)) none 1 8=[1,2,3,4,5,6,7]:=by decide
   refine⟨[b,c,d,f,g,i],?_⟩
   unfold Txt.slice
   rw[el,show [a,b,c,d,f,g,i].length+1=8 from rfl,es,ec]
   rfl
structure Sm(s:Sr)(far:Int)(i tag:Nat):Prop where
 lt:s.b<s.e
 b:far<=s.b
 w0:0<=s.w
 nm:∃pre,s.nm.cps.toList=pre++[97+i,tag]
structure Sms(bk:List Sr)(far:Int)(tag:Nat):Prop where
 len:bk.length<=8
 at_:∀(i:Nat) (s:Sr),bk[i]? =some s->Sm s far i tag
theorem vA {far:Int} {tag:Nat} {R:PV->Prop} (q:∀bk,Sms bk far tag->R (bZ bk)):iW [.st,.int 8,.int far,.str ⟨#[tag]⟩] R:=by
  unfold iW
  tb_from(⟨by decide,by decide,λr r0 r1=>?_⟩)
  tb_from(⟨by omega,by omega,?_⟩)
  refine fL (λi env=>∃(bk:List Sr) (t5 t6 t7 t8:Option PV),env=[some .st,some (.int 8),some (.int far),some (.str ⟨#[tag]⟩),some (bZ bk),t5,t6,t7,t8]/\bk.length=i/\∀(j:Nat) (s:Sr),bk[j]? =some s->Sm s far j tag) ⟨[],_,_,_,_,rfl,rfl,by simp⟩ ?_ ?_
  · rintro i x env N hx ⟨bk,t5,t6,t7,t8,rfl,hbl,hb⟩ hN
    obtain⟨rfl,hi⟩:=fD hx
    have hi9:i<9:=by omega
    tb_from(⟨by decide,by decide,λb b0 b1=>?_⟩)
    tb_from(⟨by decide,by decide,λe e0 e1=>?_⟩)
    tb_from(⟨⟨by decide,by decide,by decide⟩,?_⟩)
    tb_from(⟨by decide,by decide,λc c0 c1=>?_⟩)
    walk_at "w"
    refine AS (ns:=[4,12,10^(12:Int).toNat+1]) (P:=λx=>0<x/\x<=1000000000001) c0 (by show c<(3:Int);omega) (λy hy=>by simp only[List.mem_cons,List.not_mem_nil,or_false,show (10:Int)^(12:Int).toNat=1000000000000 from by decide] at hy;omega) λtop htop=>?_
    walk_at "w"
    refine ⟨by omega, by have : (1000000000001 : Int)<2^250:=by decide
                         omega,λw w0 w1=>?_⟩
    tb_from(⟨rfl,?_⟩)
    tb_from(JO (by omega) (by omega) λnm hnm=>?_)
    rw[show ((0:Int)+(i:Int)).toNat=i by omega] at hnm
    walk_at "w"
    have hnl:nm.length<=8:=by
      obtain⟨pre,e,hl,_⟩:=hnm.ex
      show nm.cps.size<=8
      rw[<- Array.length_toList,e,List.length_append,List.length_singleton];omega
    have hsl:=Txt.slice_le nm (some (-7)) none
    refine⟨bB (by omega),?_⟩
    tb_from(⟨bB (show (Txt.slice nm (some (-7)) none).length+1<=1000 by omega),?_⟩)
    walk_at "w"
    refine⟨Nat.lt_of_le_of_lt (show (bk.map iD).length<=1000 by rw[a0f];omega) (show 1000<sizeLine by decide),?_⟩
    obtain⟨pre,ep⟩:=a2E hnm
    have em:∀s0:Sr,bk.map iD++[iD s0]=(bk++[s0]).map iD:=λs0=>by rw[List.map_append];rfl
    refine hN _ ⟨bk++[⟨Txt.slice nm (some (-7)) none++⟨#[tag]⟩,far+b,far+b+1+e,w⟩],some (.int (0+(i:Int))),some (.int (far+b)),some (.int (far+b+1+e)),some (.int w),?_,by simp[hbl],λj s hj=>?_⟩
    · exact congrArg (λz=>[some PV.st,some (PV.int 8),some (PV.int far),some (PV.str ⟨#[tag]⟩),some (PV.lst z),some (PV.int (0+(i:Int))),some (PV.int (far+b)),some (PV.int (far+b+1+e)),some (PV.int w)]) (em ⟨Txt.slice nm (some (-7)) none++⟨#[tag]⟩,far+b,far+b+1+e,w⟩)
    by_cases hji:j<bk.length
    · rw[List.getElem?_append_left hji] at hj
      exact hb j s hj
    · rw [List.getElem?_append_right (by omega)] at hj
      have:j-bk.length=0:=by
        have:=(List.getElem?_eq_some_iff.mp hj).1
        simp at this;omega
      rw[this] at hj
      simp at hj
      subst hj
      have hji:j=i:=by omega
      subst hji
      refine⟨by dsimp only;omega,by dsimp only;omega,w0,pre,?_⟩
      show ((Txt.slice nm (some (-7)) none).cps++ #[tag]).toList=_
      rw[Array.toList_append,ep,List.append_assoc];rfl
  · rintro env ⟨bk,t5,t6,t7,t8,rfl,hbl,hb⟩
    rw[bE] at hbl
    exact q bk ⟨by omega,hb⟩
theorem Sms.nm_ne{a b:List Sr}{f g:Int}{t u:Nat}(ha:Sms a f t)(hb:Sms b g u)(htu:t≠u){i j:Nat}{s r:Sr}(h1:a[i]? =some s)(h2:b[j]? =some r):s.nm≠r.nm:=λe=>by
 obtain⟨p,e1⟩:=(ha.at_ i s h1).nm
 obtain⟨p',e2⟩:=(hb.at_ j r h2).nm
 rw[e,e2] at e1
 have:=congrArg List.getLast? e1
 rw[List.getLast?_append,List.getLast?_append] at this
 simp at this
 exact htu this.symm
theorem Sms.nd{a:List Sr}{f:Int}{t:Nat}(ha:Sms a f t):a.Nodup:=by
 rw[List.nodup_iff_pairwise_ne,List.pairwise_iff_getElem]
 intro i j hi hj hij e
 obtain⟨p,e1⟩:=(ha.at_ i _ (a0a hi)).nm
 obtain⟨p',e2⟩:=(ha.at_ j _ (a0a hj)).nm
 rw[e,e2] at e1
 have:=congrArg (λl=>l.dropLast.getLast?) e1
 rw[show p'++[97+j,t]=(p'++[97+j])++[t] by simp,show p++[97+i,t]=(p++[97+i])++[t] by simp,List.dropLast_concat,List.dropLast_concat,List.getLast?_concat,List.getLast?_concat] at this
 injection this with this
 omega
theorem RZ{s r:Sr}(h:iD s=iD r):s=r:=by
 cases s;cases r
 injection h with h
 injection h with h1 h
 injection h with h2 h
 injection h with h3 h
 injection h with h4 _
 injection h1 with h1
 injection h2 with h2
 injection h3 with h3
 injection h4 with h4
 subst h1 h2 h3 h4;rfl
theorem NE{a b:List Sr}{f g:Int}{t u:Nat}(h1:Sms a f t)(h2:Sms b g u)(htu:t≠u){i j:Nat}(h:i<a.length\/j<b.length):(a.drop i).map iD≠(b.drop j).map iD:=λe=>by
 have el:=congrArg List.length e
 rw[a0f,a0f,List.length_drop,List.length_drop] at el
 have hi:i<a.length:=by omega
 have hj:j<b.length:=by omega
 rw[List.drop_eq_getElem_cons hi,List.drop_eq_getElem_cons hj,List.map_cons,List.map_cons] at e
 injection e with e _
 exact h1.nm_ne h2 htu (a0a hi) (a0a hj) (congrArg Sr.nm (RZ e))
theorem BL{α:Type}{l:List α}{i:Nat}(h:i<l.length):l.take (i+1)=l.take i++[l[i]]:=by
 rw[List.take_add_one,a0a h];rfl
theorem JB(c:List Sr)(s:Sr):PV.lst (c.map iD++[iD s])=bZ (c++[s]):=by
 show _=PV.lst ((c++[s]).map iD)
 rw[List.map_append];rfl
theorem BD{a b c:List Sr}(h:Shuf a b c):c.length=a.length+b.length:=by rw[h.perm.length_eq,List.length_append]
theorem a0M {a b c:List Sr} {f g:Int} {t u:Nat} (h1:Sms a f t) (h2:Sms b g u) (htu:t≠u) {i j:Nat} (h:i<a.length) (hc:c.length<=16) {v0 v1 v2:Option PV} {E:PEnds} (q:E.nx [v0,v1,v2,some (.lst [bZ (a.drop (i+1)),bZ (b.drop j)]),some (bZ (c++[a[i]])),some (.int 0)]) :
  nQ 4 3 (RD.a9 5) (RD.pC (.int 0)) E [v0,v1,v2,some (.lst [bZ (a.drop i),bZ (b.drop j)]),some (bZ c),some (.int 0)]:=by
 refine And.intro (bB (by rw[a0f];omega)) ?_
 refine And.intro (eD _) ?_
 refine⟨0,iD a[i],rfl,by decide,by rw[List.drop_eq_getElem_cons h];rfl,?_,?_⟩
 ·intro m z e hm
  match m,e with
  |0,_=>exact absurd rfl hm
  | 1,e=>
   cases e
   exact .inr ⟨_,rfl,eD _,λz=>absurd z.symm (NE h1 h2 htu (.inl h))⟩
 ·rw[List.drop_eq_getElem_cons h]
  rw[<- JB] at q
  exact q
theorem a0N {a b c:List Sr} {f g:Int} {t u:Nat} (h1:Sms a f t) (h2:Sms b g u) (htu:t≠u) {i j:Nat} (h:j<b.length) (hc:c.length<=16) {v0 v1 v2:Option PV} {E:PEnds} (q:E.nx [v0,v1,v2,some (.lst [bZ (a.drop i),bZ (b.drop (j+1))]),some (bZ (c++[b[j]])),some (.int 1)]) :
  nQ 4 3 (RD.a9 5) (RD.pC (.int 0)) E [v0,v1,v2,some (.lst [bZ (a.drop i),bZ (b.drop j)]),some (bZ c),some (.int 1)]:=by
 refine And.intro (bB (by rw[a0f];omega)) ?_
 refine And.intro (eD _) ?_
 refine⟨0,iD b[j],rfl,by decide,by rw[List.drop_eq_getElem_cons h];rfl,?_,?_⟩
 ·intro m z e hm
  match m,e with
  |1,_=>exact absurd rfl hm
  | 0,e=>
   cases e
   exact .inr ⟨_,rfl,eD _,λz=>absurd z (NE h1 h2 htu (.inr h))⟩
 ·rw[List.drop_eq_getElem_cons h]
  rw[<- JB] at q
  exact q
theorem JN {one other:List Sr} {f g:Int} {t u:Nat} {R:PV->Prop} (h1:Sms one f t) (h2:Sms other g u) (htu:t≠u) (q:∀c,Shuf one other c->R (bZ c)):nE [.st,bZ one,bZ other] R:=by
  have l1:=h1.len
  have l2:=h2.len
  unfold nE
  tb_from(⟨eD _,?_⟩)
  tb_from(⟨eD _,?_⟩)
  tb_from(⟨λm env=>∃(i j:Nat) (c:List Sr) (t5:Option PV),i<=one.length/\j<=other.length/\m=(one.length-i)+(other.length-j)/\Shuf (one.take i) (other.take j) c/\env=[some .st,some (bZ one),some (bZ other),some (.lst [bZ (one.drop i),bZ (other.drop j)]),some (bZ c),t5],⟨_,0,0,[],none,Nat.zero_le _,Nat.zero_le _,rfl,.nil,rfl⟩,?_⟩)
  rintro m env ⟨i,j,c,t5,hi,hj,rfl,hs,rfl⟩
  tb_from(cE iI ?_)
  tb_from(⟨eD _,?_⟩)
  tb_from(cE jC ?_)
  tb_from(⟨eD _,?_⟩)
  walk_at "w"
  have hcl:=BD hs
  rw[List.length_take,List.length_take] at hcl
  refine ⟨by have : sizeLine=sizeLine:=rfl
             refine Nat.le_of_lt (bB ?_)
             simp;omega,?_⟩
  rw[<- List.map_append]
  tb_from(⟨Nat.le_trans (xK _) (by decide),Nat.lt_of_le_of_lt xM (by decide),?_⟩)
  rw[rR]
  have goA:∀(h:i<one.length),∃m',m'<one.length-i+(other.length-j)/\∃(i' j':Nat) (c':List Sr) (t5:Option PV),i'<=one.length/\j'<=other.length/\m'=(one.length-i')+(other.length-j')/\Shuf (one.take i') (other.take j') c'/\[some .st,some (bZ one),some (bZ other),some (.lst [bZ (one.drop (i+1)),bZ (other.drop j)]),some (bZ (c++[one[i]])),some (.int 0)]=[some .st,some (bZ one),some (bZ other),some (.lst [bZ (one.drop i'),bZ (other.drop j')]),some (bZ c'),t5]:=λh=>⟨one.length-(i+1)+(other.length-j),by omega,i+1,j,c++[one[i]],_,by omega,hj,rfl,by rw[BL h];exact .l hs,rfl⟩
  have goB:∀(h:j<other.length),∃m',m'<one.length-i+(other.length-j)/\∃(i' j':Nat) (c':List Sr) (t5:Option PV),i'<=one.length/\j'<=other.length/\m'=(one.length-i')+(other.length-j')/\Shuf (one.take i') (other.take j') c'/\[some .st,some (bZ one),some (bZ other),some (.lst [bZ (one.drop i),bZ (other.drop (j+1))]),some (bZ (c++[other[j]])),some (.int 1)]=[some .st,some (bZ one),some (bZ other),some (.lst [bZ (one.drop i'),bZ (other.drop j')]),some (bZ c'),t5]:=λh=>⟨one.length-i+(other.length-(j+1)),by omega,i,j+1,c++[other[j]],_,hi,by omega,rfl,by rw[BL h];exact .r hs,rfl⟩
  have hcc:c.length<=16:=by omega
  by_cases hz:one.length<=i/\other.length<=j
  · refine NX (c:=false) (by rw[List.drop_of_length_le hz.1,List.drop_of_length_le hz.2];rfl) ?_
    walk_at "w"
    rw[List.take_of_length_le hz.1,List.take_of_length_le hz.2] at hs
    exact q c hs
  · refine NX (c:=true) (by
      by_cases h:i<one.length
      · rw[List.drop_eq_getElem_cons h];rfl
      · rw[List.drop_of_length_le (Nat.le_of_not_lt h),List.drop_eq_getElem_cons (show j<other.length by omega)];rfl) ?_
    refine⟨λenv'=>∃m',m'<one.length-i+(other.length-j)/\∃(i' j':Nat) (c':List Sr) (t5:Option PV),i'<=one.length/\j'<=other.length/\m'=(one.length-i')+(other.length-j')/\Shuf (one.take i') (other.take j') c'/\env'=[some .st,some (bZ one),some (bZ other),some (.lst [bZ (one.drop i'),bZ (other.drop j')]),some (bZ c'),t5],λenv' h=>h,?_⟩
    tb_from(⟨by decide,by decide,λr r0 r1=>?_⟩)
    walk_at "w"
    rcases (show r = 0 ∨ r = 1 by have : r<(2 : Int):=r1
                                  omega) with rfl|rfl
    · refine cE iI ?_
      tb_from(⟨Nat.le_trans (xK _) (by decide),Nat.lt_of_le_of_lt xM (by decide),?_⟩)
      rw[rR]
      by_cases h:i<one.length
      · refine NX (c:=false) (by rw[List.drop_eq_getElem_cons h];rfl) ?_
        walk_at "w"
        exact a0M h1 h2 htu h hcc (goA h)
      · refine NX (c:=true) (by rw[List.drop_of_length_le (Nat.le_of_not_lt h)];rfl) ?_
        walk_at "w"
        exact a0N h1 h2 htu (show j<other.length by omega) hcc (goB _)
    · refine cE jC ?_
      tb_from(⟨Nat.le_trans (xK _) (by decide),Nat.lt_of_le_of_lt xM (by decide),?_⟩)
      rw[rR]
      by_cases h:j<other.length
      · refine NX (c:=false) (by rw[List.drop_eq_getElem_cons h];rfl) ?_
        walk_at "w"
        exact a0N h1 h2 htu h hcc (goB h)
      · refine NX (c:=true) (by rw[List.drop_of_length_le (Nat.le_of_not_lt h)];rfl) ?_
        walk_at "w"
        exact a0M h1 h2 htu (show i<one.length by omega) hcc (goA _)
theorem Sms.lts{a:List Sr}{f:Int}{t:Nat}(h:Sms a f t):∀s∈a,s.b<s.e:=λs hs=>by obtain⟨i,e⟩:=List.getElem?_of_mem hs;exact (h.at_ i s e).lt
theorem Sms.w0s{a:List Sr}{f:Int}{t:Nat}(h:Sms a f t):∀s∈a,0<=s.w:=λs hs=>by obtain⟨i,e⟩:=List.getElem?_of_mem hs;exact (h.at_ i s e).w0
theorem a2U{one:List Sr}{Q:PV->Prop}(q:∀M:Int,(∀s∈one,s.e<=M)->Q (.int M)):oX [gV (one.map Sr.e)] (.int 0) Q:=by
 refine M7 (λz=>q 0 λs hs=>?_) λ_ M _ hM=>q M λs hs=>hM _ (List.mem_map_of_mem hs)
 rw[List.map_eq_nil_iff.mp z] at hs
 cases hs
theorem JM{bk:List Sr}{ks:List Int}{b:Int}{R:PV->Prop}(hlt:∀s∈bk,s.b<s.e)(hl:ks.length<=31)(h:SmOk ks bk.length)(q:∀G f,Crowd (aH bk ks) G f->R (.bl (decide ((G:Int)<=b)))):dZ [bZ bk,.int b,gV ks] R:=by
 unfold dZ
 tb_from(G6 h ?_)
 tb_from(rM hl h.at_ (λs hs=>hlt s (o3 h.at_ hs)) λG f c=>?_)
 refine i7 iI ?_
 walk_at "w"
 exact q G f c
theorem qR {bk:List Sr} {ks:List Int} {Q:PV->Prop} {e1:Option PV} (ok:∀k∈ks,0<=k/\k<(bk.length:Int)) (q:Q (bZ (aH bk ks))) :
  jI (RD.aF 0) RD.dM (RD.b9 dJ (RD.a9 1) (RD.a9 0)) Q (ks.map PV.int) [] [e1,some (bZ bk)]:=by
 refine gO (λi acc env=>acc=((ks.take i).map (eO bk)).map iD/\∃t,env=[t,some (bZ bk)]) ⟨rfl,_,rfl⟩ ?_ ?_
 ·rintro i x acc env N hx ⟨rfl,t,rfl⟩ hN
  rw[List.getElem?_map,Option.map_eq_some_iff] at hx
  obtain⟨k,hk,rfl⟩:=hx
  have:=ok k (List.mem_of_getElem? hk)
  tb_from(cE (v8 this.1 this.2) ?_)
  refine hN _ _ ⟨?_,_,rfl⟩
  rw[List.take_add_one,hk];simp
 ·rintro acc env ⟨rfl,t,rfl⟩
  rw[a0f,List.take_length];exact q
theorem FF(s r:Sr):((iD s).eqB (iD r)=true)↔s=r:=by
 rw[eqB_iff]
 refine⟨λh=>?_,λh=>by rw[h]⟩
 unfold iD at h
 rw[PV.norm,PV.norm,PV.norms_map,PV.norms_map] at h
 simp[PV.norm] at h
 cases s;cases r
 simp at h
 simp[h]
noncomputable def a02(ch:List Sr)(s:Sr):Bool:=(ch.map iD).any λz=>z.eqB (iD s)
theorem EK (ch:List Sr) (s:Sr):a02 ch s=true↔s∈ch:=by
 unfold a02
 rw[List.any_eq_true]
 constructor
 ·rintro⟨z,hz,e⟩
  obtain⟨r,hr,rfl⟩:=List.mem_map.mp hz
  rw[FF] at e
  subst e;exact hr
 ·exact λh=>⟨_,List.mem_map_of_mem h,(FF _ _).mpr rfl⟩
noncomputable def GV(bk ch:List Sr)(n:Nat):List Int:=((List.range n).filter λi=>a02 ch (eO bk ((i:Nat):Int))).map λ(i:Nat)=>(i:Int)
theorem L3 {bk ch:List Sr} {Q:PV->Prop} {e1:Option PV} (q:Q (gV (GV bk ch bk.length))) :
  jI (RD.aF 0) (RD.mZ (RD.b9 a1X (RD.b9 dJ (RD.a9 2) (RD.a9 0)) (RD.a9 1))) (RD.a9 0) Q (c4 0 bk.length) [] [e1,some (bZ ch),some (bZ bk)]:=by
 refine gO (λi acc env=>acc=(GV bk ch i).map PV.int/\∃t,env=[t,some (bZ ch),some (bZ bk)]) ⟨by unfold GV;rfl,_,rfl⟩ ?_ ?_
 ·rintro i x acc env N hx ⟨rfl,t,rfl⟩ hN
  obtain⟨rfl,hi⟩:=fD hx
  have e0:(0:Int)+(i:Int)=(i:Int):=by omega
  rw[e0]
  tb_from(cE (v8 (by omega) (by omega)) ?_)
  walk_at "w"
  refine⟨Nat.lt_of_le_of_lt (xN _) (by decide),Nat.le_trans (PV.deps_of (n:=1) λx h=>by obtain⟨k,_,rfl⟩:=List.mem_map.mp h;exact xN k) (by decide),?_⟩
  refine U3 (b:=a02 ch (eO bk (i:Int))) (λh=>?_) λh=>?_
  ·refine hN _ _ ⟨?_,_,rfl⟩
   unfold GV
   rw[List.range_succ,List.filter_append]
   simp[h]
  ·refine hN _ _ ⟨?_,_,rfl⟩
   unfold GV
   rw[List.range_succ,List.filter_append]
   simp[h]
 ·rintro acc env ⟨rfl,t,rfl⟩
  rw[bE];exact q
theorem V9 (bk ch:List Sr):SmOk (GV bk ch bk.length) bk.length:=by
 refine⟨?_,λk hk=>?_⟩
 ·unfold GV
  refine List.Pairwise.map _ (λa b h=>?_) ((List.pairwise_lt_range (n:=bk.length)).sublist List.filter_sublist)
  omega
 ·unfold GV at hk
  obtain⟨i,hi,rfl⟩:=List.mem_map.mp hk
  have:=List.mem_range.mp (List.mem_filter.mp hi).1
  omega
theorem KH (bk ch:List Sr):aH bk (GV bk ch bk.length)=bk.filter λs=>a02 ch s:=by
 have e:bk=(List.range bk.length).map λi=>eO bk ((i:Nat):Int):=by
  refine List.ext_getElem (by simp) λi h1 h2=>?_
  rw[List.getElem_map,List.getElem_range]
  unfold eO
  rw[show ((i:Nat):Int).toNat=i from rfl,a0a h1];rfl
 conv=>rhs;rw[e]
 rw[List.filter_map]
 unfold aH GV
 rw[List.map_map];rfl
theorem X8{l1 l2:List Sr}(h:l1.Perm l2):d6 l1=d6 l2:=by
 unfold d6
 induction h with
 |nil=>rfl
 |cons x _ ih=>rw[List.map_cons,List.sum_cons,ih,List.map_cons,List.sum_cons]
 |swap x y l=>simp only[List.map_cons,List.sum_cons];omega
 |trans _ _ h1 h2=>rw[h1,h2]
theorem JH {one other both:List Sr} {f g:Int} {t u:Nat} {ks1 ks2:List Int} (h1:Sms one f t) (h2:Sms other g u) (htu:t≠u) (s1:SmOk ks1 one.length) (s2:SmOk ks2 other.length) (h:Shuf one other both) :
  (aH both (GV both (aH one ks1++aH other ks2) both.length)).Perm (aH one ks1++aH other ks2):=by
 rw[KH]
 refine (h.perm.filter _).trans ?_
 rw[List.filter_append]
 have q1:=lE s1
 have q2:=lE s2
 have no:∀s∈one,s∉other:=λs ha hb=>by
  obtain⟨i,ea⟩:=List.getElem?_of_mem ha
  obtain⟨j,eb⟩:=List.getElem?_of_mem hb
  exact h1.nm_ne h2 htu ea eb rfl
 rw [rS q1 h1.nd λx hx=>by
   rw[EK,List.mem_append]
   exact⟨λz=>z.resolve_right λy=>no x hx (q2.subset y),.inl⟩,
  rS q2 h2.nd λx hx=>by
   rw[EK,List.mem_append]
   exact⟨λz=>z.resolve_left λy=>no x (q1.subset y) hx,.inr⟩]
theorem W9:∀ns:List Int,ns.length<=63->JU [.scr ns] λr=>r= .bl true:=by
 intro ns hns
 unfold JU
 tb_from(⟨by omega,?_⟩)
 refine⟨by omega,?_⟩
 refine PY (λenv=>∃t1 t2 t3 t4 t5 t6 t7 t8 t9 t10 t11 t12,env=[some (.scr ns),t1,t2,t3,t4,t5,t6,t7,t8,t9,t10,t11,t12]) ⟨_,_,_,_,_,_,_,_,_,_,_,_,rfl⟩ ?_ ?_
 ·rintro x env N hx ⟨t1,t2,t3,t4,t5,t6,t7,t8,t9,t10,t11,t12,rfl⟩ hN
  obtain⟨i,rfl,i0,i1⟩:=CY hx
  tb_from(⟨by omega,by omega,?_⟩)
  tb_from(vA (tag:=121) λone h1=>?_)
  have l1:=h1.len
  walk_at "w"
  refine⟨bB (by rw[a0f];omega),?_⟩
  refine Q8 (g:=Sr.e) (λs R h=>i7 rF h) ?_
  tb_from(a2U λM hM=>?_)
  tb_from(⟨⟨by decide,by decide,by decide⟩,?_⟩)
  tb_from(⟨by decide,by decide,λc c0 c1=>?_⟩)
  walk_at "w"
  refine AS (ns:=[0,0,1,10^(11:Int).toNat]) (P:=λx=>0<=x) c0 (by show c<(4:Int);omega) (λy hy=>by simp only[List.mem_cons,List.not_mem_nil,or_false,show (10:Int)^(11:Int).toNat=100000000000 from by decide] at hy;omega) λgap hgap=>?_
  tb_from(vA (tag:=122) λother h2=>?_)
  have l2:=h2.len
  tb_from(⟨by decide,by decide,λb b0 b1=>?_⟩)
  walk_at "w"
  obtain⟨b,rfl⟩ : ∃j:Nat,b=(j:Int):=⟨b.toNat,by omega⟩
  refine oQ (by omega) h1.lts h1.w0s λks1 pp1 hB1=>?_
  tb_from(oQ (by omega) h2.lts h2.w0s λks2 pp2 hB2=>?_)
  simp only[dO]
  tb_from(JN h1 h2 (by decide) λboth hsh=>?_)
  have l3:=BD hsh
  have hfr:Far one other (M+gap):=⟨λs hs=>by have:=hM s hs;omega,λs hs=>by obtain⟨i,e⟩:=List.getElem?_of_mem hs;exact (h2.at_ i s e).b⟩
  have hlt3:∀s∈both,s.b<s.e:=λs hs=>(List.mem_append.mp (hsh.perm.mem_iff.mp hs)).elim (h1.lts s) (h2.lts s)
  have hw3:∀s∈both,0<=s.w:=λs hs=>(List.mem_append.mp (hsh.perm.mem_iff.mp hs)).elim (h1.w0s s) (h2.w0s s)
  have hM3:=hsh.most hfr hB1.most hB2.most
  tb_from(cE iI ?_)
  tb_from(i7 iI ?_)
  tb_from(cE jC ?_)
  tb_from(i7 iI ?_)
  walk_at "w"
  simp only[dO]
  tb_from(cE iI ?_)
  tb_from(i7 rF ?_)
  tb_from(cE jC ?_)
  tb_from(i7 rF ?_)
  walk_at "w"
  have p1:=hB1.pr.len
  have p2:=hB2.pr.len
  refine⟨Nat.le_of_lt (bB (by rw[a0f,a0f];omega)),?_⟩
  walk_at "w"
  simp only[dO]
  refine oQ (by omega) hlt3 hw3 λks3 pp3 hB3=>?_
  tb_from(i7 iI ?_)
  walk_at "w"
  rw[hB3.most.uniq hM3]
  refine NX (c:=false) (by simp) ?_
  walk_at "w"
  refine NX (c:=true) (decide_eq_true (by simp;omega)) ?_
  rw[<- List.map_append]
  refine OG (by omega) (by simp;omega) (λp hp=>(List.mem_append.mp hp).elim (hB1.nn p) (hB2.nn p)) (by omega) (by omega) ?_
  rw [hsh.claim hfr (λp hp=>by
    obtain⟨s,hs,ho,_⟩:=hB1.under hp
    have:=c5.mp ho
    have:=hfr.e s hs
    omega) (λp hp=>by
    obtain⟨s,hs,ho,_⟩:=hB2.under hp
    have:=c5.mp ho
    have:=hfr.b s hs
    omega),hB1.cl,hB2.cl]
  tb_from(NX (c:=false) (by simp) ?_)
  tb_from(cE iI ?_)
  tb_from(i7 jC ?_)
  walk_at "w"
  have sm1:=hB1.sm.len
  have sm2:=hB2.sm.len
  refine⟨Nat.le_of_lt (bB (by rw[a0f];omega)),?_⟩
  refine qR hB1.sm.at_ ?_
  tb_from(cE jC ?_)
  tb_from(i7 jC ?_)
  walk_at "w"
  refine⟨Nat.le_of_lt (bB (by rw[a0f];omega)),?_⟩
  refine qR hB2.sm.at_ ?_
  walk_at "w"
  refine⟨Nat.le_of_lt (bB (by unfold aH;simp;omega)),?_⟩
  rw[<- List.map_append]
  walk_at "w"
  simp only[dO]
  have hr0:((bZ both|> λ_=>((both.map iD).length:Int)).toNat)=both.length:=by simp
  refine⟨by omega,by rw[a0f];omega,?_⟩
  refine⟨Nat.le_of_lt (bB (by rw[bE];simp;omega)),?_⟩
  rw[show ((((both.map iD).length:Nat):Int)).toNat=both.length by simp]
  refine L3 ?_
  walk_at "w"
  have hpm:=JH h1 h2 (by decide) hB1.sm hB2.sm hsh
  have hfo:=V9 both (aH one ks1++aH other ks2)
  have hfl:=hfo.len
  have hwf:d6 (aH both (GV both (aH one ks1++aH other ks2) both.length))=d6 (aH one ks1)+d6 (aH other ks2):=by
   unfold d6
   have hp:=X8 hpm
   unfold d6 at hp
   rw[hp,List.map_append,List.sum_append]
  have hlf:∀m,aL (aH both (GV both (aH one ks1++aH other ks2) both.length)) m<=b:=λm=>by
   unfold aL
   rw[hpm.countP_eq,List.countP_append]
   have a1:=hB1.ld m
   have a2:=hB2.ld m
   have a3:=(hfr.sub (lE hB1.sm) (lE hB2.sm)).ld m
   unfold aL at a1 a2 a3
   omega
  simp only[dO]
  tb_from(JM hlt3 (by omega) hfo λG f hc=>?_)
  rw[decide_eq_true (show (G:Int)<=(b:Int) by have:=hc.le_of hlf;omega)]
  tb_from(EB (by omega) hfo.at_ ?_)
  rw[hwf]
  refine NX (c:=false) (by simp) ?_
  walk_at "w"
  exact hN _ ⟨_,_,_,_,_,_,_,_,_,_,_,_,rfl⟩
 ·rintro env ⟨t1,t2,t3,t4,t5,t6,t7,t8,t9,t10,t11,t12,rfl⟩
  rfl
end K34
set_option maxHeartbeats 4000000
local macro_rules | `(tactic| walk_at "lk") => `(tactic| with_reducible first | assumption | exact L2.aU | (apply L2.lk_ne; (walk_at "ne"); (walk_at "lk")))
local macro_rules | `(tactic| walk_at "ne") => `(tactic| with_reducible first | assumption | exact Ne.symm (by assumption) | (apply L2.ne_new; assumption; (walk_at "lk")) | (apply Ne.symm; apply L2.ne_new; assumption; (walk_at "lk")))
local macro_rules | `(tactic| walk_at "at") => `(tactic| with_reducible first | exact L2.iI | exact L2.jC | exact L2.rF | exact L2.C8 | exact L2.at_b | exact L2.at_e | exact L2.at_w | exact L2.at_n | assumption)
local macro_rules | `(tactic| walk_at "side") => `(tactic| first | assumption | omega | (apply L2.U7 <;> omega) | (apply L2.U8 <;> omega) | (apply L2.OK; omega; first | assumption | (apply L2.a08; omega)))
local macro_rules | `(tactic| walk_at "len") => `(tactic| first | assumption | omega | (simp only [List.length_cons, List.length_nil, List.length_append]; omega))
local macro_rules | `(tactic| walk_at "st1") => `(tactic| with_reducible first
  |refine L2.step ?_
  |(apply L2.a2Z;(walk_at "side"))
  |(apply L2.RQ;(walk_at "lk");(walk_at "at"))
  |(apply L2.rIxTp_s;(walk_at "lk");(walk_at "at"))
  |(apply L2.iteT)|(apply L2.iteF)|(apply L2.iteNT_s)|(apply L2.iteNF_s)
  |(apply L2.a04;(walk_at "len"))
  |(apply L2.Y4;(walk_at "lk"))|(apply L2.Y5;(walk_at "lk"))|(apply L2.Y6;(walk_at "lk"))
  |(apply L2.gTup2_s;(walk_at "lk"))|(apply L2.gTup3_s;(walk_at "lk"))|(apply L2.gTup4_s;(walk_at "lk"))
  |(apply L2.FC;assumption)|(apply L2.rLenL_s;(walk_at "lk"))|(apply L2.rLenT_s;(walk_at "lk"))
  |(apply L2.rListOfL_s;(walk_at "lk"))
  |(apply L2.tyL_s;(walk_at "lk"))
  |(apply L2.rAppend_s;(walk_at "lk");(apply L2.lenT_s;(walk_at "len")))
  |(apply L2.sl13_s;(walk_at "lk"))
  |(apply L2.rCat_s;(walk_at "lk");(walk_at "lk");(apply L2.lenL_s;(walk_at "len")))
  |(apply L2.exfl_s;(walk_at "lk"))
  |(apply L2.exacc_s;(walk_at "lk");(walk_at "len"))
  |(apply L2.rListR_s;(walk_at "lk");omega)
  |(apply L2.rAddS_s;(apply L2.lenL_s;omega)))
local macro_rules | `(tactic| walk_at "st") => `(tactic| (repeat walk_at "st1"))
local macro_rules | `(tactic| walk_at "but") => `(tactic| with_reducible (repeat (first | assumption | exact L2.But.refl | refine L2.But.put_of ?_ | (refine L2.But.new_of ?_ (by assumption)) | (refine L2.But.own_of ?_ (by assumption)))))
local macro_rules | `(tactic| walk_at "same") => `(tactic| with_reducible (repeat (first | assumption | exact L2.Same.refl _ | (refine L2.Same.new_of ?_ (by assumption)))))
local macro_rules | `(tactic| walk_at "tups") => `(tactic| with_reducible (repeat (first | assumption | exact L2.Tups.refl | (refine L2.Tups.new_of ?_ (by assumption)) | (apply L2.Tups.put_of; rotate_left; (walk_at "lk")))))
local macro_rules | `(tactic| walk_at "n") => `(tactic| exact L2.T6 (by first | exact Or.inl (by decide +kernel) | exact Or.inr (by decide +kernel)) rfl (by decide +kernel) (by decide +kernel))
local macro_rules | `(tactic| walk_at "d") => `(tactic| (refine' L2.UA ?da ?dl ?dc ?dk; (case da => k_is); (case dl => k_is); (case dc => k_is); (case dk => k_is)))
namespace K34
open PySem L2
def top(i:Nat):Stmt:=PySem.Challenge.pw_benchworth_k34_whole_far_books_add.main.body.getD i (.Pass ⟨0,0,0,0⟩)
structure Txt(K:PySem.W.Frag)(mg:Str->Option Value):Prop where
 b_bool:mg "bool"=none
 b_enumerate:mg "enumerate"=none
 b_int:mg "int"=none
 b_isinstance:mg "isinstance"=none
 b_len:mg "len"=none
 b_list:mg "list"=none
 b_max:mg "max"=none
 b_min:mg "min"=none
 b_range:mg "range"=none
 b_set:mg "set"=none
 b_sorted:mg "sorted"=none
 b_sum:mg "sum"=none
 b_zip:mg "zip"=none
section
variable{P:Program}{w:World}{K:Aa}{mg:Str->Option Value}{base:Heap}
theorem a3M{X:Cx}{md:List Md}{e:Expr}{pe:aR}(h:VE X md e (.c .fl) pe):VE X md e (.p .fl) pe:=eG h rfl
theorem Q5{X:Cx}{md:List Md}{e:Expr}{pe:aR}(h:VE X md e (.o .fl) pe):VE X md e (.p .fl) pe:=eG h rfl
theorem Q6{X:Cx}{md:List Md}{e:Expr}{pe:aR}(h:VE X md e (.o .fl) pe):VE X md e .bw pe:=eG h rfl
theorem a3X{X:Cx}{md:List Md}{e:Expr}{pe:aR}(h:VE X md e (.o .sh) pe):VE X md e (.p .sh) pe:=eG h rfl
theorem a03{X:Cx}{md:List Md}{e:Expr}{pe:aR}(h:VE X md e (.o .sh) pe):VE X md e .bw pe:=eG h rfl
theorem a3Y{X:Cx}{md:List Md}{e:Expr}{pe:aR}(h:VE X md e (.o .sn) pe):VE X md e (.p .sn) pe:=eG h rfl
theorem a3Z{X:Cx}{md:List Md}{e:Expr}{pe:aR}(h:VE X md e (.v .fl) pe):VE X md e (.p .fl) pe:=eG h rfl
theorem aY{X:Cx}{md:List Md}{e:Expr}{pe:aR}(h:VE X md e (.v .fl) pe):VE X md e .bw pe:=eG h rfl
theorem T2{X:Cx}{md:List Md}{e:Expr}{pe:aR}(h:VE X md e (.v .sh) pe):VE X md e (.p .sh) pe:=eG h rfl
theorem KZ{X:Cx}{md:List Md}{e:Expr}{pe:aR}(h:VE X md e (.v .sh) pe):VE X md e .bw pe:=eG h rfl
theorem sA{X:Cx}{md:List Md}{e:Expr}{pe:aR}(h:VE X md e (.v .sn) pe):VE X md e (.p .sn) pe:=eG h rfl
theorem a2O{X:Cx}{md:List Md}{e:Expr}{pe:aR}(h:VE X md e (.v .sn) pe):VE X md e (.v .sh) pe:=eG h rfl
theorem KY{X:Cx}{md:List Md}{e:Expr}{pe:aR}(h:VE X md e (.v .sn) pe):VE X md e .bw pe:=eG h rfl
theorem a2P{X:Cx}{md:List Md}{e:Expr}{pe:aR}(h:VE X md e (.z .fl) pe):VE X md e (.p .fl) pe:=eG h rfl
theorem HG{X:Cx}{md:List Md}{e:Expr}{pe:aR}(h:VE X md e (.z .fl) pe):VE X md e (.v .sn) pe:=eG h rfl
theorem a2Q{X:Cx}{md:List Md}{e:Expr}{pe:aR}(h:VE X md e .n pe):VE X md e .bw pe:=eG h rfl
abbrev mQ:Stmt:=top 1
abbrev C0:List Str:=["thing"]
theorem E3:SN C0 ["thing"] mQ:=bM
abbrev kB:=l5 1 "is_whole" ["thing"] [.bw] (.v .fl) f6
theorem AJ(D:Df K mg "is_whole" mQ)(T:Txt K mg): kB P w K mg base:=
 have z:=E3
 YO (mn:=[.no]) (UC Lib.tF.2) D z λf cdv A outer s H E hr=>
 (aK (b8 (DV (aY (b6 DG yR gD T.b_isinstance iL (a7 (vb z) (a7 (aY (jQ (yI (v:=.ty "int") gD T.b_int JI rfl JE J9) (λ_=>.ty _))) aC)) iK iJ)) (z8 (YT (aY (b6 DG yR gD T.b_isinstance iL (a7 (vb z) (a7 (aY (jQ (yI (v:=.ty "bool") gD T.b_bool OE rfl OD OB) (λ_=>.ty _))) aC)) iK iJ))))) rfl))
abbrev p4:Stmt:=top 4
abbrev FW:List Str:=["stretch", "moment"]
theorem IK:SN FW ["stretch", "moment"] p4:=bM
abbrev gI:=l5 1 "is_over" ["stretch", "moment"] [.bw,.bw] (.v .fl) e6
theorem D0(D:Df K mg "is_over" p4)(T:Txt K mg): gI P w K mg base:=
 have z:=IK
 BX (mn:=[.no,.no]) (BV Lib.w6.2) D z λf cdv A outer s H E hr=>
 (aK (b8 (BN tM DJ a16 a40 (KZ (aJ (vp .sh z) (aY aE) (λ_ _=>rfl))) (vb z) (KZ (aJ (vp .sh z) (aY aE) (λ_ _=>rfl)))) rfl))
abbrev g8:Stmt:=top 5
abbrev wU:List Str:=["book"]
theorem zH:SN wU ["book"] g8:=bM
abbrev fK:=l5 1 "moments_of" ["book"] [.bw] (.o .fl) cK
theorem uK(D:Df K mg "moments_of" g8)(T:Txt K mg): fK P w K mg base:=
 have z:=zH
 YO (mn:=[.no]) (UC Lib.o7.2) D z λf cdv A outer s H E hr=>
 (aK (b8 (DX (N':=["stretch", "moment"]) (n:=2) (cap:=[]) (mb:=[(.v .sh),.no]) (m2:=[(.v .sh),.no]) (λ_=>rfl) rfl (show LcOk ["book"] (aA g8) _ _ _ _ from qS (by rfl) (by rfl) (by decide+kernel)) rfl rfl gD T.b_sorted (dR (vr (.v .sh) z)) (λ_ _ _ _=>(gq 0)) (λ_ _ _ _=>dE) (λ_ _ _ _=>a1M (m1:=[(.v .sh),(.v .sh)]) (m2:=[(.v .sh),(.v .sh)]) rfl rfl rfl rfl (YZ (YY (T2 (bS (m:=(.v .sh)) qo rfl rfl)) (rB (aY aE)) (rB (aY aE)))) (gq 1) dE (YN rfl rfl bo))) rfl))
abbrev mU:Stmt:=top 14
abbrev C4:List Str:=["book", "some"]
theorem E7:SN C4 ["book", "some"] mU:=bM
abbrev hV:=l5 1 "worth_of" ["book", "some"] [.bw,.bw] (.v .fl) dW
theorem AN(D:Df K mg "worth_of" mU)(T:Txt K mg): hV P w K mg base:=
 have z:=E7
 BX (mn:=[.no,.no]) (BV Lib.tJ.2) D z λf cdv A outer s H E hr=>
 (aK (b8 (b6 (yH rfl) qZ gD T.b_sum xD (a7 (a03 (NO ["number", "book"] 1 [0] [(.v .sh),(.v .sh)] (dR (vr (.v .sh) z)) (λ_ _ _ _=>(gq 0)) (λ_ _ _ _=>dE) (λ_ _ _ _=>(aJ (T2 (aJ (T2 (bS (m:=(.v .sh)) (qk cD) rfl rfl)) bo (λ_ _=>rfl))) (aY aE) (λ_ _=>rfl))))) aC) xB x8) rfl))
abbrev jO:Stmt:=top 17
abbrev wR:List Str:=["rooms", "ahead", "back"]
theorem zG:SN wR ["rooms"] jO:=bM
abbrev iG:=l5 1 "free_roads" ["rooms"] [.bw] (.o .fl) dA
theorem uJ (D:Df K mg "free_roads" jO) (T:Txt K mg)  : iG P w K mg base:=
  have z:=zG
  YO (mn:=[.no,.no,.no]) (UC Lib.o6.2) D z λf cdv A outer s H E hr=>
  (aB (a18 1 z ["at"] 1 [] [(.v .fl)] (fJ gD T.b_range (aY (b6 eN fN gD T.b_len fQ (a7 (vb z) aC) gM gK))) (λ_ _ _ _=>(gq 0)) (λ_ _ _ _=>dE) (λ_ _ _ _=>(eR .fl (a7 (bS (m:=(.v .fl)) qo rfl rfl) (a7 (c7 bH mN bo (aY aE)) (a7 aE (a7 jR aC)))) rfl)))
 (aB (a18 2 z ["at", "room"] 2 [] [(.v .sh),(.v .sh)] (zB gD T.b_enumerate (vr (.v .sh) z)) (λ_ _ _ _=>(dY (n:=2) rfl (aI (gq 0) (aI (gq 1) cM)))) (λ_ _ _ _=>(lJ (d5 oY a1Y bo (aY aE) (cC _)))) (λ_ _ _ _=>(eR .sh (a7 (c7 bH mN bo (aY aE)) (a7 (bS (m:=(.v .sh)) qo rfl rfl) (a7 aE (a7 jR aC)))) rfl)))
 (aK (b8 (l0 (u0 (vp .sh z) (a3X (YV (vk .sh z) (aY (pF (aY aE))))))) rfl))))
abbrev dQ:Stmt:=top 18
abbrev qF:List Str:=["book", "places", "chosen", "place_of", "roads", "number", "name", "begin", "end", "worth"]
theorem qO:SN qF ["book", "places", "chosen"] dQ:=bM
abbrev eW:=l5 1 "stretch_roads" ["book", "places", "chosen"] [.bw,.bw,.bw] (.o .fl) bX
theorem oV (D:Df K mg "stretch_roads" dQ) (T:Txt K mg)  : eW P w K mg base:=
  have z:=qO
  YQ (mn:=[.no,.no,.no,.no,.no,.no,.no,.no,.no,.no]) (UD Lib.k7.2) D z λf cdv A outer s H E hr=>
  (aB (NP (i:=3) (N':=["at", "moment"]) (n:=2) (cap:=[]) (mb:=[(.v .sh),(.v .sh)]) z.s.nd rfl (ln z 3) rfl (.inl rfl) rfl (by decide) (λ_=>rfl) rfl (show LcOk ["book", "places", "chosen", "place_of", "roads", "number", "name", "begin", "end", "worth"] (aA dQ) _ _ _ _ from qS (by rfl) (by rfl) (by decide+kernel)) rfl rfl (zB gD T.b_enumerate (vr (.v .sh) z)) (λ_ _ _ _=>(dY (n:=2) rfl (aI (gq 0) (aI (gq 1) cM)))) (λ_ _ _ _=>dE) (λ_ _ _ _=>bo) (λ_ _ _ _=>(oI bo)))
 (aB (kY 4 z (dH .fl aC rfl))
 (aB (jS PassesOwn.never rfl rfl (zB gD T.b_enumerate (vr (.v .sh) z)) (dY (n:=2) rfl (aI (gn 5 z) (aI (dY (n:=4) rfl (aI (gn 6 z) (aI (gn 7 z) (aI (gn 8 z) (aI (gn 9 z) cM))))) cM)))
 (aB (l4 (d5 (F9 hr.units) N0 (vb z) (vb z) (by with_unfolding_all rfl))
 (aB (lH PySem.F.plainAttrs_list PySem.F.slot_list_append PySem.F.type_list_append fH d3 (qn z) rfl (a7 (oI (KZ (eR .sh (a7 (rA hr.units (vk .fl z) (vb z) (λ_ _=>rfl)) (a7 (rA hr.units (vk .fl z) (vb z) (λ_ _=>rfl)) (a7 (pF (vb z)) (a7 (vr (.v .sh) z) aC)))) rfl))) aC))
 aW)
 (aB (lH PySem.F.plainAttrs_list PySem.F.slot_list_append PySem.F.type_list_append fH d3 (qn z) rfl (a7 (oI (KZ (eR .sh (a7 (rA hr.units (vk .fl z) (vb z) (λ_ _=>rfl)) (a7 (rA hr.units (vk .fl z) (vb z) (λ_ _=>rfl)) (a7 (vr (.v .sh) z) (a7 (vr (.v .sh) z) aC)))) rfl))) aC))
 aW))
 (gU (m1:=[(.v .sh),(.v .sh),(.v .sh),(.o .fl),(.o .fl),.no,.no,.no,.no,.no]) rfl aW)))
 (aK (lI (qn z) rfl rfl)))))
abbrev cF:Stmt:=top 20
abbrev oN:List Str:=["roads", "many", "start", "gains", "last_roads", "better", "road", "before", "goal", "gain", "number"]
theorem pH:SN oN ["roads", "many", "start"] cF:=bM
abbrev eI:=l5 1 "greatest_gains" ["roads", "many", "start"] [.bw,.bw,.bw] (.v .sn) bP
theorem nP (D:Df K mg "greatest_gains" cF) (T:Txt K mg)  : eI P w K mg base:=
  have z:=pH
  YQ (mn:=[.no,.no,.no,.no,.no,.no,.no,.no,.no,.no,.no]) (UD Lib.iY.2) D z λf cdv A outer s H E hr=>
  (aB (FP (i:=3) (j:=4) (m1:=(.o .fl)) (m2:=(.o .fl)) rfl z.s.nd rfl rfl (by decide) (show (aA cF).names.lookup (Str.ofString "gains")=some NameKind.local by decide+kernel) (show (aA cF).names.lookup (Str.ofString "last_roads")=some NameKind.local by decide+kernel) (DW (Q5 (dH .fl (a7 jR aC) rfl)) (vb z)) (DW (Q5 (dH .fl (a7 jR aC) rfl)) (vb z)) rfl rfl rfl (by decide) rfl (by decide))
 (aB (Z0 (qn z) rfl aE (vb z))
 (aB (kY 5 z lY)
 (aB (u9 PassesOwn.never (mY (vb z))
 (aB (kY 5 z lY)
 (aB (jS PassesOwn.never rfl rfl (dR (vr (.v .sh) z)) (gn 6 z)
 (aB (pG (vr (.v .sh) z) (dY (n:=4) rfl (aI (gn 7 z) (aI (gn 8 z) (aI (gn 9 z) (aI (gn 10 z) cM))))))
 (aB (l4 (FR (NS (d5 tN tU (aY (aJ (vk .fl z) (vb z) (λ_ _=>rfl))) (aY jR) (cC _)) (FQ (FR (TU (d5 RL RT (aY (aJ (vk .fl z) (vb z) (λ_ _=>rfl))) (aY jR) (cC _)) (NT (d5 oY a1Y (aY (c7 bH mN (aY (aJ (vk .fl z) (vb z) (λ_ _=>rfl))) (vb z))) (aY (aJ (vk .fl z) (vb z) (λ_ _=>rfl))) (cC _))))))))
 (aB (SK rfl (qn z) rfl (qn z) rfl (oI (KZ (eR .sh (a7 (c7 bH mN (aY (aJ (vk .fl z) (vb z) (λ_ _=>rfl))) (vb z)) (a7 (vr (.v .sh) z) aC)) rfl))) (vb z) (vb z))
 (aB (kY 5 z lY)
 aW))
 aW)
 (gU (m1:=[(.v .sh),(.v .sh),(.v .sh),(.o .fl),(.o .fl),(.v .fl),.no,.no,.no,.no,.no]) rfl aW))))
 aW)))
 (aK (u7 3 .fl rfl (u7 4 .fl rfl (b8 (eR .sn (a7 (HG (vr (.z .fl) z)) (a7 (HG (vr (.z .fl) z)) aC)) rfl) rfl))))))))
abbrev fV:Stmt:=top 21
abbrev qE:List Str:=["last_roads", "goal", "numbers", "reached", "gain", "number"]
theorem qN:SN qE ["last_roads", "goal"] fV:=bM
abbrev eV:=l5 1 "numbers_along" ["last_roads", "goal"] [.bw,.bw] (.o .fl) bW
theorem oU (D:Df K mg "numbers_along" fV) (T:Txt K mg)  : eV P w K mg base:=
  have z:=qN
  BX (mn:=[.no,.no,.no,.no,.no,.no]) (BV Lib.k6.2) D z λf cdv A outer s H E hr=>
  (aB (kY 2 z (dH .fl aC rfl))
 (aB (u9 PassesOwn.never (d5 tN tU (KZ (aJ (vp .sh z) (vb z) (λ_ _=>rfl))) (aY jR) (cC _))
 (aB (pG (aJ (vp .sh z) (vb z) (λ_ _=>rfl)) (dY (n:=4) rfl (aI (gn 1 z) (aI (gn 3 z) (aI (gn 4 z) (aI (gn 5 z) cM))))))
 (aB (l4 (d5 tN tU (vb z) (aY jR) (cC _))
 (aB (lH PySem.F.plainAttrs_list PySem.F.slot_list_append PySem.F.type_list_append fH d3 (qn z) rfl (a7 (oI (vb z)) aC))
 aW)
 aW)
 (gU (m1:=[(.v .sh),(.v .sh),(.o .fl),.no,.no,.no]) rfl aW))))
 (aK (lI (qn z) rfl rfl))))
abbrev jN:Stmt:=top 22
abbrev wQ:List Str:=["chosen", "numbers"]
theorem zE:SN wQ ["chosen", "numbers"] jN:=bM
abbrev iF:=l5 1 "changed_by" ["chosen", "numbers"] [.bw,.bw] (.o .fl) d9
theorem uI(D:Df K mg "changed_by" jN)(T:Txt K mg): iF P w K mg base:=
 have z:=zE
 BX (mn:=[.no,.no]) (BV Lib.o5.2) D z λf cdv A outer s H E hr=>
 (aK (b8 (DY rfl gD T.b_sorted gD T.b_set (vb z) (vb z)) rfl))
abbrev kW:Stmt:=top 23
abbrev zM:List Str:=["gains", "spots", "rises"]
theorem BQ:SN zM ["gains", "spots"] kW:=bM
abbrev j8:=l5 1 "prices_by" ["gains", "spots"] [.bw,.bw] (.o .fl) e9
theorem y0 (D:Df K mg "prices_by" kW) (T:Txt K mg)  : j8 P w K mg base:=
  have z:=BQ
  BX (mn:=[.no,.no,.no]) (BV Lib.pY.2) D z λf cdv A outer s H E hr=>
  (aB (a18 2 z ["at", "gains"] 1 [0] [(.v .fl),(.v .sh)] (fJ gD T.b_range (aY (b6 eN fN gD T.b_len fQ (a7 (vb z) aC) gM gK))) (λ_ _ _ _=>(gq 0)) (λ_ _ _ _=>dE) (λ_ _ _ _=>(c7 iB DO (KZ (aJ (T2 (bS (m:=(.v .sh)) (qk cD) rfl rfl)) (aY (c7 bH mN bo (aY aE))) (λ_ _=>rfl))) (KZ (aJ (T2 (bS (m:=(.v .sh)) (qk cD) rfl rfl)) bo (λ_ _=>rfl))))))
 (aK (u7 2 .fl rfl (b8 (l0 (NO ["spot", "rise"] 2 [] [(.v .sh),(.v .sh)] (NN gD T.b_zip (vr (.v .sh) z) (a2O (HG (vr (.z .fl) z)))) (λ_ _ _ _=>(dY (n:=2) rfl (aI (gq 0) (aI (gq 1) cM)))) (λ_ _ _ _=>(lJ (d5 oY a1Y bo (aY aE) (cC _)))) (λ_ _ _ _=>(eR .sh (a7 (bS (m:=(.v .sh)) qo rfl rfl) (a7 (bS (m:=(.v .sh)) qo rfl rfl) aC)) rfl)))) rfl))))
abbrev kX:Stmt:=top 33
abbrev zN:List Str:=["paper"]
theorem BR:SN zN ["paper"] kX:=bM
abbrev j9:=l5 1 "prices_of" ["paper"] [.bw] (.v .fl) eC
theorem y8(D:Df K mg "prices_of" kX)(T:Txt K mg): j9 P w K mg base:=
 have z:=BR
 YO (mn:=[.no]) (UC Lib.pZ.2) D z λf cdv A outer s H E hr=>
 (aK (b8 (b6 (yH rfl) qZ gD T.b_sum xD (a7 (a03 (NO ["moment", "price"] 2 [] [(.v .sh),(.v .sh)] (dR (vr (.v .sh) z)) (λ_ _ _ _=>(dY (n:=2) rfl (aI (gq 0) (aI (gq 1) cM)))) (λ_ _ _ _=>dE) (λ_ _ _ _=>(bS (m:=(.v .sh)) qo rfl rfl)))) aC) xB x8) rfl))
abbrev cG:Stmt:=top 36
abbrev eX:List Str:=["_law_script", "_law_k", "_law_cell", "_law_number", "_law_seed"]
theorem gG:SN eX ["_law_script", "_law_k"] cG:=bM
theorem tR:FnScope eX ["_law_script", "_law_k"] (aA cG):=gG.s
theorem pO:NV eX "_law_begun" cG "_law_script" 0:=gG.n.nv rfl
theorem i3:NV eX "_law_begun" cG "_law_k" 1:=gG.n.nv rfl
theorem i4:NV eX "_law_begun" cG "_law_cell" 2:=gG.n.nv rfl
theorem fO:NV eX "_law_begun" cG "_law_number" 3:=gG.n.nv rfl
theorem pP:NV eX "_law_begun" cG "_law_seed" 4:=gG.n.nv rfl
theorem rV:GL cG "len":=by decide+kernel
theorem rW:GL cG "max":=by decide+kernel
theorem D2 (D:Df K mg "_law_begun" cG) (T:Txt K mg):Cal P w K mg base 1 "_law_begun" ["_law_script", "_law_k"] (FE K):=by
 refine D.ok tR (λ_ _ _ _ _ _ us hl=>WD hl (λ_ _=>rfl)) (λvs H Q E h=>?_) (λf cdv A outer s H vs Q E hr h=>?_)
 ·obtain⟨p,k,ns,rfl,_⟩:=h
  rfl
 ·obtain ⟨p,k,ns,rfl,hS,k0,k1,kk⟩:=h
  have sc:=tR
  refine ME (cP (kQ (i:=2) sc.nd rfl i4.lo aZ rfl (.inl rfl))
   (cP (MK (yL DJ i3.h (B6 RH rV T.b_len fQ (iA pO.h tK) gM gK) (cC _))
    (lG (kQ (i:=2) sc.nd rfl i4.lo (o8 RO pO.h i3.h (λ_ _=>rfl)) rfl (.inl rfl)))
    yK)
   (cP (kQ (i:=3) sc.nd rfl fO.lo (B6 (DH rfl) rW T.b_max xC (iA i4.h (iA (dF iB (a0U FA aZ) i4.h) tK)) xA wZ) rfl (.inl rfl))
   (cP (kQ (i:=4) sc.nd rfl pP.lo (dF o9 (dF bH (dF bH fO.h (dF jM (dF jM aZ i3.h) i3.h)) aZ) aZ) rfl (.inl rfl))
   (cP (MK (yL DJ fO.h (dF qW aZ aZ) (cC _))
    (lG (kQ (i:=3) sc.nd rfl fO.lo aZ rfl (.inl rfl)))
    yK)
   (lG (DL (XM (iA fO.h (iA pP.h (iA aZ tK))))))))))) ?_
  refine FG (σ:=[some _,some _,none,none,none]) rfl ?_
  walk_at "st"
  have nn:∀cell:Int,0<=(if -1-cell>cell then -1-cell else cell):=by
   intro cell;split<;>omega
  refine FC hS ?_
  walk_at "st"
  refine Q3 (λh1=>?_) (λh1=>?_)
  ·have h2:k<((ns.map V.int).length:Int):=of_decide_eq_true h1
   rw[a0f] at h2
   have h3:k.toNat<ns.length:=by omega
   have e:iU (ns.map V.int) k=some (.int ns[k.toNat]):=c9 k0 (by rw[List.getElem?_map,a0a h3];rfl)
   walk_at "st"
   refine XY hS e ?_
   walk_at "st"
   have h4:=nn ns[k.toNat]
   refine Q3 (λh2=>?_) (λh2=>?_)
   all_goals (walk_at "st";intro q hq;exact kk q _ _ _ hq ⟨by first|omega|exact h4,Int.emod_nonneg _ (by omega),Int.emod_lt_of_pos _ (by omega)⟩)
  ·walk_at "st"
   have h4:=nn 0
   refine Q3 (λh2=>?_) (λh2=>?_)
   all_goals (walk_at "st";intro q hq;exact kk q _ _ _ hq ⟨by first|omega|exact h4,Int.emod_nonneg _ (by omega),Int.emod_lt_of_pos _ (by omega)⟩)
abbrev rD:=l5 1 "_law_begun" ["_law_script", "_law_k"] [.scr,.bw] .st vF
abbrev cZ:Stmt:=top 37
abbrev gJ:List Str:=["_law_state", "_law_many", "_law_found", "_law_made", "_law_turn"]
theorem j3:SN gJ ["_law_state", "_law_many"] cZ:=bM
theorem wK:FnScope gJ ["_law_state", "_law_many"] (aA cZ):=j3.s
theorem bQ:NV gJ "_law_take" cZ "_law_state" 0:=j3.n.nv rfl
theorem jG:NV gJ "_law_take" cZ "_law_many" 1:=j3.n.nv rfl
theorem sE:NV gJ "_law_take" cZ "_law_found" 2:=j3.n.nv rfl
theorem jH:NV gJ "_law_take" cZ "_law_made" 3:=j3.n.nv rfl
theorem CZ:NV gJ "_law_take" cZ "_law_turn" 4:=j3.n.nv rfl
theorem qK:GL cZ "range":=by decide+kernel
theorem uE:GL cZ "int":=by decide+kernel
def TZ(H:Hp)(p:Ac)(m a:Int)(_:Nat)(σ:St)(H1:Hp):Prop:=∃(b c made:Int) (tv:Option V),σ=[some (.ref p),some (.int m),none,some (.int made),tv]/\H1=b7 H p (O0 a b c)/\StOk a b c
theorem HU (D:Df K mg "_law_take" cZ) (T:Txt K mg):Cal P w K mg base 1 "_law_take" ["_law_state", "_law_many"] N3:=by
 refine D.ok wK (λ_ _ _ _ _ _ us hl=>WD hl (λ_ _=>rfl)) (λvs H Q E h=>?_) (λf cdv A outer s H vs Q E hr h=>?_)
 ·obtain⟨p,m,a,b,c,rfl,_⟩:=h
  rfl
 ·obtain ⟨p,m,a,b,c,rfl,hp,ok,m0,m1,k⟩:=h
  have sc:=wK
  refine ME (cP (MK (yL oY (o8 kR bQ.h aZ (λ_ _=>rfl)) aZ (cC _))
    (cP (kQ (i:=2) sc.nd rfl sE.lo (dF o9 (o8 kR bQ.h aZ (λ_ _=>rfl)) jG.h) rfl (.inl rfl))
    (cP (DK (dF wG (o8 kR bQ.h aZ (λ_ _=>rfl)) jG.h) (DI bQ.h aZ oZ))
    (lG (DL sE.h))))
    yK)
   (cP (kQ (i:=3) sc.nd rfl jH.lo aZ rfl (.inl rfl))
   (cP (XS PassesOwn.never rfl (HY qK T.b_range (iA (dF bH aZ (HX XI uE T.b_int JI (iA (RI oY jG.h (dF qW aZ aZ) (cC _)) tK) JE J9)) tK)) (F8 (i:=4) sc.nd rfl CZ.lo (.inl rfl))
    (cP (DK (dF bH (o8 kR bQ.h aZ (λ_ _=>rfl)) aZ) (DI bQ.h aZ oZ))
    (cP (DK (dF o9 (dF bH (dF jM (o8 kR bQ.h aZ (λ_ _=>rfl)) aZ) (dF jM aZ (o8 kR bQ.h aZ (λ_ _=>rfl)))) aZ) (DI bQ.h aZ oZ))
    (lG (kQ (i:=3) sc.nd rfl jH.lo (dF bH (dF jM jH.h aZ) (dF o9 (dF jM (o8 kR bQ.h aZ (λ_ _=>rfl)) (o8 kR bQ.h aZ (λ_ _=>rfl))) aZ)) rfl (.inl rfl))))))
   (lG (DL (dF o9 (dF wG jH.h aZ) jG.h)))))) ?_
  refine FG (σ:=[some _,some _,none,none,none]) rfl ?_
  walk_at "st"
  refine Q3 (λh1=>?_) (λh1=>?_)
  ·have h2:=of_decide_eq_true h1
   walk_at "st"
   exact k _ _ _ _ (Int.emod_nonneg _ (by omega)) (Int.emod_lt_of_pos _ m0) ⟨Int.ediv_nonneg ok.a0 (by omega),ok.b0,ok.b1⟩
  ·walk_at "st"
   generalize hn:(1+if decide ((1000000:Int)<m)=true then (1:Int) else 0)=n
   have hn0:1<=n/\n<=2:=by subst hn;split<;>omega
   refine⟨by omega,by omega,GW (TZ H p m a) ⟨b,c,0,none,rfl,(NG hp).symm,ok⟩ ?_ ?_⟩
   ·rintro i σ H1 hi ⟨b',c',made,tv,rfl,rfl,ok'⟩
    have h3:0<=(b'*48271+11*(c'+1)) % 2147483647:=Int.emod_nonneg _ (by decide)
    have h4:(b'*48271+11*(c'+1)) % 2147483647<2147483647:=Int.emod_lt_of_pos _ (by decide)
    walk_at "st"
    exact⟨_,_,_,_,rfl,by rw[FN,FN],⟨ok'.a0,h3,h4⟩⟩
   ·rintro σ H1 ⟨b',c',made,tv,rfl,rfl,ok'⟩
    walk_at "st"
    exact k _ _ _ _ (Int.emod_nonneg _ (by omega)) (Int.emod_lt_of_pos _ m0) ok'
abbrev iT:=l5 1 "_law_take" ["_law_state", "_law_many"] [.st,.bw] (.v .fl) cN
abbrev eQ:Stmt:=top 2
abbrev n4:List Str:=["thing", "least", "greatest"]
theorem oJ:SN n4 ["thing", "least", "greatest"] eQ:=bM
abbrev dS:=l5 2 "is_whole_within" ["thing", "least", "greatest"] [.bw,.bw,.bw] (.v .fl) bI
theorem mH(D:Df K mg "is_whole_within" eQ)(T:Txt K mg)(C_is_whole:kB P w K mg base):dS P w K mg base:=
 have z:=oJ
 YQ (mn:=[.no,.no,.no]) (UD Lib.i9.2) D z λf cdv A outer s H E hr=>
 (aK (b8 (DV (aY (fW hr C_is_whole (a7 (vb z) aC) gD)) (z8 (BN tM tM a16 a16 (vb z) (vb z) (vb z)))) rfl))
abbrev p7:Stmt:=top 7
abbrev FZ:List Str:=["book", "some", "moment"]
theorem IN:SN FZ ["book", "some", "moment"] p7:=bM
abbrev j6:=l5 2 "load_at" ["book", "some", "moment"] [.bw,.bw,.bw] (.v .fl) f7
theorem D4(D:Df K mg "load_at" p7)(T:Txt K mg)(C_is_over:gI P w K mg base):j6 P w K mg base:=
 have z:=IN
 YQ (mn:=[.no,.no,.no]) (UD Lib.wA.2) D z λf cdv A outer s H E hr=>
 (aK (b8 (b6 eN fN gD T.b_len fQ (a7 (a03 (NO ["number", "moment", "book"] 1 [2,0] [(.v .sh),(.v .sh),(.v .sh)] (dR (vr (.v .sh) z)) (λ_ _ _ _=>(gq 0)) (λ_ _ _ _=>(lJ (mY (aY (fW hr C_is_over (a7 (KZ (aJ (T2 (bS (m:=(.v .sh)) (qk cD) rfl rfl)) bo (λ_ _=>rfl))) (a7 (bk cD) aC)) gL))))) (λ_ _ _ _=>(bS (m:=(.v .sh)) qo rfl rfl)))) aC) gM gK) rfl))
abbrev kU:Stmt:=top 16
abbrev zL:List Str:=["book"]
theorem BP:SN zL ["book"] kU:=bM
abbrev j7:=l5 2 "places_of" ["book"] [.bw] (.o .fl) e8
theorem xZ(D:Df K mg "places_of" kU)(T:Txt K mg)(C_moments_of:fK P w K mg base):j7 P w K mg base:=
 have z:=BP
 YO (mn:=[.no]) (UC Lib.pX.2) D z λf cdv A outer s H E hr=>
 (aK (b8 (YU (fW hr C_moments_of (a7 (vb z) aC) gD) (z8 (dH .fl (a7 aE aC) rfl))) rfl))
abbrev pA:Stmt:=top 30
abbrev G3:List Str:=["stretch", "paper"]
theorem IR:SN G3 ["stretch", "paper"] pA:=bM
abbrev m7:=l5 2 "toll_of" ["stretch", "paper"] [.bw,.bw] (.v .fl) gC
theorem D7(D:Df K mg "toll_of" pA)(T:Txt K mg)(C_is_over:gI P w K mg base):m7 P w K mg base:=
 have z:=IR
 BX (mn:=[.no,.no]) (BV Lib.wD.2) D z λf cdv A outer s H E hr=>
 (aK (b8 (b6 (yH rfl) qZ gD T.b_sum xD (a7 (a03 (NO ["moment", "price", "stretch"] 2 [0] [(.v .sh),(.v .sh),(.v .sh)] (dR (vr (.v .sh) z)) (λ_ _ _ _=>(dY (n:=2) rfl (aI (gq 0) (aI (gq 1) cM)))) (λ_ _ _ _=>(lJ (mY (aY (fW hr C_is_over (a7 (bk cD) (a7 bo aC)) gL))))) (λ_ _ _ _=>(bS (m:=(.v .sh)) qo rfl rfl)))) aC) xB x8) rfl))
abbrev tQ:Stmt:=top 38
abbrev J5:List Str:=["_law_state", "_law_k", "_law_letters", "_law_spelt", "_law_j"]
theorem NW:SN J5 ["_law_state", "_law_k"] tQ:=bM
abbrev oM:=l5 2 "_law_name" ["_law_state", "_law_k"] [.st,.bw] (.v .fl) iV
theorem HR (D:Df K mg "_law_name" tQ) (T:Txt K mg) (C_l_take:iT P w K mg base):oM P w K mg base:=
  have z:=NW
  BX (mn:=[.no,.no,.no,.no,.no]) (BV Lib.B5.2) D z λf cdv A outer s H E hr=>
  (aB (kY 2 z zA)
 (aB (kY 3 z zA)
 (aB (jS PassesOwn.never rfl rfl (fJ gD T.b_range (aY (fW hr C_l_take (a7 (vr .st z) (a7 (aY aE) aC)) gD))) (gn 4 z)
 (aB (kY 3 z (c7 tL tS (vb z) (aY (aJ (vp .fl z) (aY (fW hr C_l_take (a7 (vr .st z) (a7 (aY aE) aC)) gD)) (λ_ _=>rfl)))))
 (gU (m1:=[.st,(.v .sh),(.v .fl),(.v .fl),.no]) rfl aW)))
 (aK (b8 (c7 tL tS (vb z) (aY (aJ (vp .fl z) (vb z) (λ_ _=>rfl)))) rfl)))))
abbrev tP:Stmt:=top 41
abbrev J4:List Str:=["_law_state", "_law_one", "_law_other", "_law_left", "_law_found", "_law_at"]
theorem NU:SN J4 ["_law_state", "_law_one", "_law_other"] tP:=bM
abbrev oK:=l5 2 "_law_both" ["_law_state", "_law_one", "_law_other"] [.st,.bw,.bw] (.o .fl) nE
theorem HQ (D:Df K mg "_law_both" tP) (T:Txt K mg) (C_l_take:iT P w K mg base):oK P w K mg base:=
  have z:=NU
  YQ (mn:=[.no,.no,.no,.no,.no,.no]) (UD B4.2) D z λf cdv A outer s H E hr=>
  (aB (kY 3 z (SI (a7 (l0 (wM wF tT gD T.b_list qP (a7 (vp .sh z) aC) x9 wY)) (a7 (l0 (wM wF tT gD T.b_list qP (a7 (vp .sh z) aC) x9 wY)) aC)) rfl))
 (aB (kY 4 z (dH .fl aC rfl))
 (aB (u9 PassesOwn.never (d5 (RM hr.units) Y8 (Q6 (u0 (TR (u5 (.inr rfl) (vr .n z) (aY aE) (λ_ _=>rfl))) (TR (u5 (.inr rfl) (vr .n z) (aY aE) (λ_ _=>rfl))))) (Q6 (dH .fl aC rfl)) (cC _))
 (aB (kY 5 z (fW hr C_l_take (a7 (vr .st z) (a7 (aY aE) aC)) gD))
 (aB (l4 (d5 (RK hr.units) Y7 (a2Q (u5 (.inr rfl) (vr .n z) (vb z) (λ_ _=>rfl))) (Q6 (dH .fl aC rfl)) (cC _))
 (aB (kY 5 z (c7 iB DO (aY aE) (vb z)))
 aW)
 aW)
 (aB (IH rfl (qn z) rfl (qn z) rfl (vb z) (aY aE) (λ_ _=>rfl))
 (gU (m1:=[.st,(.v .sh),(.v .sh),.n,(.o .fl),.no]) rfl aW)))))
 (aK (lI (qn z) rfl rfl)))))
abbrev mR:Stmt:=top 8
abbrev C1:List Str:=["book", "some", "steps", "before", "moment", "load"]
theorem E4:SN C1 ["book", "some"] mR:=bM
abbrev kC:=l5 3 "loads_of" ["book", "some"] [.bw,.bw] (.o .fl) f9
theorem AK (D:Df K mg "loads_of" mR) (T:Txt K mg) (C_moments_of:fK P w K mg base) (C_load_at:j6 P w K mg base):kC P w K mg base:=
  have z:=E4
  BX (mn:=[.no,.no,.no,.no,.no,.no]) (BV Lib.tG.2) D z λf cdv A outer s H E hr=>
  (aB (kY 2 z (dH .fl aC rfl))
 (aB (kY 3 z aE)
 (aB (jS PassesOwn.never rfl rfl (u6 (z7 (fW hr C_moments_of (a7 (a03 (NO ["number", "book"] 1 [0] [(.v .sh),(.v .sh)] (dR (vr (.v .sh) z)) (λ_ _ _ _=>(gq 0)) (λ_ _ _ _=>dE) (λ_ _ _ _=>(aJ (T2 (bS (m:=(.v .sh)) (qk cD) rfl rfl)) bo (λ_ _=>rfl))))) aC) gD))) (gn 4 z)
 (aB (kY 5 z (fW hr C_load_at (a7 (vb z) (a7 (vb z) (a7 (vb z) aC))) gD))
 (aB (l4 (d5 yJ qY (vb z) (vb z) (cC _))
 (aB (lH PySem.F.plainAttrs_list PySem.F.slot_list_append PySem.F.type_list_append fH d3 (qn z) rfl (a7 (eR .fl (a7 (vr (.v .fl) z) (a7 (vr (.v .fl) z) aC)) rfl) aC))
 aW)
 aW)
 (aB (kY 3 z (vr (.v .fl) z))
 (gU (m1:=[(.v .sh),(.v .sh),(.o .fl),(.v .fl),.no,.no]) rfl aW)))))
 (aK (lI (qn z) rfl rfl)))))
abbrev iR:Stmt:=top 11
abbrev uB:List Str:=["thing", "many", "least", "number"]
theorem uU:SN uB ["thing", "many"] iR:=bM
abbrev gH:=l5 3 "are_numbers" ["thing", "many"] [.bw,.bw] (.v .fl) cQ
theorem sF (D:Df K mg "are_numbers" iR) (T:Txt K mg) (C_is_whole_within:dS P w K mg base):gH P w K mg base:=
  have z:=uU
  BX (mn:=[.no,.no,.no,.no]) (BV Lib.lW.2) D z λf cdv A outer s H E hr=>
  (aB (l4 (DZ (mY (aY (b6 DG yR gD T.b_isinstance iL (a7 (vb z) (a7 (aY (jQ (yI (v:=.ty "list") gD T.b_list qP rfl x9 wY) (λ_=>.ty _))) aC)) iK iJ))))
 (aK (b8 lY rfl))
 aW)
 (aB (kY 2 z aE)
 (aB (jS PassesOwn.never rfl rfl (dR (vr (.v .sh) z)) (gn 3 z)
 (aB (l4 (DZ (mY (aY (fW hr C_is_whole_within (a7 (vb z) (a7 (vb z) (a7 (aY (c7 iB DO (vb z) (aY aE))) aC))) gD))))
 (aK (b8 lY rfl))
 aW)
 (aB (kY 2 z (c7 bH mN (vb z) (aY aE)))
 (gU (m1:=[(.v .sh),(.v .sh),(.v .fl),.no]) rfl aW))))
 (aK (b8 lY rfl)))))
abbrev mT:Stmt:=top 19
abbrev C3:List Str:=["book", "places", "limits", "chosen", "rooms"]
theorem E6:SN C3 ["book", "places", "limits", "chosen"] mT:=bM
abbrev kE:=l5 3 "roads_of" ["book", "places", "limits", "chosen"] [.bw,.bw,.bw,.bw] (.o .fl) fB
theorem AM (D:Df K mg "roads_of" mT) (T:Txt K mg) (C_free_roads:iG P w K mg base) (C_stretch_roads:eW P w K mg base) (C_load_at:j6 P w K mg base):kE P w K mg base:=
  have z:=E6
  a3U (mn:=[.no,.no,.no,.no,.no]) (a3L Lib.tI.2) D z λf cdv A outer s H E hr=>
  (aB (a18 4 z ["limit", "place", "book", "chosen"] 2 [0,3] [(.v .sh),(.v .sh),(.v .sh),(.v .sh)] (NN gD T.b_zip (vr (.v .sh) z) (vr (.v .sh) z)) (λ_ _ _ _=>(dY (n:=2) rfl (aI (gq 0) (aI (gq 1) cM)))) (λ_ _ _ _=>dE) (λ_ _ _ _=>(c7 iB DO bo (aY (fW hr C_load_at (a7 (bk cD) (a7 (bk cD) (a7 bo aC))) gL)))))
 (aK (b8 (u0 (Q5 (fW hr C_free_roads (a7 (vb z) aC) gD)) (Q5 (fW hr C_stretch_roads (a7 (vb z) (a7 (vb z) (a7 (vb z) aC))) gD))) rfl)))
abbrev p9:Stmt:=top 31
abbrev G2:List Str:=["stretch", "paper"]
theorem IQ:SN G2 ["stretch", "paper"] p9:=bM
abbrev m6:=l5 3 "rest_of" ["stretch", "paper"] [.bw,.bw] (.v .fl) gB
theorem D6(D:Df K mg "rest_of" p9)(T:Txt K mg)(C_toll_of:m7 P w K mg base):m6 P w K mg base:=
 have z:=IQ
 BX (mn:=[.no,.no]) (BV Lib.wC.2) D z λf cdv A outer s H E hr=>
 (aK (b8 (b6 (DH rfl) BE gD T.b_max xC (a7 (aY aE) (a7 (aY (c7 iB DO (KZ (aJ (vp .sh z) (aY aE) (λ_ _=>rfl))) (aY (fW hr C_toll_of (a7 (vb z) (a7 (vb z) aC)) gD)))) aC)) xA wZ) rfl))
abbrev p6:Stmt:=top 40
abbrev FY:List Str:=["_law_state", "_law_most", "_law_far", "_law_ends", "_law_book_here", "_law_k", "_law_begin", "_law_end", "_law_worth"]
theorem IM:SN FY ["_law_state", "_law_most", "_law_far", "_law_ends"] p6:=bM
abbrev m4:=l5 3 "_law_small" ["_law_state", "_law_most", "_law_far", "_law_ends"] [.st,.bw,.bw,.bw] (.o .fl) iW
theorem D3 (D:Df K mg "_law_small" p6) (T:Txt K mg) (C_l_take:iT P w K mg base) (C_l_name:oM P w K mg base):m4 P w K mg base:=
  have z:=IM
  a3U (mn:=[.no,.no,.no,.no,.no,.no,.no,.no,.no]) (a3L w9.2) D z λf cdv A outer s H E hr=>
  (aB (kY 4 z (dH .fl aC rfl))
 (aB (jS PassesOwn.never rfl rfl (fJ gD T.b_range (aY (fW hr C_l_take (a7 (vr .st z) (a7 (aY (c7 bH mN (vb z) (aY aE))) aC)) gD))) (gn 5 z)
 (aB (kY 6 z (c7 bH mN (vb z) (aY (fW hr C_l_take (a7 (vr .st z) (a7 (aY aE) aC)) gD))))
 (aB (kY 7 z (c7 bH mN (aY (c7 bH mN (vb z) (aY aE))) (aY (fW hr C_l_take (a7 (vr .st z) (a7 (aY aE) aC)) gD))))
 (aB (kY 8 z (fW hr C_l_take (a7 (vr .st z) (a7 (aY (aJ (Q5 (dH .fl (a7 aE (a7 aE (a7 (c7 bH mN (aY (c7 qW a17 (aY aE) (aY aE))) (aY aE)) aC))) rfl)) (aY (fW hr C_l_take (a7 (vr .st z) (a7 (aY aE) aC)) gD)) (λ_ _=>rfl))) aC)) gD))
 (aB (lH PySem.F.plainAttrs_list PySem.F.slot_list_append PySem.F.type_list_append fH d3 (qn z) rfl (a7 (eR .fl (a7 (c7 tL tS (aY (YX (aY (fW hr C_l_name (a7 (vr .st z) (a7 (vb z) aC)) gD)) (rB (aY (pF (aY aE)))) FO)) (vb z)) (a7 (vr (.v .fl) z) (a7 (vr (.v .fl) z) (a7 (vr (.v .fl) z) aC)))) rfl) aC))
 (gU (m1:=[.st,(.v .sh),(.v .sh),(.v .sh),(.o .fl),.no,.no,.no,.no]) rfl aW))))))
 (aK (lI (qn z) rfl rfl))))
abbrev mP:Stmt:=top 9
abbrev BZ:List Str:=["book", "some", "greatest", "first", "moment", "load"]
theorem E2:SN BZ ["book", "some"] mP:=bM
abbrev gZ:=l5 4 "crowd_of" ["book", "some"] [.bw,.bw] (.v .sn) dU
theorem AI (D:Df K mg "crowd_of" mP) (T:Txt K mg) (C_loads_of:kC P w K mg base) (C_is_over:gI P w K mg base):gZ P w K mg base:=
  have z:=E2
  BX (mn:=[.no,.no,.no,.no,.no,.no]) (BV Lib.tE.2) D z λf cdv A outer s H E hr=>
  (aB (pG (eR .fl (a7 aE (a7 jR aC)) rfl) (dY (n:=2) rfl (aI (gn 2 z) (aI (gn 3 z) cM))))
 (aB (jS PassesOwn.never rfl rfl (u6 (z7 (fW hr C_loads_of (a7 (vb z) (a7 (vb z) aC)) gD))) (dY (n:=2) rfl (aI (gn 4 z) (aI (gn 5 z) cM)))
 (aB (l4 (d5 oY a1Y (vb z) (vb z) (cC _))
 (aB (pG (eR .fl (a7 (vr (.v .fl) z) (a7 (vr (.v .fl) z) aC)) rfl) (dY (n:=2) rfl (aI (gn 2 z) (aI (gn 3 z) cM))))
 aW)
 aW)
 (gU (m1:=[(.v .sh),(.v .sh),(.v .fl),(.v .fl),.no,.no]) rfl aW)))
 (aK (b8 (eR .sn (a7 (vr (.v .fl) z) (a7 (vr (.v .fl) z) (a7 (HG (z7 (l0 (NO ["number", "first", "book"] 1 [3,0] [(.v .sh),(.v .fl),(.v .sh)] (dR (vr (.v .sh) z)) (λ_ _ _ _=>(gq 0)) (λ_ _ _ _=>(lJ (mY (aY (fW hr C_is_over (a7 (KZ (aJ (T2 (bS (m:=(.v .sh)) (qk cD) rfl rfl)) bo (λ_ _=>rfl))) (a7 (bk cD) aC)) gL))))) (λ_ _ _ _=>(bS (m:=(.v .sh)) qo rfl rfl)))))) aC))) rfl) rfl))))
abbrev p5:Stmt:=top 12
abbrev FX:List Str:=["book", "thing"]
theorem IL:SN FX ["book", "thing"] p5:=bM
abbrev m3:=l5 4 "is_some" ["book", "thing"] [.bw,.bw] (.v .fl) gA
theorem D1(D:Df K mg "is_some" p5)(T:Txt K mg)(C_are_numbers:gH P w K mg base):m3 P w K mg base:=
 have z:=IL
 BX (mn:=[.no,.no]) (BV Lib.w8.2) D z λf cdv A outer s H E hr=>
 (aK (b8 (fW hr C_are_numbers (a7 (vb z) (a7 (aY (b6 eN fN gD T.b_len fQ (a7 (vb z) aC) gM gK)) aC)) gD) rfl))
abbrev eP:Stmt:=top 25
abbrev wO:List Str:=["book", "benches", "places", "chosen", "told", "many", "roads", "gains", "last_roads"]
theorem zD:SN wO ["book", "benches"] eP:=bM
abbrev iE:=l5 4 "best_up_to" ["book", "benches"] [.bw,.bw] (.o .sn) d8
theorem uH (D:Df K mg "best_up_to" eP) (T:Txt K mg) (C_places_of:j7 P w K mg base) (C_roads_of:kE P w K mg base) (C_greatest_gains:eI P w K mg base) (C_changed_by:iF P w K mg base) (C_numbers_along:eV P w K mg base) (C_prices_by:j8 P w K mg base):iE P w K mg base:=
  have z:=zD
  BX (mn:=[.no,.no,.no,.no,.no,.no,.no,.no,.no]) (BV Lib.o4.2) D z λf cdv A outer s H E hr=>
  (aB (kY 2 z (fW hr C_places_of (a7 (vb z) aC) gD))
 (aB (FP (i:=3) (j:=4) (m1:=(.o .fl)) (m2:=(.o .fl)) rfl z.s.nd rfl rfl (by decide) (show (aA eP).names.lookup (Str.ofString "chosen")=some NameKind.local by decide+kernel) (show (aA eP).names.lookup (Str.ofString "told")=some NameKind.local by decide+kernel) (dH .fl aC rfl) (dH .fl aC rfl) rfl rfl rfl (by decide) rfl (by decide))
 (aB (a1Q (m1:=[(.v .sh),(.v .sh),(.o .fl),(.o .fl),(.o .sn),.no,.no,.no,.no]) rfl (jS PassesOwn.never rfl rfl (fJ gD T.b_range (aY (c7 bH mN (vb z) (aY aE)))) (gn 5 z)
 (aB (kY 6 z (fW hr C_roads_of (a7 (vb z) (a7 (vb z) (a7 (Q6 (DW (Q5 (dH .fl (a7 (vr (.v .fl) z) aC) rfl)) (aY (c7 iB DO (aY (b6 eN fN gD T.b_len fQ (a7 (vb z) aC) gM gK)) (aY aE))))) (a7 (vb z) aC)))) gD))
 (aB (pG (fW hr C_greatest_gains (a7 (vb z) (a7 (aY (b6 eN fN gD T.b_len fQ (a7 (vb z) aC) gM gK)) (a7 (aY aE) aC))) gD) (dY (n:=2) rfl (aI (gn 7 z) (aI (gn 8 z) cM))))
 (aB (u7 3 .fl rfl (lH PySem.F.plainAttrs_list PySem.F.slot_list_append PySem.F.type_list_append fH d3 (qn z) rfl (a7 (eR .sn (a7 (HG (vr (.z .fl) z)) (a7 (HG (z7 (fW hr C_prices_by (a7 (vb z) (a7 (Q6 (YW (vk .fl z) FO (rB (aY (pF (aY aE)))))) aC)) gD))) aC)) rfl) aC)))
 (aB (kY 3 z (fW hr C_changed_by (a7 (vb z) (a7 (Q6 (fW hr C_numbers_along (a7 (vb z) (a7 (aY (c7 iB DO (aY (b6 eN fN gD T.b_len fQ (a7 (vb z) aC) gM gK)) (aY aE))) aC)) gD)) aC)) gD))
 (gU (m1:=[(.v .sh),(.v .sh),(.o .fl),(.o .fl),(.o .sn),.no,.no,.no,.no]) rfl aW)))))))
 (aK (lI (qn z) rfl rfl)))))
abbrev mS:Stmt:=top 32
abbrev C2:List Str:=["book", "paper"]
theorem E5:SN C2 ["book", "paper"] mS:=bM
abbrev kD:=l5 4 "rests_of" ["book", "paper"] [.bw,.bw] (.v .fl) fA
theorem AL(D:Df K mg "rests_of" mS)(T:Txt K mg)(C_rest_of:m6 P w K mg base):kD P w K mg base:=
 have z:=E5
 BX (mn:=[.no,.no]) (BV Lib.tH.2) D z λf cdv A outer s H E hr=>
 (aK (b8 (b6 (yH rfl) qZ gD T.b_sum xD (a7 (Q6 (NO ["stretch", "paper"] 1 [1] [(.v .sh),(.v .sh)] (dR (vr (.v .sh) z)) (λ_ _ _ _=>(gq 0)) (λ_ _ _ _=>dE) (λ_ _ _ _=>(fW hr C_rest_of (a7 bo (a7 (bk cD) aC)) gL)))) aC) xB x8) rfl))
abbrev kT:Stmt:=top 13
abbrev zK:List Str:=["book", "benches", "thing"]
theorem BO:SN zK ["book", "benches", "thing"] kT:=bM
abbrev j5:=l5 5 "is_choice" ["book", "benches", "thing"] [.bw,.bw,.bw] (.v .fl) dZ
theorem xY(D:Df K mg "is_choice" kT)(T:Txt K mg)(C_is_some:m3 P w K mg base)(C_crowd_of:gZ P w K mg base):j5 P w K mg base:=
 have z:=BO
 YQ (mn:=[.no,.no,.no]) (UD Lib.pW.2) D z λf cdv A outer s H E hr=>
 (aK (b8 (DV (aY (fW hr C_is_some (a7 (vb z) (a7 (vb z) aC)) gD)) (z8 (YS tM a16 (KY (aJ (sA (fW hr C_crowd_of (a7 (vb z) (a7 (vb z) aC)) gD)) (aY aE) (λ_ _=>rfl))) (vb z) (cC _)))) rfl))
abbrev fU:Stmt:=top 26
abbrev qD:List Str:=["book"]
theorem qM:SN qD ["book"] fU:=bM
abbrev eU:=l5 5 "greatest_load" ["book"] [.bw] (.v .sn) bV
theorem oT(D:Df K mg "greatest_load" fU)(T:Txt K mg)(C_crowd_of:gZ P w K mg base):eU P w K mg base:=
 have z:=qM
 YO (mn:=[.no]) (UC Lib.k3.2) D z λf cdv A outer s H E hr=>
 (aK (b8 (aJ (sA (fW hr C_crowd_of (a7 (vb z) (a7 (Q6 (NL rfl gD T.b_list gD T.b_range (aY (b6 eN fN gD T.b_len fQ (a7 (vb z) aC) gM gK)))) aC)) gD)) (aY aE) (λ_ _=>rfl)) rfl))
abbrev yO:Stmt:=top 34
abbrev O3:List Str:=["book", "benches", "paper"]
theorem SM:SN O3 ["book", "benches", "paper"] yO:=bM
abbrev rC:=l5 5 "claim" ["book", "benches", "paper"] [.bw,.bw,.bw] (.v .fl) l7
theorem LJ(D:Df K mg "claim" yO)(T:Txt K mg)(C_rests_of:kD P w K mg base)(C_prices_of:j9 P w K mg base):rC P w K mg base:=
 have z:=SM
 YQ (mn:=[.no,.no,.no]) (UD Lib.F7.2) D z λf cdv A outer s H E hr=>
 (aK (b8 (c7 bH mN (aY (c7 jM a34 (aY (fW hr C_prices_of (a7 (vb z) aC) gD)) (vb z))) (aY (fW hr C_rests_of (a7 (vb z) (a7 (vb z) aC)) gD))) rfl))
abbrev mO:Stmt:=top 27
abbrev BY:List Str:=["book", "benches"]
theorem E1:SN BY ["book", "benches"] mO:=bM
abbrev kA:=l5 6 "best_for" ["book", "benches"] [.bw,.bw] (.v .sn) eZ
theorem AH(D:Df K mg "best_for" mO)(T:Txt K mg)(C_best_up_to:iE P w K mg base)(C_greatest_load:eU P w K mg base):kA P w K mg base:=
 have z:=E1
 BX (mn:=[.no,.no]) (BV Lib.tD.2) D z λf cdv A outer s H E hr=>
 (aK (b8 (aJ (a3Y (fW hr C_best_up_to (a7 (vb z) (a7 (aY (b6 (MH rfl) BF gD T.b_min JJ (a7 (vb z) (a7 (KY (fW hr C_greatest_load (a7 (vb z) aC) gD)) aC)) JF JA)) aC)) gD)) (aY (pF (aY aE))) (λ_ _=>rfl)) rfl))
abbrev p8:Stmt:=top 28
abbrev G1:List Str:=["book", "benches", "choice", "paper"]
theorem IP:SN G1 ["book", "benches"] p8:=bM
abbrev m5:=l5 7 "most_of" ["book", "benches"] [.bw,.bw] (.v .sn) e7
theorem D5 (D:Df K mg "most_of" p8) (T:Txt K mg) (C_best_for:kA P w K mg base) (C_worth_of:hV P w K mg base):m5 P w K mg base:=
  have z:=IP
  BX (mn:=[.no,.no,.no,.no]) (BV Lib.wB.2) D z λf cdv A outer s H E hr=>
  (aB (pG (fW hr C_best_for (a7 (vb z) (a7 (vb z) aC)) gD) (dY (n:=2) rfl (aI (gn 2 z) (aI (gn 3 z) cM))))
 (aK (b8 (eR .sn (a7 (fW hr C_worth_of (a7 (vb z) (a7 (vb z) aC)) gD) (a7 (vr (.v .sn) z) (a7 (vr (.v .sn) z) aC))) rfl) rfl)))
abbrev wJ:Stmt:=top 42
abbrev ZC:List Str:=["_law_script", "_law_k", "_law_state", "_law_one", "_law_far", "_law_other", "_law_benches", "_law_told", "_law_both_here", "_law_worth", "_law_papers", "_law_chosen", "_law_some"]
theorem a1T:SN ZC ["_law_script"] wJ:=bM
abbrev J1:=l5 8 "law" ["_law_script"] [.scr] (.v .fl) JU
theorem WJ (D:Df K mg "law" wJ) (T:Txt K mg) (C_l_begun:rD P w K mg base) (C_l_small:m4 P w K mg base) (C_l_take:iT P w K mg base) (C_l_both:oK P w K mg base) (C_most_of:m5 P w K mg base) (C_claim:rC P w K mg base) (C_is_choice:j5 P w K mg base) (C_worth_of:hV P w K mg base):J1 P w K mg base:=
  have z:=a1T
  YO (mn:=[.no,.no,.no,.no,.no,.no,.no,.no,.no,.no,.no,.no,.no]) (UC TF.2) D z λf cdv A outer s H E hr=>
  (aB (jS PassesOwn.never rfl rfl (fJ gD T.b_range (aY (b6 (DH rfl) BE gD T.b_max xC (a7 (aY aE) (a7 (aY (b6 (MH rfl) BF gD T.b_min JJ (a7 (aY (IG gD T.b_len fQ (a7 (vr .scr z) aC))) (a7 (aY aE) aC)) JF JA)) aC)) xA wZ))) (gn 1 z)
 (aB (kY 2 z (fW hr C_l_begun (a7 (vr .scr z) (a7 (vb z) aC)) gD))
 (aB (kY 3 z (fW hr C_l_small (a7 (vr .st z) (a7 (aY aE) (a7 (aY (pF (aY aE))) (a7 (aY zA) aC)))) gD))
 (aB (u7 3 .fl rfl (kY 4 z (c7 bH mN (aY (NK (XJ rfl) N1 gD T.b_max xC (a7 (Q6 (NO ["_law_stretch"] 1 [] [(.v .fl)] (u6 (vr (.z .fl) z)) (λ_ _ _ _=>(gq 0)) (λ_ _ _ _=>dE) (λ_ _ _ _=>(aJ (a3Z (bS (m:=(.v .fl)) qo rfl rfl)) (aY aE) (λ_ _=>rfl))))) aC) aE xA wZ)) (aY (aJ (Q5 (dH .fl (a7 aE (a7 aE (a7 aE (a7 (c7 qW a17 (aY aE) (aY aE)) aC)))) rfl)) (aY (fW hr C_l_take (a7 (vr .st z) (a7 (aY aE) aC)) gD)) (λ_ _=>rfl))))))
 (aB (kY 5 z (fW hr C_l_small (a7 (vr .st z) (a7 (aY aE) (a7 (vb z) (a7 (aY zA) aC)))) gD))
 (aB (kY 6 z (fW hr C_l_take (a7 (vr .st z) (a7 (aY aE) aC)) gD))
 (aB (kY 7 z (dH .sn (a7 (fW hr C_most_of (a7 (vb z) (a7 (vb z) aC)) gD) (a7 (fW hr C_most_of (a7 (vb z) (a7 (vb z) aC)) gD) aC)) rfl))
 (aB (kY 8 z (fW hr C_l_both (a7 (vr .st z) (a7 (vb z) (a7 (vb z) aC))) gD))
 (aB (kY 9 z (c7 bH mN (KY (aJ (sA (aJ (vk .sn z) (aY aE) (λ_ _=>rfl))) (aY aE) (λ_ _=>rfl))) (KY (aJ (sA (aJ (vk .sn z) (aY aE) (λ_ _=>rfl))) (aY aE) (λ_ _=>rfl)))))
 (aB (kY 10 z (u0 (sA (aJ (sA (aJ (vk .sn z) (aY aE) (λ_ _=>rfl))) (aY aE) (λ_ _=>rfl))) (sA (aJ (sA (aJ (vk .sn z) (aY aE) (λ_ _=>rfl))) (aY aE) (λ_ _=>rfl)))))
 (aB (l4 (d5 yJ qY (KY (aJ (sA (fW hr C_most_of (a7 (vb z) (a7 (vb z) aC)) gD)) (aY aE) (λ_ _=>rfl))) (vb z) (cC _))
 (aK (b8 lY rfl))
 aW)
 (aB (l4 (FR (NS (d5 tM a16 (aY (b6 eN fN gD T.b_len fQ (a7 (vb z) aC) gM gK)) (aY aE) (cC _)) (FQ (d5 yJ qY (aY (fW hr C_claim (a7 (vb z) (a7 (vb z) (a7 (vb z) aC))) gD)) (vb z) (cC _)))))
 (aK (b8 lY rfl))
 aW)
 (aB (kY 11 z (u0 (Q5 (NO ["_law_i", "_law_one"] 1 [3] [(.v .sn),(.z .fl)] (dR (aJ (sA (aJ (vk .sn z) (aY aE) (λ_ _=>rfl))) (aY aE) (λ_ _=>rfl))) (λ_ _ _ _=>(gq 0)) (λ_ _ _ _=>dE) (λ_ _ _ _=>(aJ (a2P (bS (m:=(.z .fl)) (qk cD) rfl rfl)) bo (λ_ _=>rfl))))) (Q5 (NO ["_law_i", "_law_other"] 1 [5] [(.v .sn),(.c .fl)] (dR (aJ (sA (aJ (vk .sn z) (aY aE) (λ_ _=>rfl))) (aY aE) (λ_ _=>rfl))) (λ_ _ _ _=>(gq 0)) (λ_ _ _ _=>dE) (λ_ _ _ _=>(aJ (a3M (bS (m:=(.c .fl)) (qk cD) rfl rfl)) bo (λ_ _=>rfl)))))))
 (aB (a18 12 z ["_law_i", "_law_chosen", "_law_both_here"] 1 [11,8] [(.v .fl),(.c .fl),(.c .fl)] (fJ gD T.b_range (aY (b6 eN fN gD T.b_len fQ (a7 (vb z) aC) gM gK))) (λ_ _ _ _=>(gq 0)) (λ_ _ _ _=>(lJ (d5 (F9 hr.units) N0 (aY (aJ (a3M (bS (m:=(.c .fl)) (qk cD) rfl rfl)) bo (λ_ _=>rfl))) (bk cD) (by with_unfolding_all rfl)))) (λ_ _ _ _=>(bS (m:=(.v .fl)) qo rfl rfl)))
 (aB (l4 (FR (TU (DZ (mY (aY (fW hr C_is_choice (a7 (vb z) (a7 (vb z) (a7 (vb z) aC))) gD)))) (NT (d5 yJ qY (aY (fW hr C_worth_of (a7 (vb z) (a7 (vb z) aC)) gD)) (vb z) (cC _)))))
 (aK (b8 lY rfl))
 aW)
 (gU (m1:=[.scr,.no,.no,.no,.no,.no,.no,.no,.no,.no,.no,.no,.no]) rfl aW))))))))))))))))
 (aK (b8 lY rfl)))
end
theorem U0 {l:PySem.W.OpenLaw} {w:World} {K:PySem.W.Frag} {h:Heap} {mg:Str->Option Value} {fa:Addr} (X:K.In h) (G:h.Ns mainGlobals mg) (hfa:mg "law"=some (.ref fa))
  (D_is_whole:DfA K "is_whole" mQ) (D_is_whole_within:DfA K "is_whole_within" eQ) (D_is_over:DfA K "is_over" p4) (D_moments_of:DfA K "moments_of" g8) (D_load_at:DfA K "load_at" p7) (D_loads_of:DfA K "loads_of" mR) (D_crowd_of:DfA K "crowd_of" mP) (D_are_numbers:DfA K "are_numbers" iR) (D_is_some:DfA K "is_some" p5) (D_is_choice:DfA K "is_choice" kT) (D_worth_of:DfA K "worth_of" mU) (D_places_of:DfA K "places_of" kU) (D_free_roads:DfA K "free_roads" jO) (D_stretch_roads:DfA K "stretch_roads" dQ) (D_roads_of:DfA K "roads_of" mT) (D_greatest_gains:DfA K "greatest_gains" cF) (D_numbers_along:DfA K "numbers_along" fV) (D_changed_by:DfA K "changed_by" jN) (D_prices_by:DfA K "prices_by" kW) (D_best_up_to:DfA K "best_up_to" eP) (D_greatest_load:DfA K "greatest_load" fU) (D_best_for:DfA K "best_for" mO) (D_most_of:DfA K "most_of" p8) (D_toll_of:DfA K "toll_of" pA) (D_rest_of:DfA K "rest_of" p9) (D_rests_of:DfA K "rests_of" mS) (D_prices_of:DfA K "prices_of" kX) (D_claim:DfA K "claim" yO) (D_l_begun:DfA K "_law_begun" cG) (D_l_take:DfA K "_law_take" cZ) (D_l_name:DfA K "_law_name" tQ) (D_l_small:DfA K "_law_small" p6) (D_l_both:DfA K "_law_both" tP) (D_law:DfA K "law" wJ)
  (z_bool:PySem.W.nsIn K mainGlobals "bool"=some none) (z_enumerate:PySem.W.nsIn K mainGlobals "enumerate"=some none) (z_int:PySem.W.nsIn K mainGlobals "int"=some none) (z_isinstance:PySem.W.nsIn K mainGlobals "isinstance"=some none) (z_len:PySem.W.nsIn K mainGlobals "len"=some none) (z_list:PySem.W.nsIn K mainGlobals "list"=some none) (z_max:PySem.W.nsIn K mainGlobals "max"=some none) (z_min:PySem.W.nsIn K mainGlobals "min"=some none) (z_range:PySem.W.nsIn K mainGlobals "range"=some none) (z_set:PySem.W.nsIn K mainGlobals "set"=some none) (z_sorted:PySem.W.nsIn K mainGlobals "sorted"=some none) (z_sum:PySem.W.nsIn K mainGlobals "sum"=some none) (z_zip:PySem.W.nsIn K mainGlobals "zip"=some none)   :
  ∃fd:FuncData,(∀(s:Ab) (v:Value),BindsTo s fd ⟨[v],[]⟩ [("_law_script",v)])/\∀base:Heap,K.In base->base.Ns mainGlobals mg->FnOk l.prog w K mg base jA 8 fa fd ["_law_script"] (yU K):=by
 obtain⟨fl,oc,od,an,osl,kV,doc,pm,cdv,ct,al,ll,cl,kl⟩:=D_law.ex
 have e:=hfa.symm.trans (PySem.W.mg_of X G al)
 cases e
 have T:Txt K mg:=⟨PySem.W.mg_none_of X G z_bool,PySem.W.mg_none_of X G z_enumerate,PySem.W.mg_none_of X G z_int,PySem.W.mg_none_of X G z_isinstance,PySem.W.mg_none_of X G z_len,PySem.W.mg_none_of X G z_list,PySem.W.mg_none_of X G z_max,PySem.W.mg_none_of X G z_min,PySem.W.mg_none_of X G z_range,PySem.W.mg_none_of X G z_set,PySem.W.mg_none_of X G z_sorted,PySem.W.mg_none_of X G z_sum,PySem.W.mg_none_of X G z_zip⟩
 refine⟨PySem.W.fnOf "law" "law" (cV wJ) (bG wJ) (aA wJ) .none kV doc pm an cdv ct,λs v=>.of_eq rfl,λbase _ _=>?_⟩
 have C_is_whole:kB l.prog w K mg base:=AJ (D_is_whole.df X G) T
 have C_is_over:gI l.prog w K mg base:=D0 (D_is_over.df X G) T
 have C_moments_of:fK l.prog w K mg base:=uK (D_moments_of.df X G) T
 have C_worth_of:hV l.prog w K mg base:=AN (D_worth_of.df X G) T
 have C_free_roads:iG l.prog w K mg base:=uJ (D_free_roads.df X G) T
 have C_stretch_roads:eW l.prog w K mg base:=oV (D_stretch_roads.df X G) T
 have C_greatest_gains:eI l.prog w K mg base:=nP (D_greatest_gains.df X G) T
 have C_numbers_along:eV l.prog w K mg base:=oU (D_numbers_along.df X G) T
 have C_changed_by:iF l.prog w K mg base:=uI (D_changed_by.df X G) T
 have C_prices_by:j8 l.prog w K mg base:=y0 (D_prices_by.df X G) T
 have C_prices_of:j9 l.prog w K mg base:=y8 (D_prices_of.df X G) T
 have C_l_begun:rD l.prog w K mg base:=G9 (D2 (D_l_begun.df X G) T )
 have C_l_take:iT l.prog w K mg base:=JQ (HU (D_l_take.df X G) T )
 have C_is_whole_within:dS l.prog w K mg base:=mH (D_is_whole_within.df X G) T C_is_whole
 have C_load_at:j6 l.prog w K mg base:=D4 (D_load_at.df X G) T C_is_over
 have C_places_of:j7 l.prog w K mg base:=xZ (D_places_of.df X G) T C_moments_of
 have C_toll_of:m7 l.prog w K mg base:=D7 (D_toll_of.df X G) T C_is_over
 have C_l_name:oM l.prog w K mg base:=HR (D_l_name.df X G) T C_l_take
 have C_l_both:oK l.prog w K mg base:=HQ (D_l_both.df X G) T C_l_take
 have C_loads_of:kC l.prog w K mg base:=AK (D_loads_of.df X G) T C_moments_of C_load_at
 have C_are_numbers:gH l.prog w K mg base:=sF (D_are_numbers.df X G) T C_is_whole_within
 have C_roads_of:kE l.prog w K mg base:=AM (D_roads_of.df X G) T C_free_roads C_stretch_roads C_load_at
 have C_rest_of:m6 l.prog w K mg base:=D6 (D_rest_of.df X G) T C_toll_of
 have C_l_small:m4 l.prog w K mg base:=D3 (D_l_small.df X G) T C_l_take C_l_name
 have C_crowd_of:gZ l.prog w K mg base:=AI (D_crowd_of.df X G) T C_loads_of C_is_over
 have C_is_some:m3 l.prog w K mg base:=D1 (D_is_some.df X G) T C_are_numbers
 have C_best_up_to:iE l.prog w K mg base:=uH (D_best_up_to.df X G) T C_places_of C_roads_of C_greatest_gains C_changed_by C_numbers_along C_prices_by
 have C_rests_of:kD l.prog w K mg base:=AL (D_rests_of.df X G) T C_rest_of
 have C_is_choice:j5 l.prog w K mg base:=xY (D_is_choice.df X G) T C_is_some C_crowd_of
 have C_greatest_load:eU l.prog w K mg base:=oT (D_greatest_load.df X G) T C_crowd_of
 have C_claim:rC l.prog w K mg base:=LJ (D_claim.df X G) T C_rests_of C_prices_of
 have C_best_for:kA l.prog w K mg base:=AH (D_best_for.df X G) T C_best_up_to C_greatest_load
 have C_most_of:m5 l.prog w K mg base:=D5 (D_most_of.df X G) T C_best_for C_worth_of
 have C_law:J1 l.prog w K mg base:=WJ (D_law.df X G) T C_l_begun C_l_small C_l_take C_l_both C_most_of C_claim C_is_choice C_worth_of
 exact U6 (OJ C_law W9) hfa ll
theorem a3G {l:PySem.W.OpenLaw} {q:Program} {loose:List Str} {XP:(Str->Option Value)->Heap->Prop} {YP:World->Heap->Prop} {d:DefRec} {K:Params->PySem.W.Frag} (hn:l.most=some 63) (hdf:d.params.defaults=[]) (himp:PyProof.Rows.importsNone q=true)
  (hY:∀(w:World) (h:Heap),YP w h->(K w.params).In h)
  (F:∀(w:World) (mg:Str->Option Value) (fa:Addr) (h:Heap),(K w.params).In h->h.Ns mainGlobals mg->mg d.name=some (.ref fa)->
   ∃fd:FuncData,(∀(s:Ab) (u:Value),BindsTo s fd ⟨[u],[]⟩ [("_law_script",u)])/\∀base:Heap,(K w.params).In base->base.Ns mainGlobals mg->FnOk l.prog w (K w.params) mg base jA 8 fa fd ["_law_script"] (yU (K w.params))) :
  PySem.W.WalkO q loose XP YP l.row.toRowW d [] (λf vs=>PySem.call f vs):=
 L2.SL (n:=63) (k:=8) (x:="_law_script") (CX:=λ_=>jA) (sp:=λw=>yU (K w.params)) hn (by decide) hdf himp ⟨rfl,by decide,by decide,rfl⟩ hY F (λ_ _ a ns hl o hS=>⟨a,ns,rfl,MY hS o,hl,λ_=>rfl⟩) λ_ _ _ _ _ z=>z
end K34
theorem PySem.W.Fast.tw15653951531614775593:True:=⟨⟩
theorem PySem.W.Fast.tw313450843508568205:True:=⟨⟩
theorem PySem.W.Fast.tw9742644130175830295:True:=⟨⟩
theorem PySem.W.Fast.tw11642679932521141892:True:=⟨⟩
theorem PySem.W.Fast.tw18006616568902543505:True:=⟨⟩
theorem PySem.W.Fast.tw15766883498088414494:True:=⟨⟩
theorem PySem.W.Fast.tw3787932203752990825:True:=⟨⟩
theorem PySem.W.Fast.tw1978374244672917771:True:=⟨⟩
theorem PySem.W.Fast.tw6649574253228180032:True:=⟨⟩
theorem PySem.W.Fast.tw9311047435862345565:True:=⟨⟩
theorem PySem.W.Fast.tw17522766681762868809:True:=⟨⟩
theorem PySem.W.Fast.tw3022241349868702092:True:=⟨⟩
theorem PySem.W.Fast.tw8136666435294468926:True:=⟨⟩
theorem PySem.W.Fast.tw6722932332356739393:True:=⟨⟩
theorem PySem.W.Fast.tw1443565642157376113:True:=⟨⟩
theorem PySem.W.Fast.tw7400831804355548151:True:=⟨⟩
theorem PySem.W.Fast.tw18344026666604034638:True:=⟨⟩
theorem PySem.W.Fast.tw3790430672396987303:True:=⟨⟩
theorem PySem.W.Fast.tw16703234788101407732:True:=⟨⟩
theorem PySem.W.Fast.tw10471566317037419452:True:=⟨⟩
theorem PySem.W.Fast.tw11874075320748803252:True:=⟨⟩
theorem PySem.W.Fast.tw16080963532727562957:True:=⟨⟩
theorem PySem.W.Fast.tw15929139729914221019:True:=⟨⟩
theorem PySem.W.Fast.tw933142408401837169:True:=⟨⟩
theorem PySem.W.Fast.tw845879444485449486:True:=⟨⟩
theorem PySem.W.Fast.tw4419301597226010301:True:=⟨⟩
theorem PySem.W.Fast.tw7924625485834434469:True:=⟨⟩
theorem PySem.W.Fast.tw12282375861559698965:True:=⟨⟩
theorem PySem.W.Fast.tw18339527556875458139:True:=⟨⟩
theorem PySem.W.Fast.tw12509721817242651706:True:=⟨⟩
theorem PySem.W.Fast.tw2435849711401449489:True:=⟨⟩
theorem PySem.W.Fast.tw18202064152858659363:True:=⟨⟩
theorem PySem.W.Fast.tw359128402028122834:True:=⟨⟩
theorem PySem.W.Fast.tw17376786391699104235:True:=⟨⟩
theorem PySem.W.Fast.tw12560509095768736710:True:=⟨⟩
theorem PySem.W.Fast.tw353331615667639875:True:=⟨⟩
theorem PySem.W.Fast.tw7597532797376166503:True:=⟨⟩
theorem PySem.W.Fast.tw4961261627810811412:True:=⟨⟩
theorem PySem.W.Fast.tw3141706525562106687:True:=⟨⟩
theorem PySem.W.Fast.tw2352887365753178702:True:=⟨⟩
theorem PySem.W.Fast.tw13831521081343930923:True:=⟨⟩
theorem PySem.W.Fast.tw430140698807408735:True:=⟨⟩
theorem PySem.W.Fast.tw3404506956265868085:True:=⟨⟩
theorem PySem.W.Fast.tw9200841603400177912:True:=⟨⟩
theorem PySem.W.Fast.tw1951183946639407757:True:=⟨⟩
theorem PySem.W.Fast.tw18245667170574765439:True:=⟨⟩
theorem PySem.W.Fast.tw8583174851808828960:True:=⟨⟩
theorem PySem.W.Fast.tw17258117767468954234:True:=⟨⟩
theorem PySem.W.Fast.tw10682975194026452072:True:=⟨⟩
theorem PySem.W.Fast.tw14477764215137932412:True:=⟨⟩
theorem PySem.W.Fast.tw15470272502256850530:True:=⟨⟩
theorem PySem.W.Fast.tw5768983981396942794:True:=⟨⟩
theorem PySem.W.Fast.tw4982919307293498926:True:=⟨⟩
theorem PySem.W.Fast.tw12592800581580928903:True:=⟨⟩
theorem PySem.W.Fast.tw15375481933583699344:True:=⟨⟩
theorem PySem.W.Fast.tw4492183051459487058:True:=⟨⟩
theorem PySem.W.Fast.tw10346933020716342712:True:=⟨⟩
theorem PySem.W.Fast.tw15792540337882701853:True:=⟨⟩
theorem PySem.W.Fast.tw17758977759875972586:True:=⟨⟩
theorem PySem.W.Fast.tw2110635179517528679:True:=⟨⟩
theorem PySem.W.Fast.tw9053162770631239424:True:=⟨⟩
theorem PySem.W.Fast.tw1223727048804305362:True:=⟨⟩
theorem PySem.W.Fast.tw17800898033577462681:True:=⟨⟩
theorem PySem.W.Fast.tw3044984863364386796:True:=⟨⟩
theorem PySem.W.Fast.tw5045543165975223949:True:=⟨⟩
theorem PySem.W.Fast.tw6556890331830237970:True:=⟨⟩
theorem PySem.W.Fast.tw14456065912744566949:True:=⟨⟩
theorem PySem.W.Fast.tw14229214439302772730:True:=⟨⟩
theorem PySem.W.Fast.tw6169442093371479699:True:=⟨⟩
theorem PySem.W.Fast.tw10101115047083029002:True:=⟨⟩
theorem PySem.W.Fast.tw18074412703259378380:True:=⟨⟩
theorem PySem.W.Fast.tw7109721205002374039:True:=⟨⟩
theorem PySem.W.Fast.tw1341856907742586080:True:=⟨⟩
theorem PySem.W.Fast.tw700109098460085429:True:=⟨⟩
theorem PySem.W.Fast.tw8404880487226471226:True:=⟨⟩
open PySem PySem.W PyProof.Rows
set_option maxRecDepth 100000 in
set_option maxHeartbeats 0 in
theorem PySem.Challenge.cw_benchworth_k34_whole_far_books_add_holds : PySem.Challenge.rw_benchworth_k34_whole_far_books_add.Holds := by
 w_on;o_law;k_head;(case hw=>w_witness2)
 k_fill
 refine K34.a3G (l:=PySem.Challenge.rw_benchworth_k34_whole_far_books_add) rfl rfl (by decide+kernel) (λw h Y=>PySem.W.kIn_of Y) ?F
 case F=>
  intro w mg fa h KX G hmg
  refine' K34.U0 KX G hmg ?_ ?_ ?_ ?_ ?_ ?_ ?_ ?_ ?_ ?_ ?_ ?_ ?_ ?_ ?_ ?_ ?_ ?_ ?_ ?_ ?_ ?_ ?_ ?_ ?_ ?_ ?_ ?_ ?_ ?_ ?_ ?_ ?_ ?_ ?_ ?_ ?_ ?_ ?_ ?_ ?_ ?_ ?_ ?_ ?_ ?_ ?_
  all_goals first|walk_at "d" |k_is|kernel_rfl|decide+kernel
