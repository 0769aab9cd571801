import PyProof.Rows.All
import Wide.All
import OpenK.AllK
import Wide.FinOn
import Lean
import PyProof.EqAt
import PyProof.EqKinds
import PyProof.TupleCall
import KE.KTab
import KE.KRevSl
import PyProof.Rows.Range3
import PyProof.WalkInts
import PyProof.Rows.StrSplitMax
import KE.KMinKey
import PyProof.LongRange
import PyProof.ListRange
import PyProof.ExcClass3
import PyProof.InstStore
import PyProof.StationsW
import PyProof.ExcQuiet
import PyProof.RulesTry
import PyProof.ExcArgsOwn
import PyProof.DictRoadsH
import Wide.Seal
import KE.KRevIter
import PyProof.SumAny
import PySem.Challenge.RW_fourvoices_k41_counts_without_rules
set_option Elab.async false
set_option linter.all false
set_option maxRecDepth 100000
namespace L2
open PySem PySem.Spec PyProof.Rows
abbrev nY:=Sum Int Str
def xx:nY→Value→Bool
 | .inl k,v=>Value.isInt k v
 | .inr x,v=>Value.isStrOf x v
def Ar(w:World):nY→Int
 | .inl k=>hashInt k
 | .inr x=>hashStr w x
theorem bM:∀{k:nY} {v:Value},xx k v=true→(∃i t,k=Sum.inl i∧v=Value.int i t)∨(∃x t,k=Sum.inr x∧v=Value.str x t)
 | .inl i,v,h=>by
  obtain⟨t,e⟩:=Value.isInt_shape (k:=i) (v:=v) h
  exact .inl ⟨i,t,rfl,e⟩
 | .inr x,v,h=>by
  obtain⟨t,e⟩:=Value.isStrOf_shape (x:=x) (v:=v) h
  exact .inr ⟨x,t,rfl,e⟩
theorem xX(a b:Int):decide ((Sum.inl a:nY)=Sum.inl b)=(a == b):=by
 by_cases e:a=b
 ·subst e;simp
 ·have h:¬(Sum.inl a:nY)=Sum.inl b:=fun q=>e (Sum.inl.inj q)
  rw [decide_eq_false h]
  exact(beq_eq_false_iff_ne.mpr e).symm
theorem x8(a b:Str):decide ((Sum.inr a:nY)=Sum.inr b)=decide (a=b):=by
 by_cases e:a=b
 ·subst e;simp
 ·have h:¬(Sum.inr a:nY)=Sum.inr b:=fun q=>e (Sum.inr.inj q)
  rw [decide_eq_false h,decide_eq_false e]
theorem xY(a:Int)(b:Str):decide ((Sum.inl a:nY)=Sum.inr b)=false:=decide_eq_false (fun q=>nomatch q)
theorem xZ(a:Str)(b:Int):decide ((Sum.inr a:nY)=Sum.inl b)=false:=decide_eq_false (fun q=>nomatch q)
def mZ(prog:Program)(w:World):PySem.KeyKind prog w nY where
 is:=xx
 hash:=Ar w
 inj:=fun v a b ha hb=>by
  rcases bM ha with⟨i,t,rfl,rfl⟩ | ⟨x,t,rfl,rfl⟩
  ·rcases bM hb with⟨j,u,rfl,e⟩ | ⟨y,u,rfl,e⟩
   ·injection e with e1 _;rw [e1]
   ·exact nomatch e
  ·rcases bM hb with⟨j,u,rfl,e⟩ | ⟨y,u,rfl,e⟩
   ·exact nomatch e
   ·injection e with e1 _;rw [e1]
 byValue:=fun k v h=>by
  rcases bM h with⟨i,t,rfl,rfl⟩ | ⟨x,t,rfl,rfl⟩<;>rfl
 pyHash:=fun hv h=>by
  rcases bM hv with⟨i,t,rfl,rfl⟩ | ⟨x,t,rfl,rfl⟩
  ·exact wpAny_pyHash_int h
  ·exact wpAny_pyHash_str h
 eqBool:=fun hu hv h=>by
  rcases bM hu with⟨i,t,rfl,rfl⟩ | ⟨x,t,rfl,rfl⟩
  ·rcases bM hv with⟨j,u,rfl,rfl⟩ | ⟨y,u,rfl,rfl⟩
   ·rw [xX]at h;exact wpAny_eqBool_int h
   ·rw [xY]at h;exact SeqAt.EqAt.int_str i t y u _ _ _ _ h
  ·rcases bM hv with⟨j,u,rfl,rfl⟩ | ⟨y,u,rfl,rfl⟩
   ·rw [xZ]at h;exact SeqAt.EqAt.str_int x t j u _ _ _ _ h
   ·rw [x8]at h;exact wpAny_eqBool_str h
 «strs»:=fun k x t v h=>by
  rcases bM h with⟨i,u,rfl,e⟩ | ⟨y,u,rfl,e⟩
  ·exact nomatch e
  ·injection e with e1 _
   subst e1
   cases v<;>rfl
end L2
namespace L2
open PySem PySem.Spec PyProof.Rows
inductive V where
 | non | bl (b:Bool) | int (i:Int) | str (x:Str) | byt (b:Array UInt8) | flt (b:UInt64) | ref (a:Addr) | ty (n:String)
 deriving DecidableEq
def aK:V→Value→Prop
 | .non,u=>u=Value.none
 | .bl b,u=>u=Value.bool b
 | .int i,u=>∃t,u=Value.int i t
 | .str x,u=>∃t,u=Value.str x t
 | .byt b,u=>∃t,u=Value.bytes b t
 | .flt b,u=>∃t,u=Value.float b t
 | .ref a,u=>u=Value.ref a
 | .ty n,u=>u=Value.type n
abbrev aA:List V→List Value→Prop:=Paired aK
theorem aA.length{xs:List V}{us:List Value}(r:aA xs us):xs.length=us.length:=Paired.length r
theorem aA.get:∀{xs:List V} {us:List Value} {i:Nat} {x:V},aA xs us→xs[i]?=some x→∃u,us[i]?=some u∧aK x u
 | _,_,_,_,.nil,e=>by simp at e
 | _,_,0,_,.cons r _,e=>by simp at e;subst e;exact⟨_,rfl,r⟩
 | _,_,i+1,x,.cons _ t,e=>by
  obtain⟨u,h1,h2⟩:=aA.get (i:=i) (x:=x) t (by simpa using e)
  exact⟨u,by simpa using h1,h2⟩
theorem aA.set{x:V}{u:Value}(r:aK x u):∀{xs:List V} {us:List Value} (i:Nat),aA xs us→aA (xs.set i x) (us.set i u)
 | _,_,_,.nil=>.nil
 | _,_,0,.cons _ t=>.cons r t
 | _,_,i+1,.cons q t=>.cons q (aA.set r i t)
theorem aA.append:∀{xs ys:List V} {us ws:List Value},aA xs us→aA ys ws→aA (xs++ys) (us++ws)
 | _,_,_,_,.nil,s=>s
 | _,_,_,_,.cons r t,s=>.cons r (aA.append t s)
theorem aA.take:∀{xs:List V} {us:List Value} (n:Nat),aA xs us→aA (xs.take n) (us.take n)
 | _,_,0,_=>.nil
 | _,_,_+1,.nil=>.nil
 | _,_,n+1,.cons r t=>.cons r (aA.take n t)
theorem aA.drop:∀{xs:List V} {us:List Value} (n:Nat),aA xs us→aA (xs.drop n) (us.drop n)
 | _,_,0,r=>r
 | _,_,_+1,.nil=>.nil
 | _,_,n+1,.cons _ t=>aA.drop n t
theorem aA.none_of:∀{xs:List V} {us:List Value} {i:Nat},aA xs us→xs[i]?=none→us[i]?=none:=fun {xs us i} r e=>by
 have h1:=r.length
 have h2:xs.length≤i:=List.getElem?_eq_none_iff.mp e
 exact List.getElem?_eq_none_iff.mpr (by omega)
def lG:Option V→Option Value→Prop
 | some v,some u=>aK v u
 | none,none=>True
 | _,_=>False
def KV{κ:Type}:List (κ×V)→List (κ×Value)→Prop:=Paired fun(p:κ×V) (q:κ×Value)=>p.1=q.1∧aK p.2 q.2
def kV:nY→V
 | .inl i=>.int i
 | .inr x=>.str x
inductive HO where
 | lst (xs:List V)
 | tup (xs:List V)
 | dK (kvs:List (nY×V)) | dT (kvs:List (List nY×V))
 | set (S:Int→Bool) (n:Nat)
 | ins (C dx:Addr) (fs:List (Str×V))
 | own (x:Addr)
 | xd (fs:List (Str×V))
 | met (f x:Addr)
 | rng (lo hi:Int)
 | frz (o:Obj) (u:HO)
 | tbl (ps:Array Value)
 | ext (φ:Heap→Prop)
abbrev Hp:=Addr→Option HO
def upd(H:Hp)(a:Addr)(o:HO):Hp:=fun b=>if b=a then some o else H b
theorem ae{H:Hp}{a:Addr}{o:HO}:upd H a o a=some o:=by unfold upd;rw [if_pos rfl]
theorem ai{H:Hp}{a b:Addr}{o:HO}(h:b≠a):upd H a o b=H b:=by unfold upd;rw [if_neg h]
theorem rN{H:Hp}{a:Addr}{o u:HO}:upd (upd H a o) a u=upd H a u:=by
 funext b;unfold upd;split<;>rfl
theorem fW{H:Hp}{a b:Addr}{o u:HO}(h:H a=some o)(h':H b=some u)(d:o≠u):a≠b:=by
 intro e;subst e;rw [h]at h';exact d (Option.some.inj h')
theorem aj{H:Hp}{a b:Addr}{o:HO}(h:H a=some o)(h':H b=none):a≠b:=by
 intro e;subst e;rw [h]at h';cases h'
section
variable (P:Program) (w:World)
def cy(H:Hp)(h:Heap)(a:Addr):HO→Prop
 | .lst xs=>xs.length≤sizeLine∧∃(its:List Value) (n:Nat),aA xs its∧h.get? a=some { cls:=.type "list",data:=.seq its.toArray n }
 | .tup xs=>xs.length≤sizeLine∧∃its:List Value,aA xs its∧IsTup h a its.toArray
 | .dK kvs=>kvs.length≤sizeLine∧(a == sysModules)=false∧∃vs,KV kvs vs∧h.DictOf (mZ P w) a vs
 | .dT kvs=>kvs.length≤sizeLine∧(a == sysModules)=false∧∃xs:List (List nY×Addr×Value),
   Paired (fun(p:List nY×V) (q:List nY×Addr×Value)=>p.1=q.1∧H q.2.1=some (.tup (p.1.map kV))∧aK p.2 q.2.2) kvs xs∧
   ∃o es ep,h.get? a=some o∧o.ExactDict∧o.data=.dict es ep∧es.toList=xs.map (entryOfKey (tupleKind (mZ P w)))∧(xs.map (·.1)).Nodup
 | .set S n=>h.SetOf (intKind P w) a S n
 | .ins C dx fs=>H dx=some (.own a)∧fs.length≤1000∧dx≠a∧h.get? a=some (PySem.W.instObj C dx)∧
   ∃mA,h.Ns1 dx mA∧(∀f,lG (fs.lookup f) (mA f))∧PySem.Within mA (fs.map (·.1))
 | .own _=>∃o,h.get? a=some o
 | .xd fs=>∃mA,h.Ns1 a mA∧∀f,lG (fs.lookup f) (mA f)
 | .rng lo hi=>∃t u v,h.get? a=some { cls:=.type "range",data:=.fields #[.int lo t,.int hi u,.int 1 v] }
 | .frz o u=>h.get? a=some o∧cy H h a u
 | .tbl ps=>h.get? a=some { cls:=.none,data:=.fields ps }
 | .met f x=>h.get? a=some (PySem.W.methodObj (.ref f) (.ref x))
 | .ext φ=>φ h∧(∃o,h.get? a=some o)∧∀h1 h2:Heap,φ h1→(∀o,h1.get? a=some o→h2.get? a=some o)→φ h2
def iq(H:Hp)(h:Heap):Prop:=∀a o,H a=some o→cy P w H h a o
end
section
variable {P:Program} {w:World} {H H':Hp} {h h':Heap} {a:Addr} {o:HO}
theorem cy.lt(x:cy P w H h a o):a < h.objs.size:=by
 cases o with
 | lst xs=>obtain⟨_,_,_,_,e⟩:=x;exact Heap.lt_size e
 | tup xs=>obtain⟨_,_,_,p⟩:=x;exact p.lt
 | dK kvs=>obtain⟨_,_,_,_,o,_,_,e,_⟩:=x;exact Heap.lt_size e
 | dT kvs=>obtain⟨_,_,_,_,o,_,_,e,_⟩:=x;exact Heap.lt_size e
 | set S n=>obtain⟨o,_,_,_,e,_⟩:=x;exact Heap.lt_size e
 | ins C dx fs=>obtain⟨_,_,_,e,_⟩:=x;exact Heap.lt_size e
 | own y=>obtain⟨_,e⟩:=x;exact Heap.lt_size e
 | xd fs=>obtain⟨_,⟨_,_,_,e,_⟩,_⟩:=x;exact Heap.lt_size e
 | rng lo hi=>obtain⟨_,_,_,e⟩:=x;exact Heap.lt_size e
 | frz ob u=>obtain⟨e,_⟩:=x;exact Heap.lt_size e
 | tbl ps=>exact Heap.lt_size (show h.get? a=some _ from x)
 | met f y=>exact Heap.lt_size (show h.get? a=some _ from x)
 | ext φ=>obtain⟨_,⟨_,e⟩,_⟩:=x;exact Heap.lt_size e
theorem Paired.mapP{α β:Type}{F G:α→β→Prop}:∀{l₁:List α} {l₂:List β},Paired F l₁ l₂→(∀a b,F a b→G a b)→Paired G l₁ l₂
 | _,_,.nil,_=>.nil
 | _,_,.cons r t,f=>.cons (f _ _ r) (Paired.mapP t f)
theorem cy.stay(x:cy P w H h a o)(k:∀b u,(b=a∨H b=some (.own a))→h.get? b=some u→h'.get? b=some u)
  (ho:∀b,H b=some (.own a)→H' b=some (.own a)) (ht:∀b xs,H b=some (.tup xs)→H' b=some (.tup xs)):cy P w H' h' a o:=by
 induction o with
 | lst xs=>obtain⟨z,its,n,r,e⟩:=x;exact⟨z,its,n,r,k _ _ (.inl rfl) e⟩
 | tup xs=>obtain⟨z,its,r,ob,e,c⟩:=x;exact⟨z,its,r,ob,k _ _ (.inl rfl) e,c⟩
 | dK kvs=>obtain⟨z,y,vs,r,ob,es,ep,e,c⟩:=x;exact⟨z,y,vs,r,ob,es,ep,k _ _ (.inl rfl) e,c⟩
 | dT kvs=>
  obtain⟨z,y,xs,r,ob,es,ep,e,c⟩:=x
  exact⟨z,y,xs,Paired.mapP r fun p q z=>⟨z.1,ht _ _ z.2.1,z.2.2⟩,ob,es,ep,k _ _ (.inl rfl) e,c⟩
 | set S n=>obtain⟨ob,es,ep,t,e,c⟩:=x;exact⟨ob,es,ep,t,k _ _ (.inl rfl) e,c⟩
 | ins C dx fs=>
  obtain⟨d,z,ne,e,mA,⟨od,es,ep,e2,c⟩,r⟩:=x
  exact⟨ho _ d,z,ne,k _ _ (.inl rfl) e,mA,⟨od,es,ep,k _ _ (.inr d) e2,c⟩,r⟩
 | own y=>obtain⟨ob,e⟩:=x;exact⟨ob,k _ _ (.inl rfl) e⟩
 | xd fs=>obtain⟨mA,⟨od,es,ep,e,c⟩,r⟩:=x;exact⟨mA,⟨od,es,ep,k _ _ (.inl rfl) e,c⟩,r⟩
 | rng lo hi=>obtain⟨t,u,v,e⟩:=x;exact⟨t,u,v,k _ _ (.inl rfl) e⟩
 | frz ob u ih=>obtain⟨e,q⟩:=x;exact⟨k _ _ (.inl rfl) e,ih q⟩
 | tbl ps=>
  have e:h.get? a=some { cls:=.none,data:=.fields ps }:=x
  show h'.get? a=some { cls:=.none,data:=.fields ps }
  exact k a _ (.inl rfl) e
 | met f y=>
  have e:h.get? a=some (PySem.W.methodObj (.ref f) (.ref y)):=x
  show h'.get? a=some (PySem.W.methodObj (.ref f) (.ref y))
  exact k a _ (.inl rfl) e
 | ext φ=>obtain⟨p,⟨o,e⟩,st⟩:=x;exact⟨st _ _ p fun o q=>k _ _ (.inl rfl) q,⟨o,k _ _ (.inl rfl) e⟩,st⟩
theorem iq.lt(x:iq P w H h)(e:H a=some o):a < h.objs.size:=(x a o e).lt
theorem iq.fresh(x:iq P w H h)(e:h.objs.size≤a):H a=none:=by
 cases q:H a with
 | none=>rfl
 | some u=>exact absurd (Nat.lt_of_lt_of_le (x.lt q) e) (Nat.lt_irrefl _)
theorem iq.kept(x:iq P w H h)(k:∀b u,h.get? b=some u→h'.get? b=some u):iq P w H h':=fun a o e=>
 (x a o e).stay (fun b u _ q=>k b u q) (fun _ q=>q) fun _ _ q=>q
theorem iq.laid(x:iq P w H h)(k:∀b u,h.get? b=some u→h'.get? b=some u)(hp:h.objs.size≤a)(new:cy P w (upd H a o) h' a o):iq P w (upd H a o) h':=fun b u e=>by
 have hn:=x.fresh hp
 by_cases hb:b=a
 ·subst hb;rw [ae]at e;cases e;exact new
 ·rw [ai hb]at e
  exact(x b u e).stay (fun c v _ q=>k c v q) (fun c q=>by rw [ai (aj q hn)];exact q) fun c xs q=>by rw [ai (aj q hn)];exact q
end
def Rd(H:Hp)(a:Addr)(u:HO):Prop:=H a=some u∨∃o,H a=some (.frz o u)
theorem Rd.ok{P:Program}{w:World}{H:Hp}{h:Heap}{a:Addr}{u:HO}(r:Rd H a u)(x:iq P w H h):cy P w H h a u:=by
 rcases r with r | ⟨o,r⟩
 ·exact x a u r
 ·obtain⟨_,q⟩:=x a _ r
  exact q
def z6:Option HO→Prop
 | some (.lst _)=>True
 | some (.dK _)=>True
 | some (.dT _)=>True
 | some (.set _ _)=>True
 | some (.ins _ _ _)=>True
 | some (.ext _)=>True
 | _=>False
section
variable {P:Program} {w:World} {H:Hp} {h h':Heap} {x e:Addr} {o':HO}
theorem iq.write(ok:iq P w H h)(mu:z6 (H x))(he:e=x∨H e=some (.own x))(k:∀b u,b≠e→h.get? b=some u→h'.get? b=some u)(heo:∃u,h'.get? e=some u)
  (new:cy P w (upd H x o') h' x o'):iq P w (upd H x o') h':=fun b u q=>by
 have nown:∀c y,H c=some (.own y)→c≠x:=fun c y r z=>by subst z;rw [r]at mu;exact mu
 have ntup:∀c xs,H c=some (.tup xs)→c≠x:=fun c xs r z=>by subst z;rw [r]at mu;exact mu
 by_cases hb:b=x
 ·subst hb;rw [ae]at q;cases q;exact new
 ·rw [ai hb]at q
  by_cases hbe:b=e
  ·have q':H b=some (.own x):=by
    rcases he with z | z
    ·exact absurd (hbe.trans z) hb
    ·rw [hbe];exact z
   rw [q]at q';cases q'
   obtain⟨v,hv⟩:=heo
   exact⟨v,by rw [hbe];exact hv⟩
  ·refine(ok b u q).stay (fun c v hc r=>k c v ?_ r) (fun c r=>by rw [ai (nown c b r)];exact r) fun c xs r=>by rw [ai (ntup c xs r)];exact r
   rcases hc with rfl | hc
   ·exact hbe
   ·rintro rfl
    rcases he with z | z
    ·exact nown c b hc z
    ·rw [hc]at z;cases z;exact hb rfl
end
structure Un(fs ex:List Addr)(H H':Hp)(h h':Heap):Prop where
 keep:∀b o,h.get? b=some o→H b=none→b∉fs→b∉ex→h'.get? b=some o
 slot:∀b o,h.get? b=some o→H b=none→b∈fs→b∉ex→∃sl,h'.get? b=some { o with slots:=sl }
 free:∀b o,h.get? b=some o→H b=none→b∉ex→H' b=none
 there:∀b o,h.get? b=some o→b∉ex→∃o',h'.get? b=some o'
 tups:∀b xs,H b=some (.tup xs)→H' b=some (.tup xs)
 frzs:∀b o u,H b=some (.frz o u)→H' b=some (.frz o u)
 tbls:∀b ps,H b=some (.tbl ps)→∃more,H' b=some (.tbl (ps++more))
section
variable {fs fs' ex ex':List Addr} {H H1 H2:Hp} {h h1 h2 h':Heap} {a x e:Addr} {o:HO}
theorem Un.any(u:Un fs ex H H1 h h1){b:Addr}{ob:Obj}(q:h.get? b=some ob)(n:H b=none)(hx:b∉ex):∃sl,h1.get? b=some { ob with slots:=sl }:=by
 by_cases hb:b∈fs
 ·exact u.slot b ob q n hb hx
 ·exact⟨ob.slots,u.keep b ob q n hb hx⟩
theorem Un.kept(k:∀b u,h.get? b=some u→h'.get? b=some u):Un fs ex H H h h':=
 ⟨fun b ob q _ _ _=>k b ob q,fun b ob q _ _ _=>⟨ob.slots,k b ob q⟩,fun _ _ _ n _=>n,fun b ob q _=>⟨ob,k b ob q⟩,fun _ _ q=>q,fun _ _ _ q=>q,fun _ ps q=>⟨#[],by rw [q];simp⟩⟩
theorem Un.refl:Un fs ex H H h h:=Un.kept fun _ _ q=>q
theorem Un.laid(k:∀b u,h.get? b=some u→h'.get? b=some u)(hp:h.objs.size≤a)(hn:H a=none):Un fs ex H (upd H a o) h h' where
 keep:=fun b u q _ _ _=>k b u q
 slot:=fun b u q _ _ _=>⟨u.slots,k b u q⟩
 free:=fun b u q n _=>by rw [ai (Nat.ne_of_lt (Nat.lt_of_lt_of_le (Heap.lt_size q) hp))];exact n
 there:=fun b u q _=>⟨u,k b u q⟩
 tups:=fun b xs q=>by rw [ai (aj q hn)];exact q
 frzs:=fun b u xs q=>by rw [ai (aj q hn)];exact q
 tbls:=fun b ps q=>⟨#[],by rw [ai (aj q hn),q];simp⟩
theorem Un.write(mu:z6 (H x))(he:e=x∨H e=some (.own x))(k:∀b u,b≠e→h.get? b=some u→h'.get? b=some u)(heo:∃u,h'.get? e=some u):Un fs ex H (upd H x o) h h':=by
 have hx:∀b,H b=none→b≠x:=fun b n z=>by subst z;rw [n]at mu;exact mu
 have hb:∀b,H b=none→b≠e:=fun b n z=>by
  subst z
  rcases he with r | r
  ·exact hx b n r
  ·rw [n]at r;cases r
 have hm:∀b u,H b=some u→¬z6 (some u)→b≠x:=fun b u q nm z=>by subst z;rw [q]at mu;exact nm mu
 refine⟨fun b u q n _ _=>k b u (hb b n) q,fun b u q n _ _=>⟨u.slots,k b u (hb b n) q⟩,fun b u q n _=>by rw [ai (hx b n)];exact n,fun b u q _=>?_,
  fun b xs q=>by rw [ai (hm b _ q fun z=>z)];exact q,fun b u xs q=>by rw [ai (hm b _ q fun z=>z)];exact q,fun b ps q=>⟨#[],by rw [ai (hm b _ q fun z=>z),q];simp⟩⟩
 by_cases hbe:b=e
 ·subst hbe;exact heo
 ·exact⟨u,k b u hbe q⟩
end
def Ab(h:Heap)(H:Hp):List Addr:=(List.range h.objs.size).filter fun a=>(H a).isSome
def mX(h:Heap)(H:Hp):Heap:=PySem.W.hideAll h (Ab h H)
theorem sr(h:Heap)(H:Hp):(mX h H).objs.size=h.objs.size:=PySem.W.hideAll_size _ _
theorem ud{h:Heap}{H:Hp}{b:Addr}{o:Obj}(e:h.get? b=some o)(n:H b=none):(mX h H).get? b=some o:=
 PySem.W.hideAll_get _ e fun hm=>by
  have q:(H b).isSome=true:=(List.mem_filter.mp hm).2
  rw [n]at q;simp at q
theorem wz{h:Heap}{H:Hp}{b:Addr}{o:Obj}(e:(mX h H).get? b=some o):h.get? b=some o∧H b=none:=by
 have e':h.get? b=some o:=PySem.W.of_hideAll (Ab h H) e
 refine⟨e',?_⟩
 cases q:H b with
 | none=>rfl
 | some x=>
  have hm:b∈Ab h H:=List.mem_filter.mpr ⟨List.mem_range.mpr (Heap.lt_size e'),by simp [q]⟩
  have z:(mX h H).get? b=none:=PySem.W.hideAll_none (Ab h H) hm
  rw [z]at e;cases e
def vO(g h:Heap)(L:Addr):List (Addr×Obj):=(List.range h.objs.size).filterMap fun a=>if a=L∨(g.get? a).isSome=true then none else(h.get? a).map fun o=>(a,o)
def rest(g h:Heap)(L d:Addr):List (Addr×Obj):=(vO g h L).filter fun p=>decide (p.1≠d)
end L2
namespace L2
open PySem PySem.Spec PyProof.Rows
structure Mod(K:PySem.W.Frag)(mg:Str→Option Value)(base:Heap):Prop where
 kin:K.In base
 glob:base.Ns mainGlobals mg
 blt:∃mb,base.Ns builtinsNs mb∧∀x:Str,x≠"__name__"→mb x=bootBuiltins x
 nolimit:base.NoLimit
structure Cx where
 prog:Program
 w:World
 K:PySem.W.Frag
 mg:Str→Option Value
 base:Heap
 A:Around
 N:List Str
 s₀:Shared
 H₀:Hp
 env:Env
 outer:List Env
 stack:List Env
 ex:List Addr
 fn:Str→Bool
 calm:Bool
 pn:List (Addr×Obj)
 xe:Value→Shared→Prop
def lE(l:List Env):List Addr:=l.filterMap (·.frame)
abbrev Cx.fs(X:Cx):List Addr:=lE X.outer
def z7(sc:Scope)(x:Str):Prop:=sc.names.lookup x=some .local∨sc.names.lookup x=some .cell∨sc.names.lookup x=some .free
def yO(sc:Scope)(x:Str):Prop:=sc.names.lookup x=some .local∨sc.names.lookup x=some .cell
def An(env:Env)(h:Heap)(m:Str→Option Value)(x:Str)(u:Value):Prop:=
 (env.kindOf x=some .local∧m x=some u)∨((env.kindOf x=some .cell∨env.kindOf x=some .free)∧∃c,env.cells.lookup x=some c∧h.IsCell c (some u))
structure Cx.Ok(X:Cx):Prop where
 mod:Mod X.K X.mg X.base
 kind:X.env.scope.kind=.function
 glob:X.env.globals=mainGlobals
 blt:X.env.builtins=builtinsNs
 above:X.s₀.heap.objs.size≤X.env.locals
 inj:∀x y c,X.env.cells.lookup x=some c→X.env.cells.lookup y=some c→x=y
 has:∀x,(X.env.kindOf x=some .cell∨X.env.kindOf x=some .free)→∃c,X.env.cells.lookup x=some c
 cab:∀x c,X.fn x=true→X.env.cells.lookup x=some c→X.s₀.heap.objs.size≤c
 hd:X.calm=true→X.A.handled=none
 frames:X.A.frames=some X.stack
 stk:X.stack=X.outer∨(X.stack=X.env::X.outer∧X.env.frame=some X.env.locals)
 exf:∀b∈X.ex,b≠X.env.locals∧∀x c,X.env.cells.lookup x=some c→c≠b
 bs:∀b o,X.base.get? b=some o→X.s₀.heap.get? b=some o∧X.H₀ b=none
 bsz:X.base.objs.size≤X.s₀.heap.objs.size
 noex:∀b o,X.base.get? b=some o→b∉X.ex
 exfs:∀b∈X.ex,b∉X.fs
 funs:X.s₀.heap.FunFrames X.base X.outer
 frf:∀b∈X.fs,X.H₀ b=none
structure av(X:Cx)(pins:List (Addr×Obj))(σ:List (Option V))(H:Hp)(s:Shared):Prop where
 ok:X.Ok
 os:s.os=X.s₀.os
 bare:AllBare s.gens
 base:Un X.fs X.ex X.H₀ H X.s₀.heap s.heap
 loc:∃m,s.heap.Ns X.env.locals m∧∀(i:Nat) (x:Str) (v:V),X.N[i]?=some x→σ[i]?=some (some v)→z7 X.env.scope x→∃u,aK v u∧An X.env s.heap m x u
 cell:∀x c,X.env.cells.lookup x=some c→∃v,s.heap.IsCell c v
 free:H X.env.locals=none
 freeC:∀x c,X.env.cells.lookup x=some c→H c=none
 pin:∀p∈X.pn++pins,s.heap.get? p.1=some p.2∧H p.1=none∧p.1≠X.env.locals∧p.1∉X.fs∧∀v,p.2.data≠.cell v
 hok:iq X.prog X.w H s.heap
 len:σ.length=X.N.length
section
variable {X:Cx} {pins:List (Addr×Obj)} {σ:List (Option V)} {H H':Hp} {s:Shared} {h':Heap}
theorem Cx.Ok.nofr(ok:X.Ok){b:Addr}{o:Obj}(e:X.base.get? b=some o):b∉X.fs:=fun hb=>by
 have:=(ok.funs.mem hb).1
 rw [e]at this;cases this
theorem av.bs(I:av X pins σ H s):∀b o,X.base.get? b=some o→s.heap.get? b=some o∧H b=none:=fun b o e=>
 ⟨I.base.keep b o (I.ok.bs b o e).1 (I.ok.bs b o e).2 (I.ok.nofr e) (I.ok.noex b o e),I.base.free b o (I.ok.bs b o e).1 (I.ok.bs b o e).2 (I.ok.noex b o e)⟩
theorem av.bk(I:av X pins σ H s):∀b o,X.base.get? b=some o→s.heap.get? b=some o:=fun b o e=>(I.bs b o e).1
theorem av.mod(I:av X pins σ H s):Mod X.K X.mg X.base:=I.ok.mod
theorem av.kIn(I:av X pins σ H s):X.K.In s.heap:=I.ok.mod.kin.keeps I.bk
theorem av.nolimit(I:av X pins σ H s):s.heap.NoLimit:=I.ok.mod.nolimit.keeps I.bk
theorem av.lt(I:av X pins σ H s):X.env.locals < s.heap.objs.size:=let ⟨_,hn,_⟩:=I.loc;hn.lt
theorem av.sz(I:av X pins σ H s):X.s₀.heap.objs.size≤s.heap.objs.size:=Nat.le_trans I.ok.above (Nat.le_of_lt I.lt)
theorem av.nofs(I:av X pins σ H s){a:Addr}(h:s.heap.objs.size≤a):a∉X.fs:=fun hb=>by
 obtain⟨_,o,ho,_⟩:=I.ok.funs.mem hb
 exact absurd (Nat.lt_of_lt_of_le (Heap.lt_size ho) (Nat.le_trans I.sz h)) (Nat.lt_irrefl _)
theorem av.cne(I:av X pins σ H s):∀x c,X.env.cells.lookup x=some c→c≠X.env.locals:=fun x c e z=>by
 obtain⟨v,o,ho,hd⟩:=I.cell x c e
 obtain⟨m,⟨o',es,ep,ho',hd',_⟩,_⟩:=I.loc
 rw [z,ho']at ho;cases ho;rw [hd']at hd;cases hd
theorem av.funs(I:av X pins σ H s):s.heap.FunFrames X.base X.outer:=by
 have all:∀(l:List Env),(∀b∈lE l,b∈X.fs)→X.s₀.heap.FunFrames X.base l→s.heap.FunFrames X.base l:=by
  intro l
  induction l with
  | nil=>intro _ _;trivial
  | cons env r ih=>
   intro hs hl
   obtain⟨hk,⟨L,o,hf,hn,ho,hd⟩,hr⟩:=hl
   have hL:L∈X.fs:=hs L (by unfold lE;rw [List.filterMap_cons,hf];exact List.mem_cons_self)
   obtain⟨sl,e⟩:=I.base.slot L o ho (I.ok.frf L hL) hL fun z=>I.ok.exfs L z hL
   exact⟨hk,⟨L,_,hf,hn,e,hd⟩,ih (fun b hb=>hs b (by unfold lE;rw [List.filterMap_cons,hf];exact List.mem_cons_of_mem _ hb)) hr⟩
 exact all X.outer (fun _ hb=>hb) I.ok.funs
theorem av.stack(I:av X pins σ H s):s.heap.FunFrames X.base X.stack:=by
 rcases I.ok.stk with e | ⟨e,hf⟩
 ·rw [e];exact I.funs
 ·rw [e]
  obtain⟨m,hn,_⟩:=I.loc
  refine .cons (by rw [I.ok.kind];decide) hf hn ?_ I.funs
  exact Heap.get?_none_of_le (Nat.le_trans I.ok.bsz I.ok.above)
theorem av.stkSub(I:av X pins σ H s):∀b∈lE X.stack,b∈X.env.locals::X.fs:=fun b hb=>by
 rcases I.ok.stk with e | ⟨e,hf⟩
 ·rw [e]at hb;exact List.mem_cons_of_mem _ hb
 ·rw [e]at hb
  unfold lE at hb
  rw [List.filterMap_cons,hf]at hb
  exact hb
theorem av.stkFree(I:av X pins σ H s):∀b∈lE X.stack,H b=none:=fun b hb=>by
 rcases List.mem_cons.mp (I.stkSub b hb)with e | hb
 ·rw [e];exact I.free
 ·obtain⟨_,o,ho,_⟩:=I.ok.funs.mem hb
  exact I.base.free b o ho (I.ok.frf b hb) fun z=>I.ok.exfs b z hb
theorem av.step{g':Array GenState}{t':Nat}{d':Drawn}{ch:List Addr}(I:av X pins σ H s)
  (hch:∀b∈ch,(b∈X.ex∨X.s₀.heap.objs.size≤b)∧b≠X.env.locals∧(∀x c,X.env.cells.lookup x=some c→c≠b)∧∀p∈X.pn++pins,p.1≠b)
  (keep:∀b o,b≠X.env.locals→b∉X.fs→b∉ch→s.heap.get? b=some o→H b=none→h'.get? b=some o)
  (slot:∀b o,b≠X.env.locals→b∈X.fs→b∉ch→s.heap.get? b=some o→H b=none→∃sl,h'.get? b=some { o with slots:=sl }) (free:∀b o,b∉ch→s.heap.get? b=some o→H b=none→H' b=none)
  (there:∀b o,b∉ch→s.heap.get? b=some o→∃o',h'.get? b=some o')
  (tups:∀b xs,H b=some (.tup xs)→H' b=some (.tup xs)) (frzs:∀b o u,H b=some (.frz o u)→H' b=some (.frz o u)) (tbls:∀b ps,H b=some (.tbl ps)→∃more,H' b=some (.tbl (ps++more)))
  (ns:∀m,s.heap.Ns X.env.locals m→h'.Ns X.env.locals m) (hok:iq X.prog X.w H' h') (hg:AllBare g') :
  av X pins σ H' { s with heap:=h',gens:=g',drawn:=d',toks:=t' }:=by
 have neL:∀b o,X.s₀.heap.get? b=some o→b≠X.env.locals:=fun b o e=>Nat.ne_of_lt (Nat.lt_of_lt_of_le (Heap.lt_size e) I.ok.above)
 have neC:∀b o,X.s₀.heap.get? b=some o→b∉X.ex→b∉ch:=fun b o e hx hb=>by
  rcases(hch b hb).1 with z | z
  ·exact hx z
  ·exact absurd (Nat.lt_of_lt_of_le (Heap.lt_size e) z) (Nat.lt_irrefl _)
 have cellK:∀x c,X.env.cells.lookup x=some c→∀v,s.heap.IsCell c v→h'.IsCell c v:=fun x c e v ⟨o,ho,hd⟩=>by
  have nch:c∉ch:=fun z=>(hch c z).2.2.1 x c e rfl
  by_cases hc:c∈X.fs
  ·obtain⟨sl,q⟩:=slot c o (I.cne x c e) hc nch ho (I.freeC x c e)
   exact⟨_,q,hd⟩
  ·exact⟨o,keep c o (I.cne x c e) hc nch ho (I.freeC x c e),hd⟩
 refine⟨I.ok,I.os,hg,⟨fun b o e n hb hx=>?_,fun b o e n hb hx=>?_,fun b o e n hx=>?_,fun b o e hx=>?_,fun b xs e=>tups b xs (I.base.tups b xs e),fun b o xs e=>frzs b o xs (I.base.frzs b o xs e),fun b ps e=>?_⟩,?_,fun x c e=>?_,?_,fun x c e=>?_,fun p hp=>?_,hok,I.len⟩
 ·exact keep b o (neL b o e) hb (neC b o e hx) (I.base.keep b o e n hb hx) (I.base.free b o e n hx)
 ·obtain⟨sl,e1⟩:=I.base.slot b o e n hb hx
  obtain⟨sl',e2⟩:=slot b _ (neL b o e) hb (neC b o e hx) e1 (I.base.free b o e n hx)
  exact⟨sl',e2⟩
 ·obtain⟨o',e1⟩:=I.base.there b o e hx
  exact free b o' (neC b o e hx) e1 (I.base.free b o e n hx)
 ·obtain⟨o',e1⟩:=I.base.there b o e hx
  exact there b o' (neC b o e hx) e1
 ·obtain⟨m1,e1⟩:=I.base.tbls b ps e
  obtain⟨m2,e2⟩:=tbls b _ e1
  exact⟨m1++m2,by rw [e2,Array.append_assoc]⟩
 ·obtain⟨m,hn,hl⟩:=I.loc
  refine⟨m,ns m hn,fun i x v e1 e2 e3=>?_⟩
  obtain⟨u,r,l⟩:=hl i x v e1 e2 e3
  refine⟨u,r,?_⟩
  rcases l with l | ⟨k,c,e,z⟩
  ·exact .inl l
  ·exact .inr ⟨k,c,e,cellK x c e _ z⟩
 ·obtain⟨v,z⟩:=I.cell x c e
  exact⟨v,cellK x c e v z⟩
 ·obtain⟨m,⟨o,_,_,ho,_⟩,_⟩:=I.loc
  exact free _ o (fun z=>(hch _ z).2.1 rfl) ho I.free
 ·obtain⟨v,o,ho,hd⟩:=I.cell x c e
  exact free c o (fun z=>(hch c z).2.2.1 x c e rfl) ho (I.freeC x c e)
 ·obtain⟨e,n,ne,nf,d⟩:=I.pin p hp
  have nch:p.1∉ch:=fun z=>(hch p.1 z).2.2.2 p hp rfl
  exact⟨keep p.1 p.2 ne nf nch e n,free p.1 p.2 nch e n,ne,nf,d⟩
theorem av.un{t':Nat}(I:av X pins σ H s)(u:Un X.fs [] H H' s.heap h')(hok:iq X.prog X.w H' h'):av X pins σ H' { s with heap:=h',toks:=t' }:=by
 obtain⟨m,⟨o,es,ep,ho,r⟩,_⟩:=id I.loc
 obtain⟨sl,hL⟩:=u.any ho I.free (by simp)
 exact I.step (g':=s.gens) (d':=s.drawn) (ch:=[]) (fun _ z=>nomatch z) (fun b o _ hb _ e n=>u.keep b o e n hb (by simp)) (fun b o _ hb _ e n=>u.slot b o e n hb (by simp)) (fun b o _ e n=>u.free b o e n (by simp)) (fun b o _ e=>u.there b o e (by simp)) u.tups u.frzs u.tbls (fun m' hm=>by
  obtain⟨o',es',ep',ho',r'⟩:=hm
  rw [ho]at ho';cases ho'
  exact⟨_,es',ep',hL,r'⟩) hok I.bare
theorem av.call{g':Array GenState}{t':Nat}{d':Drawn}{ch:List Addr}(I:av X pins σ H s)(u:Un (lE X.stack) ch H H' s.heap h')(hok:iq X.prog X.w H' h')(hg:AllBare g')
  (hch:∀b∈ch,(b∈X.ex∨X.s₀.heap.objs.size≤b)∧b≠X.env.locals∧(∀x c,X.env.cells.lookup x=some c→c≠b)∧∀p∈X.pn++pins,p.1≠b) :
  av X pins σ H' { s with heap:=h',gens:=g',drawn:=d',toks:=t' }:=by
 obtain⟨m,⟨o,es,ep,ho,r⟩,_⟩:=id I.loc
 obtain⟨sl,hL⟩:=u.any ho I.free fun z=>(hch _ z).2.1 rfl
 exact I.step (ch:=ch) hch (fun b o hL hb hc e n=>u.keep b o e n (fun z=>(List.mem_cons.mp (I.stkSub b z)).elim hL hb) hc) (fun b o _ _ hc e n=>u.any e n hc) (fun b o hc e n=>u.free b o e n hc) (fun b o hc e=>u.there b o e hc) u.tups u.frzs u.tbls (fun m' hm=>by
  obtain⟨o',es',ep',ho',r'⟩:=hm
  rw [ho]at ho';cases ho'
  exact⟨_,es',ep',hL,r'⟩) hok hg
theorem av.turned{t':Nat}{it:Addr}(I:av X pins σ H s)(k:∀b o,b≠it→s.heap.get? b=some o→h'.get? b=some o)(hn:H it=none)(hL:it≠X.env.locals)
  (h1:it∈X.ex∨X.s₀.heap.objs.size≤it) (h2:∀x c,X.env.cells.lookup x=some c→c≠it) (h3:∀p∈X.pn++pins,p.1≠it):av X pins σ H { s with heap:=h',toks:=t' }:=by
 have nit:∀b u,H b=some u→b≠it:=fun b u e z=>by rw [z,hn]at e;cases e
 refine I.step (g':=s.gens) (d':=s.drawn) (ch:=[it]) (fun b hb=>?_) (fun b o _ _ hc e _=>k b o (fun z=>hc (by simp [z])) e) (fun b o _ _ hc e _=>⟨o.slots,k b o (fun z=>hc (by simp [z])) e⟩) (fun _ _ _ _ n=>n)
  (fun b o hc e=>⟨o,k b o (fun z=>hc (by simp [z])) e⟩) (fun _ _ e=>e) (fun _ _ _ e=>e) (fun b ps e=>⟨#[],by rw [e];simp⟩) (fun m hm=>?_) (fun b u e=>?_) I.bare
 ·have e:b=it:=by simpa using hb
  subst e
  exact⟨h1,hL,h2,h3⟩
 ·obtain⟨o,es,ep,ho,r⟩:=hm
  exact⟨o,es,ep,k _ o (Ne.symm hL) ho,r⟩
 ·refine(I.hok b u e).stay (fun c v hc q=>k c v ?_ q) (fun _ q=>q) fun _ _ q=>q
  rcases hc with z | z
  ·rw [z];exact nit b u e
  ·exact nit c _ z
theorem av.tok(I:av X pins σ H s)(t:Nat):av X pins σ H { s with toks:=t }:=I.un (h':=s.heap) (t':=t) Un.refl I.hok
theorem av.kept{t':Nat}(I:av X pins σ H s)(k:∀b u,s.heap.get? b=some u→h'.get? b=some u):av X pins σ H { s with heap:=h',toks:=t' }:=I.un (Un.kept k) (I.hok.kept k)
theorem av.laid{a:Addr}{o:HO}{t':Nat}(I:av X pins σ H s)(k:∀b u,s.heap.get? b=some u→h'.get? b=some u)(hp:s.heap.objs.size≤a)(new:cy X.prog X.w (upd H a o) h' a o):
  av X pins σ (upd H a o) { s with heap:=h',toks:=t' }:=I.un (Un.laid k hp (I.hok.fresh hp)) (I.hok.laid k hp new)
theorem av.write{x e:Addr}{o:HO}{t':Nat}(I:av X pins σ H s)(mu:z6 (H x))(he:e=x∨H e=some (.own x))(k:∀b u,b≠e→s.heap.get? b=some u→h'.get? b=some u)(heo:∃u,h'.get? e=some u)
  (new:cy X.prog X.w (upd H x o) h' x o):av X pins σ (upd H x o) { s with heap:=h',toks:=t' }:=I.un (Un.write mu he k heo) (I.hok.write mu he k heo new)
theorem av.pins_of{pins':List (Addr×Obj)}(I:av X pins σ H s)(h:∀p∈pins',s.heap.get? p.1=some p.2∧H p.1=none∧p.1≠X.env.locals∧p.1∉X.fs∧∀v,p.2.data≠.cell v):av X pins' σ H s:=
 ⟨I.ok,I.os,I.bare,I.base,I.loc,I.cell,I.free,I.freeC,fun p hp=>(List.mem_append.mp hp).elim (fun z=>I.pin p (List.mem_append_left _ z)) (h p),I.hok,I.len⟩
theorem oR{N:List Str}(hN:N.Nodup){i j:Nat}{x:Str}(a:N[i]?=some x)(b:N[j]?=some x):i=j:=by
 obtain⟨h1,e1⟩:=List.getElem?_eq_some_iff.mp a
 obtain⟨h2,e2⟩:=List.getElem?_eq_some_iff.mp b
 exact(List.getElem_inj hN).mp (e1.trans e2.symm)
theorem mH{M:Model}{A:Around}{E:Value→Shared→Prop}{i:Nat}{x:Str}{v:V}{u:Value}{Q:Unit→Shared→Prop}(I:av X pins σ H s)(hN:X.N.Nodup)(hi:X.N[i]?=some x)(hx:yO X.env.scope x)(r:aK v u)
  (h:∀s',av X pins (σ.set i (some v)) H s'→(∃a,Heap.SameBut a s.heap s'.heap∧(a=X.env.locals∨X.env.cells.lookup x=some a))→Q () s') (hf:X.fn x=true∨X.env.scope.names.lookup x=some .local:=by first | exact .inl rfl | exact .inr rfl | assumption):wpAny M A (storeName X.env x u) Q E s:=by
 obtain⟨m,hn,hl⟩:=id I.loc
 have hcls:(X.env.scope.kind == .class || (X.env.scope.kind == .module && X.env.locals != X.env.globals))=false:=by rw [I.ok.kind];rfl
 have hiσ:i < σ.length:=by rw [I.len];exact(List.getElem?_eq_some_iff.mp hi).1
 have cne:=I.cne
 have tracked:∀{a:Addr} {h':Heap},(∃o,s.heap.get? a=some o∧H a=none)→Heap.SameBut a s.heap h'→iq X.prog X.w H h':=fun {a h'} ha hs b ob e=>by
  obtain⟨_,_,hfree⟩:=ha
  refine(I.hok b ob e).stay (fun c w' hc q=>(hs.2 c ?_).trans q) (fun _ q=>q) fun _ _ q=>q
  rintro rfl
  rcases hc with rfl | hc
  ·rw [hfree]at e;cases e
  ·rw [hfree]at hc;cases hc
 rcases hx with hk | hk
 ·refine wpAny_storeName_local hk hn (fun h' hn' hs=>?_) hcls
  obtain⟨oL,_,_,hoL,_⟩:=id hn
  refine h _ ⟨I.ok,I.os,I.bare,⟨fun b o e n hb hx=>?_,fun b o e n hb hx=>?_,I.base.free,fun b o e hx=>?_,I.base.tups,I.base.frzs,I.base.tbls⟩,⟨_,hn',fun j y v' e1 e2 e3=>?_⟩,fun y c e=>?_,I.free,I.freeC,fun p hp=>?_,tracked ⟨oL,hoL,I.free⟩ hs,by simpa using I.len⟩ ⟨_,hs,.inl rfl⟩
  ·exact(hs.2 b (Nat.ne_of_lt (Nat.lt_of_lt_of_le (Heap.lt_size e) I.ok.above))).trans (I.base.keep b o e n hb hx)
  ·obtain⟨sl,e1⟩:=I.base.slot b o e n hb hx
   exact⟨sl,(hs.2 b (Nat.ne_of_lt (Nat.lt_of_lt_of_le (Heap.lt_size e) I.ok.above))).trans e1⟩
  ·obtain⟨o',e1⟩:=I.base.there b o e hx
   exact⟨o',(hs.2 b (Nat.ne_of_lt (Nat.lt_of_lt_of_le (Heap.lt_size e) I.ok.above))).trans e1⟩
  ·by_cases hj:j=i
   ·subst hj
    rw [hi]at e1;cases e1
    rw [List.getElem?_set_self hiσ]at e2
    cases e2
    exact⟨u,r,.inl ⟨hk,by simp⟩⟩
   ·rw [List.getElem?_set_ne (Ne.symm hj)]at e2
    obtain⟨u',r',q⟩:=hl j y v' e1 e2 e3
    refine⟨u',r',?_⟩
    rcases q with⟨k,e⟩ | ⟨k,c,e,z⟩
    ·refine .inl ⟨k,?_⟩
     have:y≠x:=fun e=>hj (oR hN e1 (e▸hi))
     simp [this,e]
    ·exact .inr ⟨k,c,e,z.sameBut hs (cne y c e)⟩
  ·obtain⟨w',z⟩:=I.cell y c e
   exact⟨w',z.sameBut hs (cne y c e)⟩
  ·obtain⟨e,n,ne,nf,d⟩:=I.pin p hp
   exact⟨(hs.2 p.1 ne).trans e,n,ne,nf,d⟩
 ·have hfn:X.fn x=true:=by
   rcases hf with z | z
   ·exact z
   ·rw [z]at hk;cases hk
  obtain⟨c,hc⟩:=I.ok.has x (.inl hk)
  obtain⟨w',z⟩:=I.cell x c hc
  refine wpAny_storeName_cell I.ok.kind hk hc z (fun h' hc' hs=>?_)
  obtain⟨oc,hoc,hocd⟩:=id z
  refine h { s with heap:=h' } ⟨I.ok,I.os,I.bare,⟨fun b o e n hb hx=>?_,fun b o e n hb hx=>?_,I.base.free,fun b o e hx=>?_,I.base.tups,I.base.frzs,I.base.tbls⟩,⟨m,hn.sameBut hs (Ne.symm (cne x c hc)),fun j y v' e1 e2 e3=>?_⟩,fun y c' e=>?_,I.free,I.freeC,fun p hp=>?_,tracked ⟨oc,hoc,I.freeC x c hc⟩ hs,by simpa using I.len⟩ ⟨c,hs,.inr hc⟩
  ·exact(hs.2 b (Nat.ne_of_lt (Nat.lt_of_lt_of_le (Heap.lt_size e) (I.ok.cab x c hfn hc)))).trans (I.base.keep b o e n hb hx)
  ·obtain⟨sl,e1⟩:=I.base.slot b o e n hb hx
   exact⟨sl,(hs.2 b (Nat.ne_of_lt (Nat.lt_of_lt_of_le (Heap.lt_size e) (I.ok.cab x c hfn hc)))).trans e1⟩
  ·obtain⟨o',e1⟩:=I.base.there b o e hx
   exact⟨o',(hs.2 b (Nat.ne_of_lt (Nat.lt_of_lt_of_le (Heap.lt_size e) (I.ok.cab x c hfn hc)))).trans e1⟩
  ·by_cases hj:j=i
   ·subst hj
    rw [hi]at e1;cases e1
    rw [List.getElem?_set_self hiσ]at e2
    cases e2
    exact⟨u,r,.inr ⟨.inl hk,c,hc,hc'⟩⟩
   ·rw [List.getElem?_set_ne (Ne.symm hj)]at e2
    obtain⟨u',r',q⟩:=hl j y v' e1 e2 e3
    refine⟨u',r',?_⟩
    rcases q with q | ⟨k,c',e,z'⟩
    ·exact .inl q
    ·refine .inr ⟨k,c',e,z'.sameBut hs ?_⟩
     rintro rfl
     exact hj (oR hN e1 (I.ok.inj _ _ _ e hc▸hi))
  ·by_cases hcc:c'=c
   ·subst hcc;exact⟨_,hc'⟩
   ·obtain⟨w2,z2⟩:=I.cell y c' e
    exact⟨w2,z2.sameBut hs hcc⟩
  ·obtain⟨e,n,ne,nf,d⟩:=I.pin p hp
   refine⟨(hs.2 p.1 ?_).trans e,n,ne,nf,d⟩
   intro q
   rw [q,hoc]at e
   have q':oc=p.2:=Option.some.inj e
   exact d w' (by rw [←q'];exact hocd)
theorem kZ{M:Model}{A:Around}{E:Value→Shared→Prop}{i:Nat}{x:Str}{v:V}{u:Value}{Q:Unit→Shared→Prop}(I:av X pins σ H s)(hN:X.N.Nodup)(hi:X.N[i]?=some x)(hx:yO X.env.scope x)(r:aK v u)
  (h:∀s',av X pins (σ.set i (some v)) H s'→Q () s') (hf:X.fn x=true∨X.env.scope.names.lookup x=some .local:=by first | exact .inl rfl | exact .inr rfl | assumption):wpAny M A (storeName X.env x u) Q E s:=
 mH I hN hi hx r (fun s' I' _=>h s' I') hf
theorem av.call'{s':Shared}{ch:List Addr}(I:av X pins σ H s)(ho:s'.os=s.os)(u:Un (lE X.stack) ch H H' s.heap s'.heap)(hok:iq X.prog X.w H' s'.heap)(hg:AllBare s'.gens)
  (hch:∀b∈ch,(b∈X.ex∨X.s₀.heap.objs.size≤b)∧b≠X.env.locals∧(∀x c,X.env.cells.lookup x=some c→c≠b)∧∀p∈X.pn++pins,p.1≠b):av X pins σ H' s':=by
 obtain⟨h',g',d',t',o'⟩:=s'
 have e:o'=s.os:=ho
 subst e
 exact I.call (g':=g') (t':=t') (d':=d') u hok hg hch
end
abbrev XK:=Value→Option Addr→Hp→Prop
abbrev St:=List (Option V)
abbrev VK:=V→Hp→Prop
abbrev TE:=St→Hp→VK→Prop
abbrev TT:=St→Hp→(Bool→Hp→Prop)→Prop
abbrev TA:=St→Hp→(List V→Hp→Prop)→Prop
structure gD where
 nx:St→Hp→Prop
 rt:VK
 bk:St→Hp→Prop:=fun _ _=>False
 ct:St→Hp→Prop:=fun _ _=>False
abbrev TS:=gD→St→Hp→Prop
def EP(X:Cx)(pins:List (Addr×Obj))(σ:St)(Q:VK)(u:Value)(s':Shared):Prop:=∃v H',av X pins σ H' s'∧aK v u∧Q v H'
def TP(X:Cx)(pins:List (Addr×Obj))(σ:St)(Q:Bool→Hp→Prop)(b:Bool)(s':Shared):Prop:=∃H',av X pins σ H' s'∧Q b H'
def AP(X:Cx)(pins:List (Addr×Obj))(σ:St)(Q:List V→Hp→Prop)(us:List Value)(s':Shared):Prop:=∃vs H',av X pins σ H' s'∧aA vs us∧Q vs H'
def SP(X:Cx)(pins:List (Addr×Obj))(D:gD)(f:Flow)(s':Shared):Prop:=
 match f with
 | .next=>∃σ' H',av X pins σ' H' s'∧D.nx σ' H'
 | .brk=>∃σ' H',av X pins σ' H' s'∧D.bk σ' H'
 | .cont=>∃σ' H',av X pins σ' H' s'∧D.ct σ' H'
 | .ret u=>∃v σ' H',av X pins σ' H' s'∧aK v u∧D.rt v H'
def PE(X:Cx)(e:Expr)(t:TE):Prop:=
 ∀(pins:List (Addr×Obj)) (s:Shared) (σ:St) (H:Hp) (Q:VK),av X pins σ H s→t σ H Q→wpAny (model X.prog X.w) X.A (eval e X.env) (EP X pins σ Q) X.xe s
def PT(X:Cx)(e:Expr)(t:TT):Prop:=
 ∀(pins:List (Addr×Obj)) (s:Shared) (σ:St) (H:Hp) (Q:Bool→Hp→Prop),av X pins σ H s→t σ H Q→wpAny (model X.prog X.w) X.A (isTrue e X.env (eval e X.env)) (TP X pins σ Q) X.xe s
def PW(X:Cx)(e:Expr)(t:TT):Prop:=
 ∀(whole:Sem Value) (pins:List (Addr×Obj)) (s:Shared) (σ:St) (H:Hp) (Q:Bool→Hp→Prop),av X pins σ H s→t σ H Q→wpAny (model X.prog X.w) X.A (isTrue e X.env whole) (TP X pins σ Q) X.xe s
theorem PW.pt{X:Cx}{e:Expr}{t:TT}(h:PW X e t):PT X e t:=h _
def PA(X:Cx)(es:List Expr)(t:TA):Prop:=
 ∀(pos:Pos) (pins:List (Addr×Obj)) (s:Shared) (σ:St) (H:Hp) (Q:List V→Hp→Prop),av X pins σ H s→t σ H Q→wpAny (model X.prog X.w) X.A (spliced (backTo pos (starEach es X.env))) (AP X pins σ Q) X.xe s
def PS(X:Cx)(st:Stmt)(t:TS):Prop:=
 ∀(pins:List (Addr×Obj)) (s:Shared) (σ:St) (H:Hp) (D:gD),av X pins σ H s→t D σ H→wpAny (model X.prog X.w) X.A (exec st X.env) (SP X pins D) X.xe s
def rR(X:Cx)(st:List Stmt)(t:TS):Prop:=
 ∀(pins:List (Addr×Obj)) (s:Shared) (σ:St) (H:Hp) (D:gD),av X pins σ H s→t D σ H→wpAny (model X.prog X.w) X.A (execs st X.env) (SP X pins D) X.xe s
theorem cj{α:Type}{t:Sem α}{Q Q':α→Shared→Prop}{M:Model}{A:Around}{E:Value→Shared→Prop}{s:Shared}(h:wpAny M A t Q E s)(hQ:∀a s,Q a s→Q' a s):wpAny M A t Q' E s:=wpAny_mono h hQ fun _ _ x=>x
end L2
namespace L2
open PySem PySem.Spec PyProof.Rows
section
variable {X:Cx}
theorem bin{a b:Expr}{ta tb:TE}(ha:PE X a ta)(hb:PE X b tb){pins:List (Addr×Obj)}{s:Shared}{σ:St}{H:Hp}{R:V→V→Hp→Prop}(I:av X pins σ H s)(h:ta σ H fun x H1=>tb σ H1 fun y H2=>R x y H2)
  {α:Type} {Q:α→Shared→Prop} {f:Value→Value→Sem α}
  (hf:∀v u s2 x y H2,av X pins σ H2 s2→aK x v→aK y u→R x y H2→wpAny (model X.prog X.w) X.A (f v u) Q X.xe s2) :
  wpAny (model X.prog X.w) X.A (eval a X.env) (fun v s₁=>wpAny (model X.prog X.w) X.A (eval b X.env) (fun u s₂=>wpAny (model X.prog X.w) X.A (f v u) Q X.xe s₂) X.xe s₁) X.xe s:=by
 refine cj (ha pins s σ H _ I h) fun v s1 ⟨x,H1,I1,r1,q1⟩=>?_
 refine cj (hb pins s1 σ H1 _ I1 q1) fun u s2 ⟨y,H2,I2,r2,q2⟩=>?_
 exact hf v u s2 x y H2 I2 r1 r2 q2
def jw(i:Nat):TE:=fun σ H Q=>∃v,σ[i]?=some (some v)∧Q v H
def tC(v:V):TE:=fun _ H Q=>Q v H
theorem yn{i:Nat}{x:Str}{pos:Pos}(hN:X.N[i]?=some x)(hv:z7 X.env.scope x)(hd:(x == ("__debug__":Str))=false:=by decide)(hcd:(x == ("__classdict__":Str))=false:=by decide):PE X (.Name x pos) (jw i):=by
 intro pins s σ H Q I h
 obtain⟨v,e,h⟩:=h
 obtain⟨m,hn,hl⟩:=I.loc
 obtain⟨u,r,l⟩:=hl i x v hN e hv
 have fin:EP X pins σ Q u s:=⟨v,H,I,r,h⟩
 rcases l with⟨hk,hm⟩ | ⟨hk,c,hc,hcell⟩
 ·exact wpAny_Name (wpAny_loadName_local I.ok.kind hk hn hm fin) hd
 ·rcases hk with hk | hk
  ·exact wpAny_Name (wpAny_loadName_cell I.ok.kind hk hc hcell fin) hd
  ·exact wpAny_Name (wpAny_loadName_free I.ok.kind hk hc hcell fin hcd) hd
theorem ah{i j pos}:PE X (.Constant (.int i) j pos) (tC (.int i)):=fun _ _ _ H _ I h=>wpAny_Constant_int ⟨.int i,H,I.tok _,⟨_,rfl⟩,h⟩
theorem oX{b j pos}:PE X (.Constant (.bool b) j pos) (tC (.bl b)):=fun _ _ _ H _ I h=>Constant_bool ⟨.bl b,H,I,rfl,h⟩
theorem eS{j pos}:PE X (.Constant .none j pos) (tC .non):=fun _ _ _ H _ I h=>Constant_none ⟨.non,H,I,rfl,h⟩
theorem fv{x j pos}:PE X (.Constant (.str x) j pos) (tC (.str x)):=fun _ _ _ H _ I h=>Calls.Constant_str ⟨.str x,H,I.tok _,⟨_,rfl⟩,h⟩
def Gl(X:Cx)(x:Str):Prop:=X.env.kindOf x=some .globalImplicit
theorem jY{E:Value→Shared→Prop}{pins:List (Addr×Obj)}{s:Shared}{σ:St}{H:Hp}{x:Str}{u:Value}{pos:Pos}{Q:Value→Shared→Prop}(I:av X pins σ H s)(hg:Gl X x)(hm:X.mg x=some u)(h:Q u s)
  (hd:(x == ("__debug__":Str))=false:=by decide):wpAny (model X.prog X.w) X.A (eval (.Name x pos) X.env) Q E s:=
 Calls.Name_function_global I.ok.kind hg (Calls.loadGlobal_global (by rw [I.ok.glob];exact I.mod.glob.keeps I.bk) hm h) hd
theorem dS{E:Value→Shared→Prop}{pins:List (Addr×Obj)}{s:Shared}{σ:St}{H:Hp}{x:Str}{u:Value}{pos:Pos}{Q:Value→Shared→Prop}(I:av X pins σ H s)(hg:Gl X x)(hm:X.mg x=none)(hv:bootBuiltins x=some u)(h:Q u s)
  (hn:x≠"__name__":=by decide) (hd:(x == ("__debug__":Str))=false:=by decide):wpAny (model X.prog X.w) X.A (eval (.Name x pos) X.env) Q E s:=by
 obtain⟨mb,h1,h2⟩:=I.mod.blt
 exact Calls.Name_function_global I.ok.kind hg (Calls.loadGlobal_builtin (by rw [I.ok.glob];exact I.mod.glob.keeps I.bk) hm (by rw [I.ok.blt];exact h1.keeps I.bk) ((h2 x hn).trans hv) h) hd
theorem wK{x:Str}{v:V}{u:Value}{pos:Pos}(hg:Gl X x)(hm:X.mg x=some u)(r:aK v u)(hd:(x == ("__debug__":Str))=false:=by decide):PE X (.Name x pos) (tC v):=
 fun _ _ _ H _ I h=>jY I hg hm ⟨v,H,I,r,h⟩ hd
theorem rA{x:Str}{v:V}{u:Value}{pos:Pos}(hg:Gl X x)(hm:X.mg x=none)(hv:bootBuiltins x=some u)(r:aK v u)(hn:x≠"__name__":=by decide)(hd:(x == ("__debug__":Str))=false:=by decide):PE X (.Name x pos) (tC v):=
 fun _ _ _ H _ I h=>dS I hg hm hv ⟨v,H,I,r,h⟩ hn hd
variable {a b:Expr} {ta tb:TE} {pos:Pos}
variable {tA tB':TT} {rest:List Expr}
def fC(t u:TT):TT:=fun σ H Q=>t σ H fun c H1=>if c=true then u σ H1 Q else Q false H1
def lj(t u:TT):TT:=fun σ H Q=>t σ H fun c H1=>if c=true then Q true H1 else u σ H1 Q
def fG(t:TT):TT:=fun σ H Q=>t σ H fun c H1=>Q (!c) H1
theorem nB(ha:PT X a tA):PW X (.BoolOp .And [a] pos) tA:=by
 intro wh pins s σ H Q I h
 refine isTrue_and (cj (ha pins s σ H Q I h) fun c s1 e=>?_)
 cases c with
 | true=>exact isTrue_and_nil e
 | false=>exact e
theorem kK(ha:PT X a tA):PW X (.BoolOp .Or [a] pos) tA:=by
 intro wh pins s σ H Q I h
 refine isTrue_or (cj (ha pins s σ H Q I h) fun c s1 e=>?_)
 cases c with
 | false=>exact isTrue_or_nil e
 | true=>exact e
theorem nA(ha:PT X a tA)(hb:PW X (.BoolOp .And (b::rest) pos) tB'):PW X (.BoolOp .And (a::b::rest) pos) (fC tA tB'):=by
 intro wh pins s σ H Q I h
 refine isTrue_and (cj (ha pins s σ H _ I h) fun c s1 ⟨H1,I1,q1⟩=>?_)
 cases c with
 | true=>exact hb wh pins s1 σ H1 Q I1 q1
 | false=>exact⟨H1,I1,q1⟩
theorem kJ(ha:PT X a tA)(hb:PW X (.BoolOp .Or (b::rest) pos) tB'):PW X (.BoolOp .Or (a::b::rest) pos) (lj tA tB'):=by
 intro wh pins s σ H Q I h
 refine isTrue_or (cj (ha pins s σ H _ I h) fun c s1 ⟨H1,I1,q1⟩=>?_)
 cases c with
 | true=>exact⟨H1,I1,q1⟩
 | false=>exact hb wh pins s1 σ H1 Q I1 q1
theorem kI(ha:PT X a tA):PT X (.UnaryOp .Not a pos) (fG tA):=by
 intro pins s σ H Q I h
 exact isTrue_not (ha pins s σ H (fun c H1=>Q (!c) H1) I h)
def fE(ta tb:TE):TE:=fun σ H Q=>ta σ H fun x H1=>∃c,x=.bl c∧if c=true then tb σ H1 Q else Q (.bl false) H1
def iP(ta tb:TE):TE:=fun σ H Q=>ta σ H fun x H1=>∃c,x=.bl c∧if c=true then Q (.bl true) H1 else tb σ H1 Q
def fH(ta:TE):TE:=fun σ H Q=>ta σ H fun x H1=>∃c,x=.bl c∧Q (.bl (!c)) H1
theorem nk{op}{t:TE}(h:PE X a t):PE X (.BoolOp op [a] pos) t:=fun pins s σ H Q I hw=>BoolOp_one (h pins s σ H Q I hw)
theorem qh(ha:PE X a ta)(hb:PE X (.BoolOp .And (b::rest) pos) tb):PE X (.BoolOp .And (a::b::rest) pos) (fE ta tb):=by
 intro pins s σ H Q I h
 refine BoolOp_and (cj (ha pins s σ H _ I h) fun v s1 ⟨x,H1,I1,r1,q1⟩=>?_)
 obtain⟨c,rfl,q1⟩:=q1
 cases r1
 refine wpAny_truthy_bool ?_
 cases c with
 | true=>exact hb pins s1 σ H1 Q I1 q1
 | false=>exact⟨.bl false,H1,I1,rfl,q1⟩
theorem xE(ha:PE X a ta)(hb:PE X (.BoolOp .Or (b::rest) pos) tb):PE X (.BoolOp .Or (a::b::rest) pos) (iP ta tb):=by
 intro pins s σ H Q I h
 refine BoolOp_or (cj (ha pins s σ H _ I h) fun v s1 ⟨x,H1,I1,r1,q1⟩=>?_)
 obtain⟨c,rfl,q1⟩:=q1
 cases r1
 refine wpAny_truthy_bool ?_
 cases c with
 | false=>exact hb pins s1 σ H1 Q I1 q1
 | true=>exact⟨.bl true,H1,I1,rfl,q1⟩
theorem ym(ha:PE X a ta):PE X (.UnaryOp .Not a pos) (fH ta):=by
 intro pins s σ H Q I h
 refine UnaryOp_ (cj (ha pins s σ H _ I h) fun v s1 ⟨x,H1,I1,r1,q1⟩=>?_)
 obtain⟨c,rfl,q1⟩:=q1
 cases r1
 exact not_of (wpAny_truthy_bool ⟨.bl (!c),H1,I1,rfl,q1⟩)
def lh(t:TT)(ta tb:TE):TE:=fun σ H Q=>t σ H fun c H1=>if c=true then ta σ H1 Q else tb σ H1 Q
theorem kF{c:Expr}(hc:PT X c tA)(ha:PE X a ta)(hb:PE X b tb):PE X (.IfExp c a b pos) (lh tA ta tb):=by
 intro pins s σ H Q I h
 refine wpAny_IfExp (cj (hc pins s σ H _ I h) fun d s1 ⟨H1,I1,q1⟩=>?_)
 cases d with
 | true=>exact ha pins s1 σ H1 Q I1 q1
 | false=>exact hb pins s1 σ H1 Q I1 q1
end
end L2
namespace L2
open PySem PySem.Spec PyProof.Rows
def aL(K:PySem.W.Frag)(H:Hp)(a:Addr)(xs:List V):Prop:=
 Rd H a (.lst xs)∨
  ∃(o:Obj) (its:Array Value) (n:Nat),K.lookup a=some o∧o.cls=.type "list"∧o.dict=none∧o.data=.seq its n∧its.size≤sizeLine∧aA xs its.toList
def cq(K:PySem.W.Frag)(H:Hp)(a:Addr)(xs:List V):Prop:=
 Rd H a (.tup xs)∨
  ∃(o:Obj) (its:Array Value) (n:Nat),K.lookup a=some o∧o.cls=.type "tuple"∧o.data=.seq its n∧its.size≤sizeLine∧aA xs its.toList
def Ap:Value→Option V
 | .none=>some .non
 | .bool b=>some (.bl b)
 | .int i _=>some (.int i)
 | .str x _=>some (.str x)
 | .bytes b _=>some (.byt b)
 | .float b _=>some (.flt b)
 | .ref a=>some (.ref a)
 | .type n=>some (.ty n)
 | _=>none
theorem aK.abs{x:V}{u:Value}(r:aK x u):Ap u=some x:=by
 cases x with
 | non=>cases r;rfl
 | bl _=>cases r;rfl
 | int _=>obtain⟨t,rfl⟩:=r;rfl
 | str _=>obtain⟨t,rfl⟩:=r;rfl
 | byt _=>obtain⟨t,rfl⟩:=r;rfl
 | flt _=>obtain⟨t,rfl⟩:=r;rfl
 | ref _=>cases r;rfl
 | ty _=>cases r;rfl
theorem aK.inj{x y:V}{u:Value}(r:aK x u)(q:aK y u):x=y:=Option.some.inj (r.abs.symm.trans q.abs)
theorem aA.inj:∀{xs ys:List V} {us:List Value},aA xs us→aA ys us→xs=ys
 | _,_,_,.nil,.nil=>rfl
 | _,_,_,.cons r t,.cons r' t'=>by rw [r.inj r',aA.inj t t']
section
variable {X:Cx} {pins:List (Addr×Obj)} {σ:St} {H:Hp} {s:Shared} {a:Addr} {xs ys:List V}
theorem aL.of{K:PySem.W.Frag}(h:H a=some (.lst xs)):aL K H a xs:=.inl (.inl h)
theorem cq.of{K:PySem.W.Frag}(h:H a=some (.tup xs)):cq K H a xs:=.inl (.inl h)
theorem av.list(I:av X pins σ H s)(h:aL X.K H a xs):∃its:List Value,aA xs its∧PlainL s.heap a its.toArray∧xs.length≤sizeLine:=by
 rcases h with h | ⟨o,its,n,hk,hc,hd,hs,hz,r⟩
 ·obtain⟨z,its,n,r,e⟩:=h.ok I.hok
  exact⟨its,r,⟨_,n,e,rfl,rfl,rfl⟩,z⟩
 ·refine⟨its.toList,r,⟨o,n,I.kIn a o hk,hc,hd,by simpa using hs⟩,?_⟩
  have e:=r.length
  simp only [Array.length_toList]at e
  omega
theorem av.tuple(I:av X pins σ H s)(h:cq X.K H a xs):∃its:List Value,aA xs its∧IsTup s.heap a its.toArray∧xs.length≤sizeLine:=by
 rcases h with h | ⟨o,its,n,hk,hc,hs,hz,r⟩
 ·obtain⟨z,its,r,p⟩:=h.ok I.hok
  exact⟨its,r,p,z⟩
 ·refine⟨its.toList,r,⟨o,I.kIn a o hk,hc,n,by simpa using hs⟩,?_⟩
  have e:=r.length
  simp only [Array.length_toList]at e
  omega
theorem av.list_inj(I:av X pins σ H s)(h:aL X.K H a xs)(h':aL X.K H a ys):xs=ys:=by
 obtain⟨its,r,⟨o,n,e,_,_,d⟩,_⟩:=I.list h
 obtain⟨its',r',⟨o',n',e',_,_,d'⟩,_⟩:=I.list h'
 rw [e]at e';cases e'
 rw [d]at d'
 injection d' with d1 _
 have:its=its':=by simpa using congrArg Array.toList d1
 subst this
 exact r.inj r'
theorem av.tuple_inj(I:av X pins σ H s)(h:cq X.K H a xs)(h':cq X.K H a ys):xs=ys:=by
 obtain⟨its,r,⟨o,e,_,n,d⟩,_⟩:=I.tuple h
 obtain⟨its',r',⟨o',e',_,n',d'⟩,_⟩:=I.tuple h'
 rw [e]at e';cases e'
 rw [d]at d'
 injection d' with d1 _
 have:its=its':=by simpa using congrArg Array.toList d1
 subst this
 exact r.inj r'
end
abbrev Cx.wish(X:Cx)(E:Value→Shared→Prop):Cx:={ X with xe:=E }
abbrev Cx.nox(X:Cx):Cx:=X.wish fun _ _=>False
theorem Cx.Ok.wish{X:Cx}(ok:X.Ok)(E:Value→Shared→Prop):(X.wish E).Ok:=
 ⟨ok.mod,ok.kind,ok.glob,ok.blt,ok.above,ok.inj,ok.has,ok.cab,ok.hd,ok.frames,ok.stk,ok.exf,ok.bs,ok.bsz,ok.noex,ok.exfs,ok.funs,ok.frf⟩
theorem Cx.Ok.unwish{X:Cx}{E:Value→Shared→Prop}(ok:(X.wish E).Ok):X.Ok:=
 ⟨ok.mod,ok.kind,ok.glob,ok.blt,ok.above,ok.inj,ok.has,ok.cab,ok.hd,ok.frames,ok.stk,ok.exf,ok.bs,ok.bsz,ok.noex,ok.exfs,ok.funs,ok.frf⟩
section
variable {X:Cx} {pins:List (Addr×Obj)} {σ:St} {H:Hp} {s:Shared} {E:Value→Shared→Prop}
theorem av.wish(I:av X pins σ H s)(E:Value→Shared→Prop):av (X.wish E) pins σ H s:=⟨I.ok.wish E,I.os,I.bare,I.base,I.loc,I.cell,I.free,I.freeC,I.pin,I.hok,I.len⟩
theorem av.unwish(I:av (X.wish E) pins σ H s):av X pins σ H s:=⟨I.ok.unwish,I.os,I.bare,I.base,I.loc,I.cell,I.free,I.freeC,I.pin,I.hok,I.len⟩
theorem SP.unwish{D:gD}{f:Flow}{s':Shared}(h:SP (X.wish E) pins D f s'):SP X pins D f s':=by
 cases f with
 | next=>obtain⟨σ',H',I,q⟩:=h;exact⟨σ',H',I.unwish,q⟩
 | brk=>obtain⟨σ',H',I,q⟩:=h;exact⟨σ',H',I.unwish,q⟩
 | cont=>obtain⟨σ',H',I,q⟩:=h;exact⟨σ',H',I.unwish,q⟩
 | ret u=>obtain⟨v,σ',H',I,r,q⟩:=h;exact⟨v,σ',H',I.unwish,r,q⟩
theorem PE.nox{e:Expr}{t:TE}(h:PE X.nox e t):PE X e t:=fun pins s σ H Q I hw=>
 wpAny_mono (h pins s σ H Q (I.wish _) hw) (fun _ _ ⟨v,H',I',r,q⟩=>⟨v,H',I'.unwish,r,q⟩) fun _ _ z=>False.elim z
theorem PT.nox{e:Expr}{t:TT}(h:PT X.nox e t):PT X e t:=fun pins s σ H Q I hw=>
 wpAny_mono (h pins s σ H Q (I.wish _) hw) (fun _ _ ⟨H',I',q⟩=>⟨H',I'.unwish,q⟩) fun _ _ z=>False.elim z
theorem rR.nox{st:List Stmt}{t:TS}(h:rR X.nox st t):rR X st t:=fun pins s σ H D I hw=>
 wpAny_mono (h pins s σ H D (I.wish _) hw) (fun _ _ q=>q.unwish) fun _ _ z=>False.elim z
end
section
variable {X:Cx} {st:Stmt} {rest:List Stmt} {t u:TS} {e:Expr} {te:TE} {pos:Pos}
def cI:TS:=fun D σ H=>D.nx σ H
def du(t u:TS):TS:=fun D σ H=>t { D with nx:=u D } σ H
theorem dh:rR X [] cI:=fun _ _ σ H _ I h=>wpAny_execs_nil ⟨σ,H,I,h⟩
theorem ag(h1:PS X st t)(h2:rR X rest u):rR X (st::rest) (du t u):=by
 intro pins s σ H D I h
 refine wpAny_execs_cons (cj (h1 pins s σ H { D with nx:=u D } I h) fun f s1 q=>?_)
 cases f with
 | next=>
  obtain⟨σ',H',I',q⟩:=q
  exact h2 pins s1 σ' H' D I' q
 | ret v=>exact q
 | brk=>exact q
 | cont=>exact q
theorem ak(h1:PS X st t):rR X [st] t:=by
 intro pins s σ H D I h
 refine wpAny_execs_cons (cj (h1 pins s σ H D I h) fun f s1 q=>?_)
 cases f with
 | next=>exact wpAny_execs_nil q
 | ret v=>exact q
 | brk=>exact q
 | cont=>exact q
def fY:TS:=fun D σ H=>D.ct σ H
theorem pe:PS X (.Continue pos) fY:=fun _ _ σ H _ I h=>wpAny_Continue ⟨σ,H,I,h⟩
theorem av.quiet{pins:List (Addr×Obj)}{σ:St}{H:Hp}{s:Shared}(I:av X pins σ H s):interactive X.env=false:=by simp [interactive,I.ok.kind]
def c8(te:TE):TS:=fun D σ H=>te σ H fun _ H1=>D.nx σ H1
theorem cv(he:PE X e te)(hs:swapsWith e none pos.line X.env=pure false:=by rfl):PS X (.Expr e pos) (c8 te):=by
 intro pins s σ H D I h
 exact wpAny_Expr_any (cj (he pins s σ H _ I h) fun v s1 ⟨x,H1,I1,r1,q1⟩=>⟨σ,H1,I1,q1⟩) I.quiet hs
def fJ(te:TE):TS:=fun D σ H=>te σ H D.rt
theorem aQ(he:PE X e te):PS X (.Return (some e) pos) (fJ te):=by
 intro pins s σ H D I h
 exact wpAny_Return_some (cj (he pins s σ H _ I h) fun v s1 ⟨x,H1,I1,r1,q1⟩=>⟨x,σ,H1,I1,r1,q1⟩)
def dn:TS:=fun D _ H=>D.rt .non H
def fc(c:TT)(t u:TS):TS:=fun D σ H=>c σ H fun b H1=>if b=true then t D σ H1 else u D σ H1
theorem eJ{c:Expr}{a b:List Stmt}{tc:TT}(hc:PT X c tc)(ha:rR X a t)(hb:rR X b u):PS X (.If c a b pos) (fc tc t u):=by
 intro pins s σ H D I h
 refine wpAny_If (cj (hc pins s σ H _ I h) fun d s1 ⟨H1,I1,q1⟩=>?_)
 cases d with
 | true=>exact ha pins s1 σ H1 D I1 q1
 | false=>exact hb pins s1 σ H1 D I1 q1
def yI:TS:=fun _ _ _=>False
theorem pf:PS X st yI:=fun _ _ _ _ _ _ h=>h.elim
end
abbrev TG:=V→St→Hp→(St→Hp→Prop)→Prop
abbrev vJ:=List V→St→Hp→(St→Hp→Prop)→Prop
def PG(X:Cx)(target:Expr)(t:TG):Prop:=
 ∀(pins:List (Addr×Obj)) (s:Shared) (σ:St) (H:Hp) (v:V) (u:Value) (Q:St→Hp→Prop),av X pins σ H s→aK v u→t v σ H Q→
  wpAny (model X.prog X.w) X.A (assign target X.env u) (fun _ s'=>∃σ' H',av X pins σ' H' s'∧Q σ' H') X.xe s
def y4(X:Cx)(ts:List Expr)(t:vJ):Prop:=
 ∀(pins:List (Addr×Obj)) (s:Shared) (σ:St) (H:Hp) (vs:List V) (us:List Value) (Q:St→Hp→Prop),av X pins σ H s→aA vs us→t vs σ H Q→
  wpAny (model X.prog X.w) X.A (assignInOrder ((assignEach ts X.env).map (·.2)) us) (fun _ s'=>∃σ' H',av X pins σ' H' s'∧Q σ' H') X.xe s
abbrev vK:=V→V→V→Hp→(Hp→Prop)→Prop
def xJ(X:Cx)(t:vK):Prop:=
 ∀(pins:List (Addr×Obj)) (s:Shared) (σ:St) (H:Hp) (o i v:V) (ov iv u:Value) (Q:Hp→Prop),av X pins σ H s→aK o ov→aK i iv→aK v u→t o i v H Q→
  wpAny (model X.prog X.w) X.A (setItem ov iv u) (fun _ s'=>∃H',av X pins σ H' s'∧Q H') X.xe s
abbrev yQ:=V→V→Hp→VK→Prop
def PIp(X:Cx)(op:Operator)(t:yQ):Prop:=
 ∀(pins:List (Addr×Obj)) (s:Shared) (σ:St) (H:Hp) (x y:V) (v u:Value) (Q:VK),av X pins σ H s→aK x v→aK y u→t x y H Q→
  wpAny (model X.prog X.w) X.A (inplaceOp op v u) (EP X pins σ Q) X.xe s
section
variable {X:Cx} {pos:Pos}
def cc(i:Nat):TG:=fun v σ H Q=>Q (σ.set i (some v)) H
theorem aC{i:Nat}{x:Str}(hN:X.N.Nodup)(hi:X.N[i]?=some x)(hx:yO X.env.scope x)(hf:X.fn x=true∨X.env.scope.names.lookup x=some .local:=by first | exact .inl rfl | exact .inr rfl | assumption):PG X (.Name x pos) (cc i):=by
 intro pins s σ H v u Q I r h
 exact wpAny_assign_Name (kZ I hN hi hx r (fun s' I'=>⟨_,H,I',h⟩) hf)
def jG:vJ:=fun vs σ H Q=>vs=[]∧Q σ H
def gq(t:TG)(u:vJ):vJ:=fun vs σ H Q=>∃v r,vs=v::r∧t v σ H fun σ' H'=>u r σ' H' Q
theorem eF:y4 X [] jG:=by
 intro pins s σ H vs us Q I r h
 obtain⟨e,h⟩:=h
 subst e
 cases r
 exact assignInOrder_nil ⟨σ,H,I,h⟩
theorem aW{e:Expr}{es:List Expr}{t:TG}{u:vJ}(h1:PG X e t)(h2:y4 X es u)
  (hs:(assignEach (e::es) X.env).map (·.2)=assign e X.env::(assignEach es X.env).map (·.2):=by rfl):y4 X (e::es) (gq t u):=by
 intro pins s σ H vs us Q I r h
 obtain⟨v,vr,e1,h⟩:=h
 subst e1
 cases r with
 | cons r rr=>
  rw [hs]
  refine assignInOrder_cons (cj (h1 pins s σ H _ _ _ I r h) fun _ s1 ⟨σ1,H1,I1,q1⟩=>?_)
  exact h2 pins s1 σ1 H1 _ _ Q I1 rr q1
def jg(K:PySem.W.Frag)(n:Nat)(t:vJ):TG:=fun v σ H Q=>∃a xs,v=.ref a∧cq K H a xs∧xs.length=n∧t xs σ H Q
theorem yo{es:List Expr}{k:Nat}{t:vJ}{n:Nat}(hc:X.calm=true)(h:y4 X es t)
  (hn:(assignEach es X.env).length=n:=by rfl) (hst:(assignEach es X.env).findIdx? (·.1)=none:=by rfl):PG X (.Tuple es k pos) (jg X.K n t):=by
 intro pins s σ H v u Q I r hw
 obtain⟨a,xs,e1,hq,hl,hw⟩:=hw
 subst e1
 cases r
 obtain⟨its,rv,ht,hz⟩:=I.tuple hq
 refine assign_Tuple_tuple (I.ok.hd hc) ht (by simp [hn,←hl,rv.length]) hst fun h' hx=>?_
 have I1:av X pins σ H { s with heap:=h' }:=I.kept (t':=s.toks) fun b o e=>hx b o (Nat.ne_of_lt (Heap.lt_size e)) e
 exact h pins _ σ H xs _ Q I1 (by simpa using rv) hw
def jH(to ti:TE)(t:vK):TG:=fun v σ H Q=>to σ H fun o H1=>ti σ H1 fun i H2=>t o i v H2 fun H3=>Q σ H3
theorem nu{o i:Expr}{to ti:TE}{t:vK}(ho:PE X o to)(hi:PE X i ti)(hs:xJ X t)
  (ha:∀v,assign (.Subscript o i pos) X.env v=(do
   let ov ←holding [v] (eval o X.env)
   let iv ←holding [v,ov] (eval i X.env)
   standAt pos
   holding [v,ov,iv] (setItem ov iv v)
   release [v,ov,iv] []):=by intro _;rfl):PG X (.Subscript o i pos) (jH to ti t):=by
 intro pins s σ H v u Q I r h
 rw [ha]
 refine wpAny_bind (wpAny_holding (cj (ho pins s σ H _ I h) fun ov s1 ⟨x,H1,I1,r1,q1⟩=>?_))
 refine wpAny_bind (wpAny_holding (cj (hi pins s1 σ H1 _ I1 q1) fun iv s2 ⟨y,H2,I2,r2,q2⟩=>?_))
 refine wpAny_bind (wpAny_standAt (wpAny_bind (wpAny_holding (cj (hs pins s2 σ H2 x y v ov iv u _ I2 r1 r2 r q2) fun _ s3 ⟨H3,I3,q3⟩=>?_))))
 exact wpAny_release ⟨σ,H3,I3,q3⟩
def eL(te:TE)(g:TG):TS:=fun D σ H=>te σ H fun x H1=>g x σ H1 D.nx
theorem jm{tg e:Expr}{te:TE}{g:TG}(he:PE X e te)(hg:PG X tg g)(hs:swapsWithSole [tg] e pos.line X.env=pure false:=by rfl)(hw:swappedStores [tg] e X.env=pure none:=by rfl)
  (h1:(assignEach [tg] X.env).map (·.2)=[assign tg X.env]:=by rfl):PS X (.Assign [tg] e pos) (eL te g):=by
 intro pins s σ H D I h
 refine wpAny_Assign_stores (cj (he pins s σ H _ I h) fun v s1 ⟨x,H1,I1,r1,q1⟩=>?_) hs hw
 rw [h1]
 exact cj (hg pins s1 σ H1 x v _ I1 r1 q1) fun _ s2 q=>q
theorem az{i:Nat}{x:Str}{e:Expr}{te:TE}{pos':Pos}(hN:X.N.Nodup)(hi:X.N[i]?=some x)(hx:yO X.env.scope x)(he:PE X e te)(hs:swapsWith e (some (.Name x pos')) pos.line X.env=pure false:=by rfl)(hf:X.fn x=true∨X.env.scope.names.lookup x=some .local:=by first | exact .inl rfl | exact .inr rfl | assumption):
  PS X (.Assign [.Name x pos'] e pos) (eL te (cc i)):=by
 intro pins s σ H D I h
 refine wpAny_Assign_Name (cj (he pins s σ H _ I h) fun v s1 ⟨y,H1,I1,r1,q1⟩=>?_) hs
 exact kZ I1 hN hi hx r1 (fun s2 I2=>⟨_,H1,I2,q1⟩) hf
def iO(i:Nat)(te:TE)(ti:yQ):TS:=fun D σ H=>∃x,σ[i]?=some (some x)∧te σ H fun y H1=>ti x y H1 fun z H2=>D.nx (σ.set i (some z)) H2
theorem uW{i:Nat}{x:Str}{e:Expr}{te:TE}{op:Operator}{ti:yQ}{pos':Pos}(hN:X.N.Nodup)(hi:X.N[i]?=some x)(hx:yO X.env.scope x)(he:PE X e te)(ho:PIp X op ti)(hf:X.fn x=true∨X.env.scope.names.lookup x=some .local:=by first | exact .inl rfl | exact .inr rfl | assumption):
  PS X (.AugAssign (.Name x pos') op e pos) (iO i te ti):=by
 intro pins s σ H D I h
 obtain⟨v,e1,h⟩:=h
 obtain⟨m,hn,hl⟩:=I.loc
 have vis:z7 X.env.scope x:=by rcases hx with k | k;exact .inl k;exact .inr (.inl k)
 obtain⟨u,r,l⟩:=hl i x v hi e1 vis
 refine wpAny_AugAssign_Name ?_
 have go:wpAny (model X.prog X.w) X.A (eval e X.env) (fun w s₂=>wpAny (model X.prog X.w) X.A (inplaceOp op u w) (fun r s₃=>wpAny (model X.prog X.w) X.A (storeName X.env x r) (fun _=>SP X pins D .next) X.xe s₃) X.xe s₂) X.xe s:=by
  refine cj (he pins s σ H _ I h) fun w s1 ⟨y,H1,I1,r1,q1⟩=>?_
  refine cj (ho pins s1 σ H1 v y u w _ I1 r r1 q1) fun z s2 ⟨zv,H2,I2,r2,q2⟩=>?_
  exact kZ I2 hN hi hx r2 (fun s3 I3=>⟨_,H2,I3,q2⟩) hf
 rcases l with⟨hk,hm⟩ | ⟨hk,c,hc,hcell⟩
 ·exact wpAny_loadName_local I.ok.kind hk hn hm go
 ·rcases hk with hk | hk
  ·exact wpAny_loadName_cell I.ok.kind hk hc hcell go
  ·rcases hx with k | k
   ·have:X.env.scope.names.lookup x=some .free:=hk
    rw [k]at this;cases this
   ·have:X.env.scope.names.lookup x=some .free:=hk
    rw [k]at this;cases this
end
section
variable {X:Cx} {pos:Pos}
def yK(c:TT)(tb:TS):TS:=fun D σ H=>∃W:Nat→St→Hp→Prop,(∃m,W m σ H)∧∀m σ H,W m σ H→
 c σ H fun b H1=>if b=true then ∃N:St→Hp→Prop,(∀σ' H',N σ' H'→∃m',m' < m∧W m' σ' H')∧tb { D with nx:=N,ct:=N,bk:=D.nx } σ H1 else D.nx σ H1
theorem uX{c:Expr}{body:List Stmt}{tc:TT}{tb:TS}(hp:PassesOwn (model X.prog X.w) X.A X.env X.xe)(hc:PT X c tc)(hb:rR X body tb):PS X (.While c body [] pos) (yK tc tb):=by
 intro pins s σ H D I h
 obtain⟨W,⟨m0,w0⟩,turn⟩:=h
 refine wpAny_While (codeAny_whileLoop (fun n s'=>∃σ' H',av X pins σ' H' s'∧W n σ' H') ?_ m0 ⟨σ,H,I,w0⟩)
 rintro n s1 ⟨σ1,H1,I1,w1⟩
 refine wpAny_passesOwn hp (cj (hc pins s1 σ1 H1 _ I1 (turn n σ1 H1 w1)) fun b s2 ⟨H2,I2,q2⟩=>?_)
 cases b with
 | true=>
  obtain⟨N,hN,q2⟩:=q2
  rw [if_pos rfl]
  refine wpAny_passesOwn hp (cj (hb pins s2 σ1 H2 _ I2 q2) fun f s3 q3=>?_)
  cases f with
  | next=>
   obtain⟨σ3,H3,I3,n3⟩:=q3
   obtain⟨m',hm,w3⟩:=hN σ3 H3 n3
   exact⟨m',hm,σ3,H3,I3,w3⟩
  | cont=>
   obtain⟨σ3,H3,I3,n3⟩:=q3
   obtain⟨m',hm,w3⟩:=hN σ3 H3 n3
   exact⟨m',hm,σ3,H3,I3,w3⟩
  | brk=>exact q3
  | ret v=>exact q3
 | false=>
  rw [if_neg Bool.false_ne_true]
  exact wpAny_execs_nil ⟨σ1,H2,I2,q2⟩
end
structure It where
 go:Nat→Hp→Prop
 yld:Nat→Hp→V→Hp→Prop
 stop:Nat→Hp→Prop
def jF(X:Cx)(pins:List (Addr×Obj))(H:Hp)(b:Addr):Prop:=
 H b=none∧b≠X.env.locals∧b∉X.fs∧(b∈X.ex∨X.s₀.heap.objs.size≤b)∧(∀x c,X.env.cells.lookup x=some c→c≠b)∧∀p∈X.pn++pins,p.1≠b
theorem av.fpOk{X:Cx}{pins:List (Addr×Obj)}{σ:St}{H H':Hp}{s:Shared}{b:Addr}(I:av X pins σ H s)(hb:s.heap.objs.size≤b)(hn:H' b=none):jF X pins H' b:=by
 refine⟨hn,Nat.ne_of_gt (Nat.lt_of_lt_of_le I.lt hb),I.nofs hb,.inr (Nat.le_trans I.sz hb),fun x c e z=>?_,fun p hp z=>?_⟩
 ·obtain⟨v,q⟩:=I.cell x c e
  exact absurd (Nat.lt_of_lt_of_le q.lt (by rw [z];exact hb)) (Nat.lt_irrefl _)
 ·exact absurd (Nat.lt_of_lt_of_le (Heap.lt_size (I.pin p hp).1) (by rw [z];exact hb)) (Nat.lt_irrefl _)
structure lH(P:Program)(w:World)(K:PySem.W.Frag)(tg:Expr)(J:It)(fp:List Addr)(it:Addr)(tn:Nat→Heap→Prop):Prop where
 mem:it∈fp
 obj:∀i h,tn i h→∀b∈fp,∃o,h.get? b=some o∧∀v,o.data≠.cell v
 keep:∀i h h',tn i h→(∀b∈fp,∀o,h.get? b=some o→h'.get? b=some o)→tn i h'
 item:∀(X:Cx),X.prog=P→X.w=w→X.K=K→X.calm=true→∀(i:Nat) (pins:List (Addr×Obj)) (s:Shared) (σ:St) (H:Hp) (E:Value→Shared→Prop),av X pins σ H s→(∀b∈fp,jF X pins H b)→tn i s.heap→J.go i H→
  wpAny (model P w) X.A (pyNext (.ref it)) (fun r s1=>∃u,r=some u∧
   wpAny (model P w) X.A (letOwnedTupleGo tg (.ref it) u) (fun _ s2=>∃x H',av X pins σ H' s2∧aK x u∧J.yld i H x H'∧tn (i+1) s2.heap∧∀b∈fp,H' b=none) E s1) E s
 done:∀(X:Cx),X.prog=P→X.w=w→X.K=K→X.calm=true→∀(i:Nat) (pins:List (Addr×Obj)) (s:Shared) (σ:St) (H:Hp) (E:Value→Shared→Prop),av X pins σ H s→(∀b∈fp,jF X pins H b)→tn i s.heap→J.stop i H→
  wpAny (model P w) X.A (pyNext (.ref it)) (fun r s1=>r=none∧av X pins σ H s1) E s
 self:∀(A:Around) (i:Nat) (s:Shared) (Q:Value→Shared→Prop) (E:Value→Shared→Prop),tn i s.heap→Q (.ref it) s→wpAny (model P w) A (pyIter (.ref it)) Q E s
abbrev TI:=St→Hp→(It→Hp→Prop)→Prop
def y6(X:Cx)(pins:List (Addr×Obj))(σ:St)(tg:Expr)(R:It→Hp→Prop)(itv:Value)(s2:Shared):Prop:=
 ∃(it:Addr) (fp:List Addr) (tn:Nat→Heap→Prop) (J:It) (H':Hp),itv=.ref it∧av X pins σ H' s2∧lH X.prog X.w X.K tg J fp it tn∧tn 0 s2.heap∧(∀b∈fp,jF X pins H' b)∧R J H'
def PI(X:Cx)(tg iter:Expr)(wi:TI):Prop:=
 ∀(pins:List (Addr×Obj)) (s:Shared) (σ:St) (H:Hp) (R:It→Hp→Prop),av X pins σ H s→wi σ H R→
  wpAny (model X.prog X.w) X.A (eval iter X.env) (fun v s1=>wpAny (model X.prog X.w) X.A (pyIter v) (y6 X pins σ tg R) X.xe s1) X.xe s
theorem mj{M:Model}{A:Around}{E:Value→Shared→Prop}{s:Shared}{tg:Expr}{it:Addr}{u:Value}{o:Obj}{n:String}{vs:Array Value}{Q:Unit→Shared→Prop}(ho:s.heap.get? it=some o)(hc:o.cls=.type n)(hd:o.data=.fields vs)
  (hn:["enumerate","zip","dict_itemiterator","dict_reverseitemiterator","odict_iterator","itertools.zip_longest","itertools.pairwise"].contains n=false) (hQ:Q () s):wpAny M A (letOwnedTupleGo tg (.ref it) u) Q E s:=by
 unfold letOwnedTupleGo
 cases tg<;>first
  | exact wpAny_pure hQ
  | (cases u<;>first | exact wpAny_pure hQ | (refine wpAny_bind (wpAny_load ho ?_);rw [hc,hd];show wpAny M A (if (["enumerate","zip","dict_itemiterator","dict_reverseitemiterator","odict_iterator","itertools.zip_longest","itertools.pairwise"].contains n && vs[0]? == some (rawInt _))=true then _ else _) Q E s;rw [if_neg (by intro h;rw [hn,Bool.false_and]at h;cases h)];exact wpAny_pure hQ))
def vy(K:PySem.W.Frag)(a:Addr):It:=
 ⟨fun i H=>∃xs x,aL K H a xs∧xs[i]?=some x,fun i H x H'=>H'=H∧∀xs,aL K H a xs→xs[i]?=some x,fun i H=>∃xs,aL K H a xs∧xs.length≤i⟩
def Ak(K:PySem.W.Frag)(a:Addr):It:=
 ⟨fun i H=>∃xs x,cq K H a xs∧xs[i]?=some x,fun i H x H'=>H'=H∧∀xs,cq K H a xs→xs[i]?=some x,fun i H=>∃xs,cq K H a xs∧xs.length≤i⟩
def rQ(lo:Int)(n:Nat):It:=⟨fun i _=>i < n,fun i H x H'=>H'=H∧x=.int (lo+i),fun i _=>n≤i⟩
theorem tF{P:Program}{w:World}{K:PySem.W.Frag}{tg:Expr}(a it:Addr):lH P w K tg (vy K a) [it] it (fun i h=>h.IsListIter it a i) where
 mem:=by simp
 obj:=fun i h st b hb=>by
  have e:b=it:=by simpa using hb
  subst e
  obtain⟨o,e,c,d⟩:=st
  exact⟨o,e,fun v z=>by rw [d]at z;cases z⟩
 keep:=fun i h h' st k=>st.at fun o e=>k it (by simp) o e
 item:=by
  intro X hP hw hK hc i pins s σ H E I hf st hg
  subst hP hw hK
  obtain⟨xs,x,hq,hx⟩:=hg
  obtain⟨its,rv,p,hz⟩:=I.list hq
  obtain⟨u,hu,ru⟩:=rv.get hx
  obtain⟨f0,f1,f2,f3,f4,f5⟩:=hf it (by simp)
  refine wpAny_pyNext_list_item st p.isList (x:=u) (by simpa using hu) fun h' st' sb=>?_
  have I1:av X pins σ H { s with heap:=h' }:=I.turned (t':=s.toks) (fun b o hb e=>(sb.2 b hb).trans e) f0 f1 f3 f4 f5
  obtain⟨o,e,c,d⟩:=id st'
  exact⟨u,rfl,mj (s:={ s with heap:=h' }) e c d (by decide) ⟨x,H,I1,ru,⟨rfl,fun ys hy=>by rw [I.list_inj hy hq];exact hx⟩,st',fun b hb=>(hf b hb).1⟩⟩
 done:=by
  intro X hP hw hK hc i pins s σ H E I hf st hg
  subst hP hw hK
  obtain⟨xs,hq,hx⟩:=hg
  obtain⟨its,rv,p,hz⟩:=I.list hq
  obtain⟨f0,f1,f2,f3,f4,f5⟩:=hf it (by simp)
  have hl:=rv.length
  exact wpAny_pyNext_list_end (I.ok.hd hc) st p.isList (by simp;omega) fun h' eb=>⟨rfl,I.turned (t':=s.toks) (fun b o hb e=>eb b o hb e) f0 f1 f3 f4 f5⟩
 self:=fun _ _ _ _ _ st h=>wpAny_pyIter_listiter st h
theorem qN{P:Program}{w:World}{K:PySem.W.Frag}{tg:Expr}(a it:Addr):lH P w K tg (Ak K a) [it] it (fun i h=>h.IsTupleIter it a i) where
 mem:=by simp
 obj:=fun i h st b hb=>by
  have e:b=it:=by simpa using hb
  subst e
  obtain⟨o,e,c,d⟩:=st
  exact⟨o,e,fun v z=>by rw [d]at z;cases z⟩
 keep:=fun i h h' st k=>st.at fun o e=>k it (by simp) o e
 item:=by
  intro X hP hw hK hc i pins s σ H E I hf st hg
  subst hP hw hK
  obtain⟨xs,x,hq,hx⟩:=hg
  obtain⟨its,rv,p,hz⟩:=I.tuple hq
  obtain⟨u,hu,ru⟩:=rv.get hx
  obtain⟨f0,f1,f2,f3,f4,f5⟩:=hf it (by simp)
  refine wpAny_pyNext_tuple_item st (show s.heap.IsTuple a its.toArray from p) (x:=u) (by simpa using hu) fun h' st' sb=>?_
  have I1:av X pins σ H { s with heap:=h' }:=I.turned (t':=s.toks) (fun b o hb e=>(sb.2 b hb).trans e) f0 f1 f3 f4 f5
  obtain⟨o,e,c,d⟩:=id st'
  exact⟨u,rfl,mj (s:={ s with heap:=h' }) e c d (by decide) ⟨x,H,I1,ru,⟨rfl,fun ys hy=>by rw [I.tuple_inj hy hq];exact hx⟩,st',fun b hb=>(hf b hb).1⟩⟩
 done:=by
  intro X hP hw hK hc i pins s σ H E I hf st hg
  subst hP hw hK
  obtain⟨xs,hq,hx⟩:=hg
  obtain⟨its,rv,p,hz⟩:=I.tuple hq
  obtain⟨f0,f1,f2,f3,f4,f5⟩:=hf it (by simp)
  have hl:=rv.length
  exact wpAny_pyNext_tuple_end (I.ok.hd hc) st (show s.heap.IsTuple a its.toArray from p) (by simp;omega) fun h' eb=>⟨rfl,I.turned (t':=s.toks) (fun b o hb e=>eb b o hb e) f0 f1 f3 f4 f5⟩
 self:=fun _ _ _ _ _ st h=>wpAny_pyIter_tupleiter st h
theorem lA{P:Program}{w:World}{K:PySem.W.Frag}{tg:Expr}(it:Addr)(lo:Int)(n:Nat):lH P w K tg (rQ lo n) [it] it (fun i h=>IsRangeIter h it (lo+(i:Nat) * 1) ((n:Int) - (i:Nat)) 1) where
 mem:=by simp
 obj:=fun i h st b hb=>by
  have e:b=it:=by simpa using hb
  subst e
  exact⟨_,st,fun v z=>by
   have z':Data.fields _=Data.cell v:=z
   cases z'⟩
 keep:=fun i h h' st k=>k it (by simp) _ st
 item:=by
  intro X hP hw hK hc i pins s σ H E I hf st hg
  subst hP hw hK
  obtain⟨f0,f1,f2,f3,f4,f5⟩:=hf it (by simp)
  have W:=Walks.range (prog:=X.prog) (w:=X.w) (I.ok.hd hc) it lo 1 n
  refine W.item i s _ _ hg st fun v h' tk hv st' kk=>?_
  obtain⟨t,rfl⟩:=hv
  have I1:av X pins σ H { s with heap:=h',toks:=tk }:=I.turned (fun b o hb e=>kk b o (by simpa using hb) e) f0 f1 f3 f4 f5
  refine⟨_,rfl,mj (s:={ s with heap:=h',toks:=tk }) (n:="range_iterator") st' rfl rfl (by decide) ⟨.int (lo+i),H,I1,⟨t,?_⟩,⟨rfl,rfl⟩,st',fun b hb=>(hf b hb).1⟩⟩
  rw [Int.mul_one]
 done:=by
  intro X hP hw hK hc i pins s σ H E I hf st hg
  subst hP hw hK
  obtain⟨f0,f1,f2,f3,f4,f5⟩:=hf it (by simp)
  exact wpAny_pyNext_range_end (I.ok.hd hc) st (by have:n≤i:=hg;omega) fun h' eb=>⟨rfl,I.turned (t':=s.toks) (fun b o hb e=>eb b o hb e) f0 f1 f3 f4 f5⟩
 self:=fun _ _ _ _ _ st h=>wpAny_pyIter_rangeiter st h
end L2
namespace L2
open PySem PySem.Spec PyProof.Rows
section
variable {X:Cx} {tg:Expr}
theorem pA{pins:List (Addr×Obj)}{σ:St}{H:Hp}{s:Shared}{R:It→Hp→Prop}{E:Value→Shared→Prop}{lo hi:Int}{t u v:Tok}{tk:Nat}(I:av X pins σ H s)(h1:-(2 ^ 62)≤lo)(h2:lo < 2 ^ 62)(h3:-(2 ^ 62)≤hi)(h4:hi < 2 ^ 62)
  (q:R (rQ lo (hi - lo).toNat) H):wpAny (model X.prog X.w) X.A (pyIter (.ref s.heap.objs.size)) (y6 X pins σ tg R) E { s with heap:=s.heap.push { cls:=.type "range",data:=.fields #[.int lo t,.int hi u,.int 1 v] },toks:=tk }:=by
 refine wpAny_pyIter_range (IsRange.new ..) (small_one h1 h2 h3 h4) ?_
 have I1:av X pins σ H { s with heap:=s.heap.push { cls:=.type "range",data:=.fields #[.int lo t,.int hi u,.int 1 v] },toks:=tk }:=I.kept fun b o e=>Heap.get?_push_of_some _ e
 refine⟨(s.heap.push { cls:=.type "range",data:=.fields #[.int lo t,.int hi u,.int 1 v] }).objs.size,[(s.heap.push { cls:=.type "range",data:=.fields #[.int lo t,.int hi u,.int 1 v] }).objs.size],_,_,H,rfl,
  I1.kept (t':=tk) fun b o e=>Heap.get?_push_of_some _ e,lA _ lo (hi - lo).toNat,?_,fun b hb=>?_,q⟩
 ·have e1:lo+((0:Nat):Int) * 1=lo:=by simp
  have e2:(((hi - lo).toNat:Nat):Int) - ((0:Nat):Int)=Builtin.Range.rangeSize lo hi 1:=by rw [rangeSize_one];split<;>omega
  show IsRangeIter _ _ (lo+((0:Nat):Int) * 1) ((((hi - lo).toNat:Nat):Int) - ((0:Nat):Int)) 1
  rw [e1,e2]
  exact Heap.get?_push_size _ rfl
 ·have e:b=(s.heap.push { cls:=.type "range",data:=.fields #[.int lo t,.int hi u,.int 1 v] }).objs.size:=by simpa using hb
  subst e
  exact I1.fpOk (Nat.le_refl _) (I1.hok.fresh (Nat.le_refl _))
def gu(ta:TA):TI:=fun σ H R=>ta σ H fun vs H1=>∃j:Int,vs=[.int j]∧-(2 ^ 62)≤j∧j < 2 ^ 62∧R (rQ 0 j.toNat) H1
def gv(ta:TA):TI:=fun σ H R=>ta σ H fun vs H1=>∃i j:Int,vs=[.int i,.int j]∧(-(2 ^ 62)≤i∧i < 2 ^ 62∧-(2 ^ 62)≤j∧j < 2 ^ 62)∧R (rQ i (j - i).toNat) H1
theorem ik{a:Expr}{ta:TA}{p pos:Pos}(hg:Gl X "range")(hm:X.mg "range"=none)(ha:PA X [a] ta)(hs:starEach [a] X.env=[(false,eval a X.env)]:=by rfl):PI X tg (.Call (.Name "range" p) [a] [] pos) (gu ta):=by
 intro pins s σ H R I h
 refine Call_ (dS I hg hm boot_range (PyProof.Rows.callWith_type1 (cj (ha pos pins s σ H _ I h) fun us s1 ⟨vs,H1,I1,r1,q1⟩=>?_) hs rfl))
 obtain⟨j,e,q1,q2,q⟩:=q1
 subst e
 cases r1 with
 | cons r rr=>
  cases rr
  obtain⟨t,rfl⟩:=r
  exact call_range_1 (pA I1 (by omega) (by omega) q1 q2 (by simpa using q))
theorem sW{a b:Expr}{ta:TA}{p pos:Pos}(hg:Gl X "range")(hm:X.mg "range"=none)(ha:PA X [a,b] ta)(hs:starEach [a,b] X.env=[(false,eval a X.env),(false,eval b X.env)]:=by rfl)(hs2:starEach [b] X.env=[(false,eval b X.env)]:=by rfl):
  PI X tg (.Call (.Name "range" p) [a,b] [] pos) (gv ta):=by
 intro pins s σ H R I h
 refine Call_ (dS I hg hm boot_range (PyProof.Rows.callWith_type1 (cj (ha pos pins s σ H _ I h) fun us s1 ⟨vs,H1,I1,r1,q1⟩=>?_) (by rw [hs,hs2]) (by rw [hs2];rfl)))
 obtain⟨i,j,e,⟨q1,q2,q3,q4⟩,q⟩:=q1
 subst e
 cases r1 with
 | cons r rr=>
  cases rr with
  | cons r' rr=>
   cases rr
   obtain⟨t,rfl⟩:=r
   obtain⟨t',rfl⟩:=r'
   exact call_range_2 (pA I1 q1 q2 q3 q4 q)
def zV(wi:TI)(g:TG)(tb:TS):TS:=fun D σ H=>wi σ H fun J H1=>∃W:Nat→Nat→St→Hp→Prop,(∃m,W 0 m σ H1)∧∀i m σ H,W i m σ H→
 (J.stop i H∧D.nx σ H)∨(J.go i H∧∃N:St→Hp→Prop,(∀σ' H',N σ' H'→∃m',m' < m∧W (i+1) m' σ' H')∧∀x H',J.yld i H x H'→g x σ H' fun σ2 H2=>tb { D with nx:=N,ct:=N,bk:=D.nx } σ2 H2)
def ny(fp:List Addr)(h:Heap):List (Addr×Obj):=fp.filterMap fun b=>(h.get? b).map fun o=>(b,o)
theorem eo{fp:List Addr}{h:Heap}{b:Addr}{o:Obj}(hb:b∈fp)(e:h.get? b=some o):(b,o)∈ny fp h:=List.mem_filterMap.mpr ⟨b,hb,by rw [e];rfl⟩
theorem sL{fp:List Addr}{h:Heap}{p:Addr×Obj}(hp:p∈ny fp h):p.1∈fp∧h.get? p.1=some p.2:=by
 obtain⟨b,hb,e⟩:=List.mem_filterMap.mp hp
 cases q:h.get? b with
 | none=>rw [q]at e;cases e
 | some o=>
  rw [q]at e
  have e':(b,o)=p:=Option.some.inj e
  subst e'
  exact⟨hb,q⟩
theorem av.pinned{pins:List (Addr×Obj)}{σ:St}{H:Hp}{s:Shared}{fp:List Addr}(I:av X pins σ H s)(hf:∀b∈fp,jF X pins H b)(ho:∀b∈fp,∃o,s.heap.get? b=some o∧∀v,o.data≠.cell v):av X (pins++ny fp s.heap) σ H s:=
 I.pins_of fun p hp=>(List.mem_append.mp hp).elim (fun z=>I.pin p (List.mem_append_right _ z)) fun z=>by
  obtain⟨hb,e⟩:=sL z
  obtain⟨f0,f1,f2,_⟩:=hf p.1 hb
  obtain⟨o,e',d⟩:=ho p.1 hb
  rw [e]at e';cases e'
  exact⟨e,f0,f1,f2,d⟩
theorem av.unpinned{pins pl:List (Addr×Obj)}{σ:St}{H:Hp}{s:Shared}(I:av X (pins++pl) σ H s):av X pins σ H s:=I.pins_of fun p hp=>I.pin p (List.mem_append_right _ (List.mem_append_left _ hp))
theorem dX{iter:Expr}{body:List Stmt}{wi:TI}{g:TG}{tb:TS}{pos:Pos}(hp:PassesOwn (model X.prog X.w) X.A X.env X.xe)(hc:X.calm=true)(hi:PI X tg iter wi)(hg:PG X tg g)(hb:rR X body tb)
  (hs:∀x,foldedSetIterable iter X.env x=pure x:=by intro _;rfl):PS X (.For tg iter body [] pos) (zV wi g tb):=by
 intro pins s σ H D I h
 refine wpAny_For (cj (hi pins s σ H _ I h) fun v s1 h1=>cj h1 fun itv s2 h2=>?_) hs
 obtain⟨it,fp,tn,J,H2,e,I2,T,st2,f2,W,⟨m0,w0⟩,turn⟩:=h2
 subst e
 have stat:∀{H':Hp},(∀b∈fp,H' b=none)→∀b∈fp,jF X pins H' b:=fun hn b hb=>⟨hn b hb,(f2 b hb).2⟩
 refine codeAny_forLoop_any (fun n s'=>∃i σ' H',av X pins σ' H' s'∧tn i s'.heap∧(∀b∈fp,H' b=none)∧W i n σ' H') ?_ m0 ⟨0,σ,H2,I2,st2,fun b hb=>(f2 b hb).1,w0⟩
 rintro n s3 ⟨i,σ3,H3,I3,st3,fr3,w3⟩
 rcases turn i n σ3 H3 w3 with⟨stop,qn⟩ | ⟨go,N,hN,step⟩
 ·refine wpAny_passesOwn hp (cj (T.done X rfl rfl rfl hc i pins s3 σ3 H3 X.xe I3 (stat fr3) st3 stop) fun r s4 ⟨hr,I4⟩=>?_)
  subst hr
  exact wpAny_execs_nil ⟨σ3,H3,I4,qn⟩
 ·refine wpAny_passesOwn hp (cj (T.item X rfl rfl rfl hc i pins s3 σ3 H3 X.xe I3 (stat fr3) st3 go) fun r s4 ⟨u,hr,h4⟩=>?_)
  subst hr
  refine wpAny_passesOwn hp (cj h4 fun _ s5 ⟨x,H5,I5,r5,y5,st5,fr5⟩=>?_)
  have I5':=I5.pinned (stat fr5) (T.obj _ _ st5)
  refine wpAny_passesOwn hp (cj (hg _ s5 σ3 H5 x u _ I5' r5 (step x H5 y5)) fun _ s6 ⟨σ6,H6,I6,q6⟩=>?_)
  refine wpAny_passesOwn hp (cj (hb _ s6 σ6 H6 _ I6 q6) fun f s7 q7=>?_)
  have again:∀{σ7:St} {H7:Hp},av X (pins++ny fp s5.heap) σ7 H7 s7→N σ7 H7→∃m,m < n∧∃i σ' H',av X pins σ' H' s7∧tn i s7.heap∧(∀b∈fp,H' b=none)∧W i m σ' H':=fun {σ7 H7} I7 n7=>by
   obtain⟨m',hm,w7⟩:=hN σ7 H7 n7
   refine⟨m',hm,i+1,σ7,H7,I7.unpinned,T.keep _ _ _ st5 fun b hb o e=>(I7.pin (b,o) (List.mem_append_right _ (List.mem_append_right _ (eo hb e)))).1,fun b hb=>?_,w7⟩
   obtain⟨o,e,d⟩:=T.obj _ _ st5 b hb
   exact(I7.pin (b,o) (List.mem_append_right _ (List.mem_append_right _ (eo hb e)))).2.1
  cases f with
  | next=>obtain⟨σ7,H7,I7,n7⟩:=q7;exact again I7 n7
  | cont=>obtain⟨σ7,H7,I7,n7⟩:=q7;exact again I7 n7
  | brk=>obtain⟨σ7,H7,I7,q7⟩:=q7;exact⟨σ7,H7,I7.unpinned,q7⟩
  | ret v=>obtain⟨x7,σ7,H7,I7,r7,q7⟩:=q7;exact⟨x7,σ7,H7,I7.unpinned,r7,q7⟩
end
theorem ua{K:PySem.W.Frag}{a:Addr}{xs:List V}{g:TG}{tb:TS}{D:gD}{σ:St}{H:Hp}(Pv:Nat→St→Hp→Prop)(h0:Pv 0 σ H)(hl:∀i σ H,i≤xs.length→Pv i σ H→aL K H a xs)
  (hs:∀i x σ H,xs[i]?=some x→Pv i σ H→g x σ H fun σ2 H2=>tb { D with nx:=Pv (i+1),ct:=Pv (i+1),bk:=D.nx } σ2 H2) (hd:∀σ H,Pv xs.length σ H→D.nx σ H) :
  ∃W:Nat→Nat→St→Hp→Prop,(∃m,W 0 m σ H)∧∀i m σ H,W i m σ H→
   ((vy K a).stop i H∧D.nx σ H)∨((vy K a).go i H∧∃N:St→Hp→Prop,(∀σ' H',N σ' H'→∃m',m' < m∧W (i+1) m' σ' H')∧∀x H',(vy K a).yld i H x H'→g x σ H' fun σ2 H2=>tb { D with nx:=N,ct:=N,bk:=D.nx } σ2 H2):=by
 refine⟨fun i m σ H=>m=xs.length - i∧i≤xs.length∧Pv i σ H,⟨xs.length,by simp,Nat.zero_le _,h0⟩,?_⟩
 rintro i m σ H ⟨rfl,hi,p⟩
 have q:=hl i σ H hi p
 by_cases hlt:i < xs.length
 ·refine .inr ⟨⟨xs,xs[i],q,by simp [hlt]⟩,Pv (i+1),fun σ' H' p'=>⟨xs.length - (i+1),by omega,rfl,hlt,p'⟩,fun x H' y=>?_⟩
  obtain⟨e,y⟩:=y
  subst e
  exact hs i x σ _ (y xs q) p
 ·have e:i=xs.length:=by omega
  subst e
  exact .inl ⟨⟨xs,q,Nat.le_refl _⟩,hd σ H p⟩
theorem sj{lo:Int}{n:Nat}{g:TG}{tb:TS}{D:gD}{σ:St}{H:Hp}(Pv:Nat→St→Hp→Prop)(h0:Pv 0 σ H)
  (hs:∀i σ H,i < n→Pv i σ H→g (.int (lo+i)) σ H fun σ2 H2=>tb { D with nx:=Pv (i+1),ct:=Pv (i+1),bk:=D.nx } σ2 H2) (hd:∀σ H,Pv n σ H→D.nx σ H) :
  ∃W:Nat→Nat→St→Hp→Prop,(∃m,W 0 m σ H)∧∀i m σ H,W i m σ H→
   ((rQ lo n).stop i H∧D.nx σ H)∨((rQ lo n).go i H∧∃N:St→Hp→Prop,(∀σ' H',N σ' H'→∃m',m' < m∧W (i+1) m' σ' H')∧∀x H',(rQ lo n).yld i H x H'→g x σ H' fun σ2 H2=>tb { D with nx:=N,ct:=N,bk:=D.nx } σ2 H2):=by
 refine⟨fun i m σ H=>m=n - i∧i≤n∧Pv i σ H,⟨n,by simp,Nat.zero_le _,h0⟩,?_⟩
 rintro i m σ H ⟨rfl,hi,p⟩
 by_cases hlt:i < n
 ·refine .inr ⟨hlt,Pv (i+1),fun σ' H' p'=>⟨n - (i+1),by omega,rfl,hlt,p'⟩,fun x H' y=>?_⟩
  obtain⟨e,y⟩:=y
  subst e y
  exact hs i σ _ hlt p
 ·have e:i=n:=by omega
  subst e
  exact .inl ⟨Nat.le_refl _,hd σ H p⟩
end L2
namespace L2
open PySem PySem.Spec PyProof.Rows
abbrev R2:=V→V→Hp→VK→Prop
def dq(X:Cx)(f:Value→Value→Sem Value)(r:R2):Prop:=
 ∀(pins:List (Addr×Obj)) (s:Shared) (σ:St) (H:Hp) (x y:V) (v u:Value) (Q:VK),av X pins σ H s→aK x v→aK y u→r x y H Q→
  wpAny (model X.prog X.w) X.A (f v u) (EP X pins σ Q) X.xe s
def zc(X:Cx)(f:Value→Sem Value)(r:V→Hp→VK→Prop):Prop:=
 ∀(pins:List (Addr×Obj)) (s:Shared) (σ:St) (H:Hp) (x:V) (v:Value) (Q:VK),av X pins σ H s→aK x v→r x H Q→
  wpAny (model X.prog X.w) X.A (f v) (EP X pins σ Q) X.xe s
def bN(X:Cx)(f:Value)(r:List V→Hp→VK→Prop):Prop:=
 ∀(pins:List (Addr×Obj)) (s:Shared) (σ:St) (H:Hp) (xs:List V) (us:List Value) (Q:VK),av X pins σ H s→aA xs us→r xs H Q→
  wpAny (model X.prog X.w) X.A (call f us) (EP X pins σ Q) X.xe s
def Ao(X:Cx)(r:V→Hp→(Bool→Hp→Prop)→Prop):Prop:=
 ∀(pins:List (Addr×Obj)) (s:Shared) (σ:St) (H:Hp) (x:V) (v:Value) (Q:Bool→Hp→Prop),av X pins σ H s→aK x v→r x H Q→
  wpAny (model X.prog X.w) X.A (truthy v) (TP X pins σ Q) X.xe s
def jE(r:R2)(ta tb:TE):TE:=fun σ H Q=>ta σ H fun x H1=>tb σ H1 fun y H2=>r x y H2 Q
def lu(r:V→Hp→VK→Prop)(ta:TE):TE:=fun σ H Q=>ta σ H fun x H1=>r x H1 Q
def rI(C:Int→Int→Prop)(g:Int→Int→V):R2:=fun x y H Q=>∃i j,x=.int i∧y=.int j∧C i j∧Q (g i j) H
def jO(g:Int→Int→V):R2:=fun x y H Q=>∃i j,x=.int i∧y=.int j∧Q (g i j) H
def rU(g:Int→V):V→Hp→VK→Prop:=fun x H Q=>∃i,x=.int i∧Q (g i) H
section
variable {X:Cx} {a b c:Expr} {ta tb tc:TE} {pos:Pos}
theorem xN(ha:PE X a ta)(hb:PE X b tb){pins:List (Addr×Obj)}{s:Shared}{σ:St}{H:Hp}{R:V→V→Hp→Prop}(I:av X pins σ H s)
  (h:ta σ H fun x H1=>tb σ H1 fun y H2=>R x y H2) {Q:Value→Shared→Prop} {f:Value→Value→Sem Value}
  (hf:∀v u s2 x y H2,av X pins σ H2 s2→aK x v→aK y u→R x y H2→wpAny (model X.prog X.w) X.A (f v u) Q X.xe s2) :
  wpAny (model X.prog X.w) X.A (eval a X.env) (fun v s₁=>wpAny (model X.prog X.w) X.A (eval b X.env) (fun u s₂=>wpAny (model X.prog X.w) X.A (f v u) Q X.xe s₂) X.xe s₁) X.xe s:=by
 refine cj (ha pins s σ H _ I h) fun v s1 ⟨x,H1,I1,r1,q1⟩=>?_
 refine cj (hb pins s1 σ H1 _ I1 q1) fun u s2 ⟨y,H2,I2,r2,q2⟩=>?_
 exact hf v u s2 x y H2 I2 r1 r2 q2
theorem au{op:Operator}{r:R2}(ho:dq X (binaryOp op) r)(ha:PE X a ta)(hb:PE X b tb):PE X (.BinOp a op b pos) (jE r ta tb):=by
 intro pins s σ H Q I h
 exact wpAny_BinOp (xN ha hb I h fun v u s2 x y H2 I2 rx ry q=>ho pins s2 σ H2 x y v u Q I2 rx ry q)
theorem uT{op:UnaryOp}{r:V→Hp→VK→Prop}(ho:zc X (unaryOp op) r)(ha:PE X a ta):PE X (.UnaryOp op a pos) (lu r ta):=by
 intro pins s σ H Q I h
 exact UnaryOp_ (cj (ha pins s σ H _ I h) fun v s1 ⟨x,H1,I1,r1,q1⟩=>ho pins s1 σ H1 x v Q I1 r1 q1)
theorem zy{f:Value→Value→Sem Value}{C:Int→Int→Prop}{g:Int→Int→Int}
  (rule:∀(i j:Int) (t u:Tok) (s:Shared) (Q:Value→Shared→Prop) (E:Value→Shared→Prop),C i j→Q (.int (g i j) s.toks) { s with toks:=s.toks+1 }→wpAny (model X.prog X.w) X.A (f (.int i t) (.int j u)) Q E s) :
  dq X f (rI C fun i j=>.int (g i j)):=by
 intro pins s σ H x y v u Q I rx ry h
 obtain⟨i,j,rfl,rfl,hc,q⟩:=h
 obtain⟨t,rfl⟩:=rx
 obtain⟨t',rfl⟩:=ry
 exact rule i j t t' s _ _ hc ⟨.int (g i j),H,I.tok _,⟨_,rfl⟩,q⟩
theorem zz{f:Value→Value→Sem Value}{g:Int→Int→Int}
  (rule:∀(i j:Int) (t u:Tok) (s:Shared) (Q:Value→Shared→Prop) (E:Value→Shared→Prop),Q (.int (g i j) s.toks) { s with toks:=s.toks+1 }→wpAny (model X.prog X.w) X.A (f (.int i t) (.int j u)) Q E s) :
  dq X f (jO fun i j=>.int (g i j)):=by
 intro pins s σ H x y v u Q I rx ry h
 obtain⟨i,j,rfl,rfl,q⟩:=h
 obtain⟨t,rfl⟩:=rx
 obtain⟨t',rfl⟩:=ry
 exact rule i j t t' s _ _ ⟨.int (g i j),H,I.tok _,⟨_,rfl⟩,q⟩
theorem yf{f:Value→Value→Sem Value}{g:Int→Int→Bool}
  (rule:∀(i j:Int) (t u:Tok) (s:Shared) (Q:Value→Shared→Prop) (E:Value→Shared→Prop),Q (.bool (g i j)) s→wpAny (model X.prog X.w) X.A (f (.int i t) (.int j u)) Q E s) :
  dq X f (jO fun i j=>.bl (g i j)):=by
 intro pins s σ H x y v u Q I rx ry h
 obtain⟨i,j,rfl,rfl,q⟩:=h
 obtain⟨t,rfl⟩:=rx
 obtain⟨t',rfl⟩:=ry
 exact rule i j t t' s _ _ ⟨.bl (g i j),H,I,rfl,q⟩
def Ag(i j:Int):Prop:=0 < j∧j < 1073741824
def Ah(i j:Int):Prop:=0≤j∧j≤1000000∧i.natAbs < 2 ^ 64
theorem op_add:dq X (binaryOp .Add) (jO fun i j=>.int (i+j)):=zz fun _ _ _ _ _ _ _ q=>add_int q
theorem gg:dq X (binaryOp .Sub) (jO fun i j=>.int (i - j)):=zz fun _ _ _ _ _ _ _ q=>sub_int q
theorem de:dq X (binaryOp .FloorDiv) (rI Ag fun i j=>.int (i / j)):=zy fun i j _ _ _ _ _ hc q=>by
 have h1:(0:Int) < j:=hc.1
 have h2:j < 1073741824:=hc.2
 exact floordiv_int (by omega) (by rw [Int.fdiv_eq_ediv_of_nonneg i (by omega)];exact q) (.inl (PyProof.noPylong_small (by omega)))
theorem cf:dq X (binaryOp .Mod) (rI (fun _ j=>0 < j) fun i j=>.int (i % j)):=zy fun i j _ _ _ _ _ hc q=>by
 have h1:(0:Int) < j:=hc
 exact mod_int' (by omega) (by rw [Int.fmod_eq_emod_of_nonneg i (by omega)];exact q)
theorem ni:dq X (binaryOp .Pow) (rI Ah fun i j=>.int (i ^ j.toNat)):=zy fun _ _ _ _ _ _ _ hc q=>pow_int_small hc.1 hc.2.1 hc.2.2 q
theorem unI{f:Value→Sem Value}{g:Int→Int}
  (rule:∀(i:Int) (t:Tok) (s:Shared) (Q:Value→Shared→Prop) (E:Value→Shared→Prop),Q (.int (g i) s.toks) { s with toks:=s.toks+1 }→wpAny (model X.prog X.w) X.A (f (.int i t)) Q E s) :
  zc X f (rU fun i=>.int (g i)):=by
 intro pins s σ H x v Q I rx h
 obtain⟨i,rfl,q⟩:=h
 obtain⟨t,rfl⟩:=rx
 exact rule i t s _ _ ⟨.int (g i),H,I.tok _,⟨_,rfl⟩,q⟩
theorem qP:zc X (unaryOp .USub) (rU fun i=>.int (-i)):=unI fun _ _ _ _ _ q=>neg_int q
end
def pC:V→V→Bool
 | .non,.non=>true | .non,.int _=>true | .int _,.non=>true | .non,.bl _=>true | .bl _,.non=>true | .non,.str _=>true | .str _,.non=>true
 | .int _,.int _=>true | .bl _,.bl _=>true | .str _,.str _=>true | .byt _,.byt _=>true
 | .int _,.str _=>true | .str _,.int _=>true | .bl _,.str _=>true | .str _,.bl _=>true
 | _,_=>false
def my:R2:=fun x y H Q=>pC x y=true∧Q (.bl (decide (x=y))) H
def mz:R2:=fun x y H Q=>pC x y=true∧Q (.bl (!decide (x=y))) H
theorem qX{i j:Int}:decide (V.int i=V.int j)=(i == j):=by
 rw [Bool.eq_iff_iff]
 simp
theorem t6{i j:Bool}:decide (V.bl i=V.bl j)=(i == j):=by
 rw [Bool.eq_iff_iff]
 simp
theorem qY{i j:Str}:decide (V.str i=V.str j)=(i == j):=by
 rw [Bool.eq_iff_iff]
 simp
theorem qW{i j:Array UInt8}:decide (V.byt i=V.byt j)=(i.toList == j.toList):=by
 rw [Bool.eq_iff_iff]
 cases i
 cases j
 simp
section
variable {X:Cx} {a b c:Expr} {ta tb tc:TE} {pos:Pos}
theorem aN{pins:List (Addr×Obj)}{σ:St}{H:Hp}{s:Shared}{Q:VK}{k k':Bool}(I:av X pins σ H s)(q:Q (.bl k) H)(e:k=k'):EP X pins σ Q (.bool k') s:=by
 subst e
 exact⟨.bl k,H,I,rfl,q⟩
theorem zF:dq X (compareOp .Eq) my:=by
 intro pins s σ H x y v u Q I rx ry h
 obtain⟨hs,q⟩:=h
 cases x with
 | non=>
  cases rx
  cases y with
  | non=>cases ry;exact PySem.EqNone.eq_none_none (aN I q (by simp))
  | bl j=>cases ry;exact PySem.EqNone.eq_none_bool (aN I q (by simp))
  | int j=>obtain⟨t',rfl⟩:=ry;exact PySem.EqNone.eq_none_int (aN I q (by simp))
  | str j=>obtain⟨t',rfl⟩:=ry;exact PySem.EqNone.eq_none_str (aN I q (by simp))
  | _=>exact absurd (show false=true from hs) Bool.false_ne_true
 | bl i=>
  cases rx
  cases y with
  | non=>cases ry;exact PySem.EqNone.eq_bool_none (aN I q (by simp))
  | bl j=>cases ry;exact eq_bool (aN I q t6)
  | str j=>obtain⟨t',rfl⟩:=ry;exact PySem.EqMixed.eq_bool_str (aN I q (by simp))
  | _=>exact absurd (show false=true from hs) Bool.false_ne_true
 | int i=>
  obtain⟨t,rfl⟩:=rx
  cases y with
  | non=>cases ry;exact PySem.EqNone.eq_int_none (aN I q (by simp))
  | int j=>obtain⟨t',rfl⟩:=ry;exact eq_int (aN I q qX)
  | str j=>obtain⟨t',rfl⟩:=ry;exact PySem.EqMixed.eq_int_str (aN I q (by simp))
  | _=>exact absurd (show false=true from hs) Bool.false_ne_true
 | str i=>
  obtain⟨t,rfl⟩:=rx
  cases y with
  | non=>cases ry;exact PySem.EqNone.eq_str_none (aN I q (by simp))
  | bl j=>cases ry;exact PySem.EqMixed.eq_str_bool (aN I q (by simp))
  | int j=>obtain⟨t',rfl⟩:=ry;exact PySem.EqMixed.eq_str_int (aN I q (by simp))
  | str j=>obtain⟨t',rfl⟩:=ry;exact eq_str (aN I q qY)
  | _=>exact absurd (show false=true from hs) Bool.false_ne_true
 | byt i=>
  obtain⟨t,rfl⟩:=rx
  cases y with
  | byt j=>obtain⟨t',rfl⟩:=ry;exact PySem.W.eq_bytes (aN I q qW)
  | _=>exact absurd (show false=true from hs) Bool.false_ne_true
 | _=>cases y<;>exact absurd (show false=true from hs) Bool.false_ne_true
theorem zH:dq X (compareOp .NotEq) mz:=by
 intro pins s σ H x y v u Q I rx ry h
 obtain⟨hs,q⟩:=h
 cases x with
 | non=>
  cases rx
  cases y with
  | non=>cases ry;exact PySem.EqNone.ne_none_none (aN I q (by simp))
  | bl j=>cases ry;exact PySem.EqNone.ne_none_bool (aN I q (by simp))
  | int j=>obtain⟨t',rfl⟩:=ry;exact PySem.EqNone.ne_none_int (aN I q (by simp))
  | str j=>obtain⟨t',rfl⟩:=ry;exact PySem.EqNone.ne_none_str (aN I q (by simp))
  | _=>exact absurd (show false=true from hs) Bool.false_ne_true
 | bl i=>
  cases rx
  cases y with
  | non=>cases ry;exact PySem.EqNone.ne_bool_none (aN I q (by simp))
  | bl j=>cases ry;exact ne_bool (aN I q (congrArg not t6))
  | str j=>obtain⟨t',rfl⟩:=ry;exact PySem.EqMixed.ne_bool_str (aN I q (by simp))
  | _=>exact absurd (show false=true from hs) Bool.false_ne_true
 | int i=>
  obtain⟨t,rfl⟩:=rx
  cases y with
  | non=>cases ry;exact PySem.EqNone.ne_int_none (aN I q (by simp))
  | int j=>obtain⟨t',rfl⟩:=ry;exact ne_int (aN I q (congrArg not qX))
  | str j=>obtain⟨t',rfl⟩:=ry;exact PySem.EqMixed.ne_int_str (aN I q (by simp))
  | _=>exact absurd (show false=true from hs) Bool.false_ne_true
 | str i=>
  obtain⟨t,rfl⟩:=rx
  cases y with
  | non=>cases ry;exact PySem.EqNone.ne_str_none (aN I q (by simp))
  | bl j=>cases ry;exact PySem.EqMixed.ne_str_bool (aN I q (by simp))
  | int j=>obtain⟨t',rfl⟩:=ry;exact PySem.EqMixed.ne_str_int (aN I q (by simp))
  | str j=>obtain⟨t',rfl⟩:=ry;exact ne_str (aN I q (congrArg not qY))
  | _=>exact absurd (show false=true from hs) Bool.false_ne_true
 | byt i=>
  obtain⟨t,rfl⟩:=rx
  cases y with
  | byt j=>obtain⟨t',rfl⟩:=ry;exact PySem.W.ne_bytes (aN I q (congrArg not qW))
  | _=>exact absurd (show false=true from hs) Bool.false_ne_true
 | _=>cases y<;>exact absurd (show false=true from hs) Bool.false_ne_true
theorem zG:dq X (compareOp .Lt) (jO fun i j=>.bl (decide (i < j))):=yf fun _ _ _ _ _ _ _ q=>lt_int q
theorem uP:dq X (compareOp .LtE) (jO fun i j=>.bl (decide (i≤j))):=yf fun _ _ _ _ _ _ _ q=>le_int q
theorem uO:dq X (compareOp .Gt) (jO fun i j=>.bl (decide (j < i))):=yf fun _ _ _ _ _ _ _ q=>gt_int q
theorem op_in_str:dq X (compareOp .In) (fun x y H Q=>∃i j,x=.str i∧y=.str j∧Q (.bl (!(Builtin.Str.occurrences j i 0 j.length 1).isEmpty)) H):=by
 intro pins s σ H x y v u Q I rx ry h
 obtain⟨i,j,rfl,rfl,q⟩:=h
 obtain⟨t,rfl⟩:=rx
 obtain⟨t',rfl⟩:=ry
 exact in_str (aN I q rfl)
theorem ng:dq X (compareOp .Is) (fun x y H Q=>y=.non∧Q (.bl (decide (x=.non))) H):=by
 intro pins s σ H x y v u Q I rx ry h
 obtain⟨rfl,q⟩:=h
 cases ry
 refine is_none_gen (aN I q ?_)
 cases x<;>first
  | (cases rx;rfl)
  | (obtain⟨t,rfl⟩:=rx;rfl)
theorem wH:dq X (compareOp .IsNot) (fun x y H Q=>y=.non∧Q (.bl (!decide (x=.non))) H):=by
 intro pins s σ H x y v u Q I rx ry h
 obtain⟨rfl,q⟩:=h
 cases ry
 refine isnot_none_gen (aN I q ?_)
 cases x<;>first
  | (cases rx;rfl)
  | (obtain⟨t,rfl⟩:=rx;rfl)
theorem op_notin_str:dq X (compareOp .NotIn) (fun x y H Q=>∃i j,x=.str i∧y=.str j∧Q (.bl (!(!(Builtin.Str.occurrences j i 0 j.length 1).isEmpty))) H):=by
 intro pins s σ H x y v u Q I rx ry h
 obtain⟨i,j,rfl,rfl,q⟩:=h
 obtain⟨t,rfl⟩:=rx
 obtain⟨t',rfl⟩:=ry
 exact notIn_str (aN I q rfl)
theorem dq.or{f:Value→Value→Sem Value}{r r':R2}(h:dq X f r)(h':dq X f r'):dq X f (fun x y H Q=>r x y H Q∨r' x y H Q):=by
 intro pins s σ H x y v u Q I rx ry q
 rcases q with q | q
 ·exact h pins s σ H x y v u Q I rx ry q
 ·exact h' pins s σ H x y v u Q I rx ry q
theorem aT(b:Expr){op:CmpOp}(h:op≠.In:=by decide)(h2:op≠.NotIn:=by decide):behindInMarks op b=false:=by
 have e1:(op == CmpOp.In)=false:=by cases op<;>first | rfl | exact absurd rfl h
 have e2:(op == CmpOp.NotIn)=false:=by cases op<;>first | rfl | exact absurd rfl h2
 cases b<;>simp [behindInMarks,e1,e2]
theorem dU{op:CmpOp}{r:R2}(ho:dq X (compareOp op) r)(ha:PE X a ta)(hb:PE X b tb)(hm:behindInMarks op b=false):PE X (.Compare a [op] [b] pos) (jE r ta tb):=by
 intro pins s σ H Q I h
 exact wpAny_Compare1 (xN ha hb I h fun v u s2 x y H2 I2 rx ry q=>ho pins s2 σ H2 x y v u Q I2 rx ry q) hm
def e8(t:TE):TT:=fun σ H Q=>t σ H fun x H'=>∃k,x=.bl k∧Q k H'
theorem aX{op:CmpOp}{r:R2}(ho:dq X (compareOp op) r)(ha:PE X a ta)(hb:PE X b tb)(hm:behindInMarks op b=false):PT X (.Compare a [op] [b] pos) (e8 (jE r ta tb)):=by
 intro pins s σ H Q I h
 refine wpAny_isTrue_Compare1 (cj (ha pins s σ H _ I h) fun v s1 ⟨x,H1,I1,r1,q1⟩=>cj (hb pins s1 σ H1 _ I1 q1) fun u s2 ⟨y,H2,I2,r2,q2⟩=>
  cj (ho pins s2 σ H2 x y v u _ I2 r1 r2 q2) fun c s3 ⟨z,H3,I3,r3,k,e,q3⟩=>?_) hm
 subst e
 cases r3
 exact wpAny_truthy_bool ⟨H3,I3,q3⟩
def eX(r r':R2)(ta tb tc:TE):TE:=fun σ H Q=>ta σ H fun x H1=>tb σ H1 fun y H2=>r x y H2 fun z H3=>∃k,z=.bl k∧
 (if k=true then tc σ H3 fun w' H4=>r' y w' H4 Q else Q (.bl false) H3)
theorem uY{op op':CmpOp}{r r':R2}(ho:dq X (compareOp op) r)(ho':dq X (compareOp op') r')(ha:PE X a ta)(hb:PE X b tb)(hc:PE X c tc)
  (hm:lastMarks [op,op'] [b,c]=false:=by with_unfolding_all rfl):PT X (.Compare a [op,op'] [b,c] pos) (e8 (eX r r' ta tb tc)):=by
 intro pins s σ H Q I h
 refine isTrue_chain (cj (ha pins s σ H _ I h) fun v s1 ⟨x,H1,I1,r1,q1⟩=>test_link (cj (hb pins s1 σ H1 _ I1 q1) fun u s2 ⟨y,H2,I2,r2,q2⟩=>
  cj (ho pins s2 σ H2 x y v u _ I2 r1 r2 q2) fun d s3 ⟨z,H3,I3,r3,k,e,q3⟩=>?_)) hm
 subst e
 cases r3
 refine wpAny_truthy_bool ?_
 cases k with
 | false=>
  obtain⟨k',e',q'⟩:=q3
  cases e'
  exact ite_ff ⟨H3,I3,q'⟩
 | true=>
  refine ite_tt (test_last (cj (hc pins s3 σ H3 _ I3 q3) fun w' s4 ⟨z',H4,I4,r4,q4⟩=>cj (ho' pins s4 σ H4 y z' u w' _ I4 r2 r4 q4) fun d' s5 ⟨z2,H5,I5,r5,k2,e2,q5⟩=>?_))
  subst e2
  cases r5
  exact wpAny_truthy_bool ⟨H5,I5,q5⟩
def tV(K:PySem.W.Frag)(x:V)(H:Hp)(k:Bool):Prop:=
 match x with
 | .non=>k=false
 | .bl b=>k=b
 | .int i=>k=(i != 0)
 | .str y=>y.length≤sizeLine∧k=((y.length:Int) != 0)
 | .byt y=>y.size≤sizeLine∧k=((y.size:Int) != 0)
 | .ref p=>(∃xs,aL K H p xs∧k=!xs.isEmpty)∨(∃xs,cq K H p xs∧k=!xs.isEmpty)∨∃kvs,H p=some (.dK kvs)∧k=!kvs.isEmpty
 | _=>False
theorem p6{κ:Type}{kvs:List (κ×V)}{vs:List (κ×Value)}(r:KV kvs vs):(!vs.isEmpty)=!kvs.isEmpty:=by
 cases r<;>rfl
theorem kq{xs:List V}{its:List Value}(r:aA xs its):(!its.toArray.isEmpty)=!xs.isEmpty:=by
 cases r<;>simp
theorem iD:(sizeLine:Nat) < 2 ^ 63:=by rw [sizeLine_eq];decide
theorem yL:Ao X (fun x H Q=>∃k,tV X.K x H k∧Q k H):=by
 intro pins s σ H x v Q I rx h
 obtain⟨k,e,q⟩:=h
 have hl:=iD
 have hs:sizeLine=16777216:=sizeLine_eq
 cases x with
 | non=>
  cases rx
  have e':k=false:=e
  subst e'
  exact truthy_none ⟨H,I,q⟩
 | bl b=>
  cases rx
  have e':k=b:=e
  subst e'
  exact wpAny_truthy_bool ⟨H,I,q⟩
 | int i=>
  obtain⟨t,rfl⟩:=rx
  have e':k=(i != 0):=e
  subst e'
  exact PySem.P.truthy_int ⟨H,I,q⟩
 | str y=>
  obtain⟨t,rfl⟩:=rx
  obtain⟨hy,e'⟩:y.length≤sizeLine∧k=((y.length:Int) != 0):=e
  subst e'
  exact PySem.P.truthy_str (by omega) ⟨H,I.tok _,q⟩
 | byt y=>
  obtain⟨t,rfl⟩:=rx
  obtain⟨hy,e'⟩:y.size≤sizeLine∧k=((y.size:Int) != 0):=e
  subst e'
  exact PySem.W.truthy_bytes (by omega) ⟨H,I.tok _,q⟩
 | ref p=>
  cases rx
  have e':(∃xs,aL X.K H p xs∧k=!xs.isEmpty)∨(∃xs,cq X.K H p xs∧k=!xs.isEmpty)∨∃kvs,H p=some (.dK kvs)∧k=!kvs.isEmpty:=e
  rcases e' with⟨xs,hx,e'⟩ | ⟨xs,hx,e'⟩ | ⟨kvs,hx,e'⟩
  ·subst e'
   obtain⟨its,r,pl,hz⟩:=I.list hx
   have hlen:=r.length
   exact wpAny_truthy_list pl.isList (by simp only [List.size_toArray];omega) ⟨H,I.tok _,by rw [kq r];exact q⟩
  ·subst e'
   obtain⟨its,r,pl,hz⟩:=I.tuple hx
   have hlen:=r.length
   exact truthy_tuple pl (by simp only [List.size_toArray];omega) ⟨H,I.tok _,by rw [kq r];exact q⟩
  ·subst e'
   obtain⟨hz,hS,vs,r,m⟩:kvs.length≤sizeLine∧(p == sysModules)=false∧∃vs,KV kvs vs∧s.heap.DictOf (mZ X.prog X.w) p vs:=I.hok p _ hx
   have hlen:kvs.length=vs.length:=Paired.length r
   exact wpAny_truthy_dict hS m (by omega) ⟨H,I.tok _,by rw [p6 r];exact q⟩
 | _=>exact(show False from e).elim
theorem eK(ha:PE X a ta)(he:∀whole,isTrue a X.env whole=(do let v ←whole;standAt a.pos;holding [v] (truthy v))):
  PT X a (fun σ H Q=>ta σ H fun x H'=>∃k,tV X.K x H' k∧Q k H'):=by
 intro pins s σ H Q I h
 exact isTrue_plain (cj (ha pins s σ H _ I h) fun v s1 ⟨x,H1,I1,r1,q1⟩=>yL pins s1 σ H1 x v Q I1 r1 q1) (he _)
theorem op_add_str:dq X (binaryOp .Add) (fun x y H Q=>∃i j,x=.str i∧y=.str j∧i.length+j.length≤sizeLine∧Q (.str (i++j)) H):=by
 intro pins s σ H x y v u Q I rx ry h
 obtain⟨i,j,rfl,rfl,hz,q⟩:=h
 obtain⟨t,rfl⟩:=rx
 obtain⟨t',rfl⟩:=ry
 exact add_str (fun t' tk=>⟨.str (i++j),H,I.tok _,⟨_,rfl⟩,q⟩) hz
theorem eM{x:V}{us:List Value}(r:aA [x] us):∃u,us=[u]∧aK x u:=by
 cases r with
 | cons r1 r2=>cases r2;exact⟨_,rfl,r1⟩
theorem rO{x y:V}{us:List Value}(r:aA [x,y] us):∃u w',us=[u,w']∧aK x u∧aK y w':=by
 cases r with
 | cons r1 r2=>
  cases r2 with
  | cons r3 r4=>cases r4;exact⟨_,_,rfl,r1,r3⟩
theorem rY(hc:X.calm=true):bN X (.builtin "max") (fun xs H Q=>∃i j,xs=[.int i,.int j]∧Q (.int (if j > i then j else i)) H):=by
 intro pins s σ H xs us Q I r h
 obtain⟨i,j,rfl,q⟩:=h
 obtain⟨u,w',rfl,⟨t,rfl⟩,⟨t',rfl⟩⟩:=rO r
 refine max_two_ints (I.ok.hd hc) fun h' tk k=>⟨_,H,I.kept k,?_,q⟩
 by_cases hj:j > i
 ·rw [if_pos hj,if_pos hj];exact⟨_,rfl⟩
 ·rw [if_neg hj,if_neg hj];exact⟨_,rfl⟩
theorem l7(hc:X.calm=true):bN X (.builtin "min") (fun xs H Q=>∃i j,xs=[.int i,.int j]∧Q (.int (if j < i then j else i)) H):=by
 intro pins s σ H xs us Q I r h
 obtain⟨i,j,rfl,q⟩:=h
 obtain⟨u,w',rfl,⟨t,rfl⟩,⟨t',rfl⟩⟩:=rO r
 refine min_two_ints (I.ok.hd hc) fun h' tk k=>⟨_,H,I.kept k,?_,q⟩
 by_cases hj:j < i
 ·rw [if_pos hj,if_pos hj];exact⟨_,rfl⟩
 ·rw [if_neg hj,if_neg hj];exact⟨_,rfl⟩
theorem rW:bN X (.type "int") (fun xs H Q=>(∃i,xs=[.int i]∧Q (.int i) H)∨∃k,xs=[.bl k]∧Q (.int (if k then 1 else 0)) H):=by
 intro pins s σ H xs us Q I r h
 rcases h with⟨i,rfl,q⟩ | ⟨k,rfl,q⟩
 ·obtain⟨u,rfl,t,rfl⟩:=eM r
  exact call_int_int ⟨.int i,H,I,⟨_,rfl⟩,q⟩
 ·obtain⟨u,rfl,r1⟩:=eM r
  cases r1
  exact call_int_bool ⟨.int (if k then 1 else 0),H,I.tok _,⟨_,rfl⟩,q⟩
theorem call_str_int:bN X (.type "str") (fun xs H Q=>∃i,xs=[.int i]∧i.natAbs.log2 < 1920∧Q (.str (toString i)) H):=by
 intro pins s σ H xs us Q I r h
 obtain⟨i,rfl,hz,q⟩:=h
 obtain⟨u,rfl,t,rfl⟩:=eM r
 exact PySem.P.str_of_int hz ⟨.str _,H,I.tok _,⟨_,rfl⟩,q⟩
end
end L2
namespace L2
open PySem PySem.Spec PyProof.Rows
structure pN(h:Heap)(x dx C:Addr)(mA:Str→Option Value):Prop where
 obj:h.get? x=some (PySem.W.instObj C dx)
 ns:h.Ns1 dx mA
 ne:dx≠x
theorem sE{h:Heap}{dx:Addr}{mA:Str→Option Value}(n:h.Ns1 dx mA):∃od,h.get? dx=some od∧∀name,PySem.W.lookIn name od=some (mA name):=by
 obtain⟨o,es,ep,ho,hd,hk,_,hm⟩:=n
 refine⟨o,ho,fun name=>?_⟩
 have e:=hm name
 unfold nsFind findBy at e
 rw [←Array.find?_toList]at e
 unfold PySem.W.lookIn
 rw [hd]
 dsimp only
 split
 ·rename_i y q
  rw [q]at e
  exact congrArg some e
 ·rename_i q
  rw [q]at e
  have a:es.toList.any (·.refKey)=false:=by
   rw [List.any_eq_false]
   intro y hy
   obtain⟨z,t,hkey⟩:=hk y (Array.mem_toList_iff.mp hy)
   simp [DictEntry.refKey,hkey]
  have a':¬es.toList.any (·.refKey)=true:=by rw [a];exact Bool.false_ne_true
  rw [if_neg a']
  exact congrArg some e
theorem pN.look{h:Heap}{x dx C:Addr}{mA:Str→Option Value}(I:pN h x dx C mA):∃od,PySem.W.InstAt h x (PySem.W.instObj C dx) C (some od)∧∀name,PySem.W.lookIn name od=some (mA name):=
 let ⟨od,ho,hl⟩:=sE I.ns
 ⟨od,⟨I.obj,rfl,rfl,ho⟩,hl⟩
section
variable {prog:Program} {w:World} {A:Around} {E:Value→Shared→Prop} {s:Shared} {K:PySem.W.Frag} {x dx C f:Addr} {mA:Str→Option Value} {name:Str} {v:Value}
theorem vW{expr:Bool}{Q:Value→Shared→Prop}(X:K.In s.heap)(I:pN s.heap x dx C mA)(hg:PySem.W.plainGet K C name=true)(hh:PySem.W.hasDictIn K C=true)
  (ha:PySem.W.findIn K (.ref C) name=some none) (hv:mA name=some v) (hv':PySem.W.handedIn v=true) (h:Q v { s with toks:=s.toks+1 }) :
  wpAny (model prog w) A (getAttr (.ref x) name expr) Q E s:=by
 obtain⟨od,J,hl⟩:=I.look
 exact PySem.W.get_value X J (PySem.W.plainGet_of hg).1 (PySem.W.findObj_own hh ha rfl (by rw [hl,hv])) hv' h
theorem uc{pl:Sem Bool}{Q:Value×List Value→Shared→Prop}(X:K.In s.heap)(I:pN s.heap x dx C mA)(hg:PySem.W.plainGet K C name=true)
  (hf:PySem.W.findIn K (.ref C) name=some (some (.ref f))) (ht:PySem.W.isFn K (.ref f)=true) (hv:mA name=none) (h:Q (.ref f,[.ref x]) s) :
  wpAny (model prog w) A (getMethod (.ref x) name pl) Q E s:=by
 obtain⟨od,J,hl⟩:=I.look
 exact PySem.W.method_fn X J (PySem.W.plainGet_of hg).1 (PySem.W.plainGet_of hg).2 hf (beq_iff_eq.mp ht) (by show(PySem.W.lookIn name od).map (·.isSome)=some false;rw [hl,hv];rfl) h
theorem xc{ns:List Str}{Q:Unit→Shared→Prop}(X:K.In s.heap)(I:pN s.heap x dx C mA)
  (hs:PySem.W.findIn K (.ref C) "__setattr__"=some (some (.builtin "object.__setattr__"))) (hp:PySem.W.plainOver K C=true) (ht:PySem.W.takerIn K C name=some none) (hh:PySem.W.hasDictIn K C=true)
  (hw:PySem.Within mA ns) (hsz:ns.length≤sizeLine)
  (h:∀h',pN h' x dx C (fun y=>if y=name then some v else mA y)→Heap.SameBut dx s.heap h'→Q () { s with heap:=h',toks:=s.toks+2 }) :
  wpAny (model prog w) A (setAttr (.ref x) name v) Q E s:=by
 obtain⟨od,J,hl⟩:=I.look
 refine PySem.W.set_plain X J hs (PySem.W.osa_open (s:={ s with toks:=s.toks+1 }) (r:=none) X J hp ht fun b=>?_)
 obtain⟨cd,hc,hd'⟩:=PySem.W.any_some hh
 have hx:s.heap.get? x=some ⟨.ref C,some dx,.plain,#[]⟩:=I.obj
 refine wpAny_bind (wpAny_pure (wpAny_bind (wpAny_bind (wpAny_loadPart hx (wpAny_bind (PySem.W.Looks.here (s:={ s with toks:=s.toks+1 }) (PySem.W.looks_clsIn X hc) ?_))))))
 rw [hd']
 refine wpAny_pure (a:=some dx) (wpAny_bind (wpAny_pure (wpAny_bind ?_)))
 refine wpAny_nsSet1 (s:={ s with toks:=s.toks+1 }) I.ns fun h' hn2 hs2=>?_
 obtain⟨oD,esD,epD,hoD,hdD,hcD⟩:=hn2.count (PySem.Within.cons name v hw)
 refine wpAny_bind (wpAny_lookBehind hoD (by rw [hdD];exact pastItsLine_dict (Nat.le_trans hcD (by rw [List.length_cons];omega))) ?_)
 exact wpAny_pure (h _ ⟨(hs2.2 _ (Ne.symm I.ne)).trans I.obj,hn2,I.ne⟩ hs2)
theorem uz{R:Result→Shared→Prop}{vs:List Value}{kw:List (Str×Value)}(X:K.In s.heap)(hm:PySem.W.makesIn K C=true)
  (hi:PySem.W.findIn K (.ref C) "__init__"=some (some (.ref f))) (hf:PySem.W.typeIn K (.ref f)=some (.type "function"))
  (h:codeAny (model prog w) (A.under (.builtin "type.__call__" ⟨.ref C::vs,kw⟩)) (.call (.ref f) ⟨.ref (s.heap.objs.size+1)::vs,kw⟩) (PySem.W.InitBack (s.heap.objs.size+1) R)
   { s with heap:=(s.heap.push PySem.W.emptyDict).push (PySem.W.instObj C s.heap.objs.size) }) :
  codeAny (model prog w) A (.call (.ref C) ⟨vs,kw⟩) R s:=by
 obtain⟨hh,g,d,t,os⟩:=s
 exact PySem.W.make_core (PySem.W.makes_of X hm) (PySem.W.looks_findIn X hi) (fun self=>PySem.W.bind_fn X self hf) (.inl rfl) h
end
def dF(f:Str)(v:V):List (Str×V)→List (Str×V)
 | []=>[(f,v)]
 | (g,x)::r=>if g=f then(g,v)::r else(g,x)::dF f v r
theorem aV(f g:Str)(v:V):∀fs:List (Str×V),(dF f v fs).lookup g=if g=f then some v else fs.lookup g
 | []=>by
  show List.lookup g [(f,v)]=_
  by_cases h:g=f
  ·have hb:(g == f)=true:=beq_iff_eq.mpr h
   simp only [List.lookup,hb,if_pos h]
  ·have hb:(g == f)=false:=beq_eq_false_iff_ne.mpr h
   simp only [List.lookup,hb,if_neg h]
 | (k,x)::r=>by
  have ih:=aV f g v r
  rw [show dF f v ((k,x)::r)=(if k=f then(k,v)::r else(k,x)::dF f v r)from rfl]
  by_cases hk:k=f
  ·rw [if_pos hk]
   by_cases h:g=k
   ·have hb:(g == k)=true:=beq_iff_eq.mpr h
    simp only [List.lookup,hb,if_pos (h.trans hk)]
   ·have hb:(g == k)=false:=beq_eq_false_iff_ne.mpr h
    simp only [List.lookup,hb,if_neg (fun e:g=f=>h (e.trans hk.symm))]
  ·rw [if_neg hk]
   by_cases h:g=k
   ·have hb:(g == k)=true:=beq_iff_eq.mpr h
    simp only [List.lookup,hb,if_neg (fun e:g=f=>hk (h.symm.trans e))]
   ·have hb:(g == k)=false:=beq_eq_false_iff_ne.mpr h
    simp only [List.lookup,hb]
    exact ih
theorem jj(f:Str)(v:V):∀fs:List (Str×V),f∈(dF f v fs).map (·.1)∧∀g,g∈fs.map (·.1)→g∈(dF f v fs).map (·.1)
 | []=>⟨by simp [dF],fun g h=>by simp at h⟩
 | (k,x)::r=>by
  obtain⟨i1,i2⟩:=jj f v r
  rw [show dF f v ((k,x)::r)=(if k=f then(k,v)::r else(k,x)::dF f v r)from rfl]
  by_cases hk:k=f
  ·rw [if_pos hk]
   subst hk
   exact⟨by simp,fun g h=>by simpa using h⟩
  ·rw [if_neg hk]
   refine⟨?_,fun g h=>?_⟩
   ·rw [List.map_cons]
    exact List.mem_cons_of_mem _ i1
   ·rw [List.map_cons]at h ⊢
    rcases List.mem_cons.mp h with e | e
    ·exact List.mem_cons.mpr (.inl e)
    ·exact List.mem_cons_of_mem _ (i2 g e)
theorem eH(f:Str)(v:V):∀fs:List (Str×V),(dF f v fs).length≤fs.length+1
 | []=>by simp [dF]
 | (k,x)::r=>by
  have ih:=eH f v r
  rw [show dF f v ((k,x)::r)=(if k=f then(k,v)::r else(k,x)::dF f v r)from rfl]
  by_cases hk:k=f
  ·rw [if_pos hk,List.length_cons,List.length_cons];omega
  ·rw [if_neg hk,List.length_cons,List.length_cons];omega
theorem lG.some_of{v:V}{o:Option Value}(r:lG (some v) o):∃u,o=some u∧aK v u:=by
 cases o with
 | none=>exact(show False from r).elim
 | some u=>exact⟨u,rfl,r⟩
theorem lG.none_of{o:Option Value}(r:lG none o):o=none:=by
 cases o with
 | none=>rfl
 | some u=>exact(show False from r).elim
theorem so{v:V}{u:Value}(r:aK v u):PySem.W.handedIn u=true:=by
 cases v with
 | non=>cases(show u=Value.none from r);rfl
 | bl b=>cases(show u=Value.bool b from r);rfl
 | int i=>obtain⟨t,e⟩:=(show ∃t,u=Value.int i t from r);cases e;rfl
 | str x=>obtain⟨t,e⟩:=(show ∃t,u=Value.str x t from r);cases e;rfl
 | byt b=>obtain⟨t,e⟩:=(show ∃t,u=Value.bytes b t from r);cases e;rfl
 | flt b=>obtain⟨t,e⟩:=(show ∃t,u=Value.float b t from r);cases e;rfl
 | ref a=>cases(show u=Value.ref a from r);rfl
 | ty n=>cases(show u=Value.type n from r);rfl
section
variable {P:Program} {w:World} {H H':Hp} {h h':Heap} {a C dx:Addr} {fs fs':List (Str×V)}
theorem jX(hok:iq P w H h)(e:H a=some (.ins C dx fs)):∃mA,pN h a dx C mA∧(∀f,lG (fs.lookup f) (mA f))∧PySem.Within mA (fs.map (·.1))∧fs.length≤1000∧H dx=some (.own a):=by
 obtain⟨d,z,ne,ob,mA,n,r,q⟩:=(show cy P w H h a (.ins C dx fs)from hok a _ e)
 exact⟨mA,⟨ob,n,ne⟩,r,q,z,d⟩
end
structure tJ(K:PySem.W.Frag)(C:Addr):Prop where
 pg:PySem.W.plainGet K C Str.empty=true
 hd:PySem.W.hasDictIn K C=true
 po:PySem.W.plainOver K C=true
 sa:PySem.W.findIn K (.ref C) "__setattr__"=some (some (.builtin "object.__setattr__"))
theorem tJ.get{K:PySem.W.Frag}{C:Addr}(c:tJ K C)(f:Str):PySem.W.plainGet K C f=true:=c.pg
def NoAttr(K:PySem.W.Frag)(C:Addr)(f:Str):Prop:=PySem.W.findIn K (.ref C) f=some none
theorem NoAttr.taker{K:PySem.W.Frag}{C:Addr}{f:Str}(n:NoAttr K C f):PySem.W.takerIn K C f=some none:=by
 unfold PySem.W.takerIn
 rw [show PySem.W.findIn K (.ref C) f=some none from n]
 rfl
structure xI(K:PySem.W.Frag)(C:Addr)(m:Str)(f:Addr):Prop where
 at_:PySem.W.findIn K (.ref C) m=some (some (.ref f))
 fn:PySem.W.isFn K (.ref f)=true
 kp:PySem.W.keepIn K (.ref f)=true
section
variable {X:Cx} {pins:List (Addr×Obj)} {σ:St} {H:Hp} {s:Shared} {a C dx:Addr} {fs:List (Str×V)} {f:Str} {v:V} {A:Around} {E:Value→Shared→Prop}
theorem p4{b:Bool}{Q:Value→Shared→Prop}(I:av X pins σ H s)(e:H a=some (.ins C dx fs))(c:tJ X.K C)(n:NoAttr X.K C f)(l:fs.lookup f=some v)
  (h:∀u s',av X pins σ H s'→aK v u→Q u s'):wpAny (model X.prog X.w) A (getAttr (.ref a) f b) Q E s:=by
 obtain⟨mA,O,r,_,_,_⟩:=jX I.hok e
 obtain⟨u,hu,ru⟩:=lG.some_of (v:=v) (o:=mA f) (by rw [←l];exact r f)
 exact vW I.kIn O (c.get f) c.hd n hu (so ru) (h u _ (I.tok _) ru)
theorem kn{m:Str}{g:Addr}{pl:Sem Bool}{Q:Value×List Value→Shared→Prop}(I:av X pins σ H s)(e:H a=some (.ins C dx fs))(c:tJ X.K C)(k:xI X.K C m g)(l:fs.lookup m=none)
  (h:Q (.ref g,[.ref a]) s):wpAny (model X.prog X.w) A (getMethod (.ref a) m pl) Q E s:=by
 obtain⟨mA,O,r,_,_,_⟩:=jX I.hok e
 have hn:mA m=none:=lG.none_of (by rw [←l];exact r m)
 exact uc I.kIn O (c.get m) k.at_ k.fn hn h
theorem qB{y:V}{u:Value}{Q:Unit→Shared→Prop}(I:av X pins σ H s)(e:H a=some (.ins C dx fs))(c:tJ X.K C)(n:NoAttr X.K C f)(hl:fs.length < 1000)(ry:aK y u)
  (h:∀s',av X pins σ (upd H a (.ins C dx (dF f y fs))) s'→Q () s'):wpAny (model X.prog X.w) A (setAttr (.ref a) f u) Q E s:=by
 obtain⟨mA,O,r,wi,_,ho⟩:=jX I.hok e
 have hz:(fs.map (·.1)).length≤sizeLine:=by rw [List.length_map,sizeLine_eq];omega
 refine xc I.kIn O c.sa c.po n.taker c.hd wi hz fun h' O' sb=>h _ ?_
 have hd:∃o,h'.get? dx=some o:=let ⟨o,_,_,e',_⟩:=O'.ns;⟨o,e'⟩
 refine I.write (x:=a) (e:=dx) (by rw [e];exact True.intro) (.inr ho) (fun b q hb z=>(sb.2 b hb).trans z) hd ?_
 refine⟨by rw [ai O.ne];exact ho,?_,O.ne,O'.obj,_,O'.ns,fun g=>?_,fun g hg=>?_⟩
 ·have:=eH f y fs;omega
 ·show lG ((dF f y fs).lookup g) (if g=f then some u else mA g)
  rw [aV]
  by_cases q:g=f
  ·rw [if_pos q,if_pos q];exact ry
  ·rw [if_neg q,if_neg q];exact r g
 ·by_cases q:g=f
  ·rw [q];exact(jj f y fs).1
  ·refine(jj f y fs).2 g (wi g fun z=>hg ?_)
   show(if g=f then some u else mA g)=none
   rw [if_neg q];exact z
theorem av.made(I:av X pins σ H s):av X pins σ (upd (upd H s.heap.objs.size (.own (s.heap.objs.size+1))) (s.heap.objs.size+1) (.ins C s.heap.objs.size []))
  { s with heap:=(s.heap.push PySem.W.emptyDict).push (PySem.W.instObj C s.heap.objs.size) }:=by
 have e1:(s.heap.push PySem.W.emptyDict).get? s.heap.objs.size=some PySem.W.emptyDict:=Heap.get?_push_size s.heap rfl
 have e2:((s.heap.push PySem.W.emptyDict).push (PySem.W.instObj C s.heap.objs.size)).get? (s.heap.objs.size+1)=some (PySem.W.instObj C s.heap.objs.size):=by
  have:=Heap.get?_push_size (s.heap.push PySem.W.emptyDict) (o:=PySem.W.instObj C s.heap.objs.size) rfl
  rwa [Heap.size_push]at this
 have e3:(s.heap.push PySem.W.emptyDict).Ns s.heap.objs.size (fun _=>none):=⟨PySem.W.emptyDict,#[],_,e1,rfl,(fun e he=>absurd he (by simp)),fun _=>rfl⟩
 have I1:=I.laid (a:=s.heap.objs.size) (o:=.own (s.heap.objs.size+1)) (h':=s.heap.push PySem.W.emptyDict) (t':=s.toks) (fun b u q=>Heap.get?_push_of_some _ q) (Nat.le_refl _) ⟨_,e1⟩
 refine I1.laid (a:=s.heap.objs.size+1) (o:=.ins C s.heap.objs.size []) (t':=s.toks) (fun b u q=>Heap.get?_push_of_some _ q) (Nat.le_of_eq (Heap.size_push _ _)) ?_
 have ne:s.heap.objs.size≠s.heap.objs.size+1:=Nat.ne_of_lt (Nat.lt_succ_self _)
 refine⟨by rw [ai ne,ae],Nat.zero_le _,ne,e2,fun _=>none,(Heap.Ns1.of_empty e3).at fun o q=>Heap.get?_push_of_some _ q,fun _=>True.intro,fun y hy=>absurd rfl hy⟩
theorem vP{prog:Program}{w:World}{env:Env}{e:Expr}{f:Str}{pos:Pos}{s:Shared}{Q:Value→Shared→Prop}(hb:attributeBase e f env (eval e env)=eval e env)
  (h:wpAny (model prog w) A (eval e env) (fun o s₁=>wpAny (model prog w) A (getAttr o f true) Q E s₁) E s):wpAny (model prog w) A (eval (.Attribute e f pos) env) Q E s:=
 Attribute_any_ h (by rw [arm_eval_Attribute,hb])
end
def jR(K:PySem.W.Frag)(ta:TE)(f:Str):TE:=fun σ H Q=>ta σ H fun x H1=>∃a C dx fs v,x=.ref a∧H1 a=some (.ins C dx fs)∧tJ K C∧NoAttr K C f∧fs.lookup f=some v∧Q v H1
def jP(K:PySem.W.Frag)(ta tv:TE)(f:Str):TS:=fun D σ H=>tv σ H fun y H1=>ta σ H1 fun x H2=>∃a C dx fs,x=.ref a∧H2 a=some (.ins C dx fs)∧tJ K C∧NoAttr K C f∧fs.length < 1000∧
 D.nx σ (upd H2 a (.ins C dx (dF f y fs)))
section
variable {X:Cx} {o e value:Expr} {f:Str} {pos pos' tpos:Pos} {ta tv:TE}
theorem dD(he:PE X e ta)(hb:attributeBase e f X.env (eval e X.env)=eval e X.env):PE X (.Attribute e f pos) (jR X.K ta f):=by
 intro pins s σ H Q I h
 refine vP hb (cj (he pins s σ H _ I h) fun u s1 ⟨x,H1,I1,rx,a,C,dx,fs,v,ex,ea,c,n,l,q⟩=>?_)
 subst ex
 obtain rfl:u=Value.ref a:=rx
 exact p4 I1 ea c n l fun u' s2 I2 ru=>⟨v,H1,I2,ru,q⟩
theorem kH(ha:PE X o ta)(hv:PE X value tv)(hs:swapsWith value (some (.Attribute o f pos')) pos.line X.env=pure false):PS X (.Assign [.Attribute o f pos'] value pos) (jP X.K ta tv f):=by
 intro pins s σ H D I h
 refine plainObj_wpAny_Assign_Attribute (cj (hv pins s σ H _ I h) fun u s1 ⟨y,H1,I1,ry,q⟩=>cj (ha pins s1 σ H1 _ I1 q) fun ov s2 ⟨x,H2,I2,rx,a,C,dx,fs,ex,ea,c,n,l,q2⟩=>?_) hs
 subst ex
 obtain rfl:ov=Value.ref a:=rx
 exact qB I2 ea c n l ry fun s3 I3=>⟨σ,_,I3,q2⟩
end
section
variable {X:Cx} {pins:List (Addr×Obj)} {σ:St} {H:Hp} {s:Shared} {A:Around} {E:Value→Shared→Prop} {Q:Value→Shared→Prop} {c:Value} {b:Bool}
inductive iV(K:PySem.W.Frag)(H:Hp):V→Value→Prop where
 | non:iV K H .non (.type "NoneType")
 | bl (x:Bool):iV K H (.bl x) (.type "bool")
 | int (i:Int):iV K H (.int i) (.type "int")
 | str (x:Str):iV K H (.str x) (.type "str")
 | flt (x:UInt64):iV K H (.flt x) (.type "float")
 | lst {a:Addr} {xs:List V} (e:H a=some (.lst xs)):iV K H (.ref a) (.type "list")
 | frz {a:Addr} {o:Obj} {xs:List V} (e:H a=some (.frz o (.lst xs))):iV K H (.ref a) (.type "list")
 | tup {a:Addr} {xs:List V} (e:H a=some (.tup xs)):iV K H (.ref a) (.type "tuple")
 | dK {a:Addr} {kvs:List (nY×V)} (e:H a=some (.dK kvs)):iV K H (.ref a) (.type "dict")
 | dT {a:Addr} {kvs:List (List nY×V)} (e:H a=some (.dT kvs)):iV K H (.ref a) (.type "dict")
 | ins {a C dx:Addr} {fs:List (Str×V)} (e:H a=some (.ins C dx fs)) (cl:tJ K C) (ha:PySem.W.findIn K (.ref C) "__class__"=some (some (.builtin "object.__class__")))
   (hn:PySem.W.specialIn K (.builtin "object.__class__") "__get__"=some (some (.builtin "getset_descriptor.__get__"))) (htk:PySem.W.takesIn K (.builtin "object.__class__")=some true)
   (hm:PySem.W.mroIn K C (.type "object")=some true):iV K H (.ref a) (.ref C)
theorem sy{x:V}{u t:Value}(I:av X pins σ H s)(rx:aK x u)(ty:iV X.K H x t)(e:PySem.W.kitOne X.K t c=some b)(h:∀tk,Q (.bool b) { s with toks:=tk }):
  wpAny (model X.prog X.w) A (call (.builtin "isinstance") [u,c]) Q E s:=by
 cases ty with
 | non=>cases(show u=Value.none from rx);exact PySem.W.kia_one PySem.W.kitx_none I.kIn True.intro e (fun z=>nomatch z) h
 | bl y=>cases(show u=Value.bool y from rx);exact PySem.W.kia_one PySem.W.kitx_bool I.kIn True.intro e (fun z=>nomatch z) h
 | int i=>obtain⟨t,q⟩:=(show ∃t,u=Value.int i t from rx);cases q;exact PySem.W.kia_one PySem.W.kitx_int I.kIn True.intro e (fun z=>nomatch z) h
 | str y=>obtain⟨t,q⟩:=(show ∃t,u=Value.str y t from rx);cases q;exact PySem.W.kia_one PySem.W.kitx_str I.kIn True.intro e (fun z=>nomatch z) h
 | flt y=>obtain⟨t,q⟩:=(show ∃t,u=Value.float y t from rx);cases q;exact PySem.W.kia_one PySem.W.kitx_float I.kIn True.intro e (fun z=>nomatch z) h
 | @lst a xs ea=>
  cases(show u=Value.ref a from rx)
  obtain⟨_,_,n,_,h1⟩:=(show cy X.prog X.w H s.heap a (.lst xs)from I.hok a _ ea)
  exact PySem.W.kia_one PySem.W.kitx_list I.kIn ⟨_,h1,rfl⟩ e (fun z=>nomatch z) h
 | @frz a ob xs ea=>
  cases(show u=Value.ref a from rx)
  obtain⟨_,_,_,n,_,h1⟩:=(show cy X.prog X.w H s.heap a (.frz ob (.lst xs))from I.hok a _ ea)
  exact PySem.W.kia_one PySem.W.kitx_list I.kIn ⟨_,h1,rfl⟩ e (fun z=>nomatch z) h
 | @tup a xs ea=>
  cases(show u=Value.ref a from rx)
  obtain⟨_,_,_,p⟩:=(show cy X.prog X.w H s.heap a (.tup xs)from I.hok a _ ea)
  obtain⟨o,h1,h2,_⟩:=p
  exact PySem.W.kia_one PySem.W.kitx_tuple I.kIn ⟨o,h1,h2⟩ e (fun z=>nomatch z) h
 | @dK a kvs ea=>
  cases(show u=Value.ref a from rx)
  obtain⟨_,_,vs,_,p⟩:=(show cy X.prog X.w H s.heap a (.dK kvs)from I.hok a _ ea)
  obtain⟨o,es,ep,h1,h2,_⟩:=p
  exact PySem.W.kia_one PySem.W.kitx_dict I.kIn ⟨o,h1,h2.1⟩ e (fun z=>nomatch z) h
 | @dT a kvs ea=>
  cases(show u=Value.ref a from rx)
  obtain⟨_,_,xs,_,o,es,ep,h1,h2,_⟩:=(show cy X.prog X.w H s.heap a (.dT kvs)from I.hok a _ ea)
  exact PySem.W.kia_one PySem.W.kitx_dict I.kIn ⟨o,h1,h2.1⟩ e (fun z=>nomatch z) h
 | @ins a C dx fs ea cl ha hn htk hm=>
  cases(show u=Value.ref a from rx)
  obtain⟨mA,O,_⟩:=jX I.hok ea
  obtain⟨od,J,_⟩:=O.look
  exact PySem.W.kia_one (PySem.W.kitx_own (cl.get _) cl.hd ha hn htk hm) I.kIn J e (fun z=>nomatch z) h
end
end L2
namespace L2
open PySem PySem.Spec PyProof.Rows
structure dz(k:Nat)(A:Around):Prop where
 hd:A.handled=none
 dp:A.depth+3 * k+5 < recursionLimit
 un:A.units+16 * k+200 < cLine
theorem dz.mono{j k:Nat}{A:Around}(r:dz k A)(h:j≤k):dz j A:=⟨r.hd,by have:=r.dp;omega,by have:=r.un;omega⟩
theorem dz.deeper{k:Nat}{A:Around}(r:dz (k+1) A)(env:Env):dz k (A.deeper env):=
 ⟨r.hd,by have:=r.dp;show A.depth+1+3 * k+5 < _;omega,by have:=r.un;show A.units+3+16 * k+200 < _;omega⟩
theorem p8{A:Around}{C:Addr}{us:List Value}{kw:List (Str×Value)}:(A.under (.builtin "type.__call__" ⟨.ref C::us,kw⟩)).depth=A.depth+1:=by
 first | rfl | simp [Around.under,Code.weight,Code.isCreation,Code.isGuard,Code.isCaller,Code.frames,Code.isFrame,guardIds]
theorem p9{A:Around}{C:Addr}{us:List Value}{kw:List (Str×Value)}:(A.under (.builtin "type.__call__" ⟨.ref C::us,kw⟩)).units=A.units+1:=by
 first | rfl | simp [Around.under,Code.cUnits,Code.frames,Code.isFrame]
theorem dz.make{k:Nat}{A:Around}(r:dz (k+1) A)(C:Addr)(us:List Value)(kw:List (Str×Value)):dz k (A.under (.builtin "type.__call__" ⟨.ref C::us,kw⟩)):=
 ⟨r.hd,by have:=r.dp;rw [p8];omega,by have:=r.un;rw [p9];omega⟩
theorem dz.depth{k:Nat}{A:Around}(r:dz k A):A.depth < recursionLimit:=by have:=r.dp;omega
theorem dz.units{k:Nat}{A:Around}(r:dz k A):A.units+64 < cLine:=by have:=r.un;omega
def fe:TA:=fun _ H Q=>Q [] H
def c7(ta:TE)(tr:TA):TA:=fun σ H Q=>ta σ H fun x H1=>tr σ H1 fun xs H2=>Q (x::xs) H2
section
variable {X:Cx} {e:Expr} {es:List Expr} {te:TE} {t:TA} {pos:Pos}
theorem af:PA X [] fe:=fun _ _ _ _ H Q I h=>Calls.spliced_nil ⟨[],H,I,.nil,h⟩
theorem aa(ha:PE X e te)(hr:PA X es t)(hs:starEach (e::es) X.env=(false,eval e X.env)::starEach es X.env:=by rfl):PA X (e::es) (c7 te t):=by
 intro pos pins s σ H Q I h
 rw [hs]
 show wpAny _ _ (spliced ((false,eval e X.env)::backTo pos (starEach es X.env))) _ _ s
 refine Calls.spliced_cons (cj (ha pins s σ H _ I h) fun u s1 ⟨x,H1,I1,r1,q1⟩=>?_)
 exact cj (hr pos pins s1 σ H1 _ I1 q1) fun us s2 ⟨xs,H2,I2,r2,q2⟩=>⟨x::xs,H2,I2,.cons r1 r2,q2⟩
def jT(t:TA):TE:=fun σ H Q=>t σ H fun xs H1=>xs.length≤sizeLine∧∀p,H1 p=none→Q (.ref p) (upd H1 p (.tup xs))
def jS(t:TA):TE:=fun σ H Q=>t σ H fun xs H1=>xs.length≤sizeLine∧∀p,H1 p=none→Q (.ref p) (upd H1 p (.lst xs))
theorem jl{x1}(h:PA X es t):PE X (.Tuple es x1 pos) (jT t):=by
 intro pins s σ H Q I hq
 refine wpAny_Tuple_spliced (cj (h pos pins s σ H _ I hq) fun us s1 ⟨xs,H1,I1,r,z,q⟩=>⟨by rw [←r.length];exact z,?_⟩)
 have hf:H1 s1.heap.objs.size=none:=I1.hok.fresh (Nat.le_refl _)
 refine⟨.ref s1.heap.objs.size,upd H1 s1.heap.objs.size (.tup xs),I1.laid (t':=s1.toks) (fun b u e=>Heap.get?_push_of_some _ e) (Nat.le_refl _) ?_,rfl,q _ hf⟩
 exact⟨z,us,r,⟨_,Heap.get?_push_size _ rfl,rfl,_,rfl⟩⟩
theorem cg(h:PA X es t):PE X (.List es pos) (jS t):=by
 intro pins s σ H Q I hq
 refine wpAny_List_spliced (cj (h pos pins s σ H _ I hq) fun us s1 ⟨xs,H1,I1,r,z,q⟩=>⟨by rw [←r.length];exact z,?_⟩)
 have hf:H1 s1.heap.objs.size=none:=I1.hok.fresh (Nat.le_refl _)
 refine⟨.ref s1.heap.objs.size,upd H1 s1.heap.objs.size (.lst xs),I1.laid (t':=s1.toks) (fun b u e=>Heap.get?_push_of_some _ e) (Nat.le_refl _) ?_,rfl,q _ hf⟩
 exact⟨z,us,0,r,Heap.get?_push_size _ rfl⟩
end
abbrev Sp:=List V→Hp→VK→XK→Prop
abbrev pJ:=List Env→Hp→Shared→XK→Value→Shared→Prop
structure pM(P:Program)(w:World)(K:PySem.W.Frag)(mg:Str→Option Value)(base:Heap)(A:Around)(outer:List Env)(s:Shared)(H:Hp):Prop where
 frames:A.frames=some outer
 mod:Mod K mg base
 bs:∀b o,base.get? b=some o→s.heap.get? b=some o∧H b=none
 bsz:base.objs.size≤s.heap.objs.size
 funs:s.heap.FunFrames base outer
 frf:∀b∈lE outer,H b=none
 hok:iq P w H s.heap
 bare:AllBare s.gens
def CE(outer:List Env)(P:Program)(w:World)(H:Hp)(s:Shared)(Q:VK)(u:Value)(s':Shared):Prop:=
 ∃v H',s'.os=s.os∧AllBare s'.gens∧Un (lE outer) [] H H' s.heap s'.heap∧iq P w H' s'.heap∧aK v u∧Q v H'
def CR(CX:pJ)(outer:List Env)(P:Program)(w:World)(H:Hp)(s:Shared)(Q:VK)(E:XK)(r:Result)(s':Shared):Prop:=
 match r with
 | .ok (.ret u)=>CE outer P w H s Q u s'
 | .ok _=>False
 | .error e=>CX outer H s E e s'
structure bj(P:Program)(w:World)(K:PySem.W.Frag)(mg:Str→Option Value)(base:Heap)(CX:pJ)(k:Nat)(f:Addr)(fd:FuncData)(ps:List Str)(sp:Sp):Prop where
 len:∀vs H Q E,sp vs H Q E→vs.length=ps.length
 run:∀(A:Around) (outer:List Env) (s:Shared) (H:Hp) (args:Args) (us:List Value) (vs:List V) (Q:VK) (E:XK),dz k A→pM P w K mg base A outer s H→BindsTo s fd args (ps.zip us)→aA vs us→sp vs H Q E→
  codeAny (model P w) A (.call (.ref f) args) (CR CX outer P w H s Q E) s
theorem bj.mono{P:Program}{w:World}{K:PySem.W.Frag}{mg:Str→Option Value}{base:Heap}{CX:pJ}{j k:Nat}{f:Addr}{fd:FuncData}{ps:List Str}{sp:Sp}(F:bj P w K mg base CX j f fd ps sp)(h:j≤k):
  bj P w K mg base CX k f fd ps sp:=⟨F.len,fun A outer s H args us vs Q E hr=>F.run A outer s H args us vs Q E (hr.mono h)⟩
theorem pM.make{P:Program}{w:World}{K:PySem.W.Frag}{mg:Str→Option Value}{base:Heap}{A:Around}{outer:List Env}{s:Shared}{H:Hp}(e:pM P w K mg base A outer s H)(C:Addr)(us:List Value)(kw:List (Str×Value)):
  pM P w K mg base (A.under (.builtin "type.__call__" ⟨.ref C::us,kw⟩)) outer s H:=⟨by first | exact e.frames | (simpa [Around.under,Code.envs,Code.isFrame,pushEnvs]using e.frames),e.mod,e.bs,e.bsz,e.funs,e.frf,e.hok,e.bare⟩
section
variable {X:Cx} {pins:List (Addr×Obj)} {σ:St} {H:Hp} {s s':Shared}
theorem av.env0(I:av X pins σ H s):pM X.prog X.w X.K X.mg X.base X.A X.stack s H:=
 ⟨I.ok.frames,I.ok.mod,I.bs,Nat.le_trans I.ok.bsz I.sz,I.stack,I.stkFree,I.hok,I.bare⟩
theorem av.after{Q:VK}{u:Value}(I:av X pins σ H s)(h:CE X.stack X.prog X.w H s Q u s'):EP X pins σ Q u s':=by
 obtain⟨v,H',os,bare,un,hok,r,q⟩:=h
 obtain⟨hh,g,d,t,os'⟩:=s'
 obtain rfl:os'=s.os:=os
 exact⟨v,H',I.call (h':=hh) (g':=g) (d':=d) (t':=t) (ch:=[]) un hok bare (fun b z=>absurd z (by simp)),r,q⟩
end
def cE(sp:Sp)(dvs:List V)(E:XK)(t:TA):TE:=fun σ H Q=>t σ H fun vs H1=>sp (vs++dvs) H1 Q E
def fZ(C:Addr)(sp:Sp)(dvs:List V)(E:XK)(t:TA):TE:=fun σ H Q=>t σ H fun vs H1=>∀x dx,H1 x=none→H1 dx=none→dx≠x→
 sp (.ref x::(vs++dvs)) (upd (upd H1 dx (.own x)) x (.ins C dx [])) (fun v H2=>v=.non∧Q (.ref x) H2) E
def eG(K:PySem.W.Frag)(fd:FuncData)(ps:List Str)(ds:List Value):Prop:=
 ∀(s:Shared) (us:List Value),K.In s.heap→(us++ds).length=ps.length→BindsTo s fd ⟨us,[]⟩ (ps.zip (us++ds))
theorem eG.all{K:PySem.W.Frag}{fd:FuncData}{ps:List Str}(h:∀us:List Value,us.length=ps.length→bindArgs fd ⟨us,[]⟩=pure (ps.zip us)):eG K fd ps []:=fun s us _ hl=>by
 rw [List.append_nil]at hl ⊢
 exact .of_eq (h us hl)
def j7(CX:pJ)(X:Cx)(E:XK):Prop:=∀(pins:List (Addr×Obj)) (σ:St) (H:Hp) (s:Shared) (e:Value) (s':Shared),av X pins σ H s→CX X.stack H s E e s'→X.xe e s'
section
variable {X:Cx} {CX:pJ} {k:Nat} {f C:Addr} {fd:FuncData} {ps:List Str} {sp:Sp} {dvs:List V} {ds:List Value} {E:XK} {x m:Str} {p pos apos:Pos} {e o:Expr} {es:List Expr} {ta:TE} {t:TA}
theorem nL{pins:List (Addr×Obj)}{σ:St}{H:Hp}{s:Shared}{Q:VK}{us:List Value}{vs:List V}(F:bj X.prog X.w X.K X.mg X.base CX k f fd ps sp)(hr:dz k X.A)(hb:eG X.K fd ps ds)(hd:aA dvs ds)(hx:j7 CX X E)
  (I:av X pins σ H s) (r:aA vs us) (h:sp (vs++dvs) H Q E):wpAny (model X.prog X.w) X.A (call (.ref f) us) (EP X pins σ Q) X.xe s:=by
 have r2:aA (vs++dvs) (us++ds):=r.append hd
 have hl:(us++ds).length=ps.length:=by rw [←r2.length];exact F.len _ _ _ _ h
 refine wpAny_call (codeAny_mono (F.run X.A X.stack s H ⟨us,[]⟩ (us++ds) (vs++dvs) Q E hr I.env0 (hb s us I.kIn hl) r2 h) fun r s' hq=>?_)
 cases r with
 | error e=>exact hx pins σ H s e s' I hq
 | ok fl=>
  cases fl with
  | ret u=>exact I.after hq
  | next=>exact False.elim hq
  | brk=>exact False.elim hq
  | cont=>exact False.elim hq
theorem wJ(F:bj X.prog X.w X.K X.mg X.base CX k f fd ps sp)(hr:dz k X.A)(hg:Gl X x)(hm:X.mg x=some (.ref f))(hk:PySem.W.keepIn X.K (.ref f)=true)(hb:eG X.K fd ps ds)(hd:aA dvs ds)(hx:j7 CX X E)
  (ha:PA X (e::es) t) (hdb:(x == ("__debug__":Str))=false:=by decide) (he:starEach (e::es) X.env=(false,eval e X.env)::starEach es X.env:=by rfl) (hpl:(backTo pos (starEach es X.env)).any (·.1)=false:=by rfl) :
  PE X (.Call (.Name x p) (e::es) [] pos) (cE sp dvs E t):=by
 intro pins s σ H Q I h
 refine wpAny_Call_Name_kw (jY I hg hm ?_ hdb)
 refine PySem.W.callWith_K (h₀:=X.base) I.ok.mod.kin hk (cj (ha pos pins s σ H _ I h) fun us s1 ⟨vs,H1,I1,r,q⟩=>⟨I1.kIn,?_⟩) he hpl
 exact nL F hr hb hd hx I1 r q
structure Mk(K:PySem.W.Frag)(C f:Addr):Prop where
 makes:PySem.W.makesIn K C=true
 init:PySem.W.findIn K (.ref C) "__init__"=some (some (.ref f))
 fn:PySem.W.isFn K (.ref f)=true
 kp:PySem.W.keepIn K (.ref C)=true
theorem vf{pins:List (Addr×Obj)}{σ:St}{H:Hp}{s:Shared}{Q:VK}{us:List Value}{vs:List V}(M:Mk X.K C f)(F:bj X.prog X.w X.K X.mg X.base CX k f fd ps sp)(hr:dz (k+1) X.A)(hb:eG X.K fd ps ds)(hd:aA dvs ds)
  (hx:j7 CX X E) (I:av X pins σ H s) (r:aA vs us)
  (h:∀x dx,H x=none→H dx=none→dx≠x→sp (.ref x::(vs++dvs)) (upd (upd H dx (.own x)) x (.ins C dx [])) (fun v H2=>v=.non∧Q (.ref x) H2) E) :
  wpAny (model X.prog X.w) X.A (call (.ref C) us) (EP X pins σ Q) X.xe s:=by
 have hq:=h (s.heap.objs.size+1) s.heap.objs.size (I.hok.fresh (Nat.le_succ _)) (I.hok.fresh (Nat.le_refl _)) (Nat.ne_of_lt (Nat.lt_succ_self _))
 have I2:=av.made (C:=C) I
 have r2:aA (V.ref (s.heap.objs.size+1)::(vs++dvs)) (Value.ref (s.heap.objs.size+1)::(us++ds)):=.cons rfl (r.append hd)
 have hl:(Value.ref (s.heap.objs.size+1)::us++ds).length=ps.length:=by
  have e:=r2.length
  rw [F.len _ _ _ _ hq]at e
  exact e.symm
 refine wpAny_call (uz (f:=f) I.kIn M.makes M.init (beq_iff_eq.mp M.fn) (codeAny_mono (F.run _ X.stack _ _ ⟨Value.ref (s.heap.objs.size+1)::us,[]⟩ (Value.ref (s.heap.objs.size+1)::(us++ds)) _ _ E (hr.make C us [])
  (I2.env0.make C us []) (hb _ (Value.ref (s.heap.objs.size+1)::us) I2.kIn hl) r2 hq) fun r s' hq'=>?_))
 cases r with
 | error e=>exact hx pins σ _ _ e s' I2 hq'
 | ok fl=>
  cases fl with
  | ret u=>
   obtain⟨v,H',I3,rv,ev,q3⟩:=I2.after hq'
   subst ev
   exact⟨rv,⟨V.ref (s.heap.objs.size+1),H',I3,rfl,q3⟩⟩
  | next=>exact False.elim hq'
  | brk=>exact False.elim hq'
  | cont=>exact False.elim hq'
theorem wL(M:Mk X.K C f)(F:bj X.prog X.w X.K X.mg X.base CX k f fd ps sp)(hr:dz (k+1) X.A)(hg:Gl X x)(hm:X.mg x=some (.ref C))(hb:eG X.K fd ps ds)(hd:aA dvs ds)(hx:j7 CX X E)
  (ha:PA X (e::es) t) (hdb:(x == ("__debug__":Str))=false:=by decide) (he:starEach (e::es) X.env=(false,eval e X.env)::starEach es X.env:=by rfl) (hpl:(backTo pos (starEach es X.env)).any (·.1)=false:=by rfl) :
  PE X (.Call (.Name x p) (e::es) [] pos) (fZ C sp dvs E t):=by
 intro pins s σ H Q I h
 refine wpAny_Call_Name_kw (jY I hg hm ?_ hdb)
 refine PySem.W.callWith_K (h₀:=X.base) I.ok.mod.kin M.kp (cj (ha pos pins s σ H _ I h) fun us s1 ⟨vs,H1,I1,r,q⟩=>⟨I1.kIn,?_⟩) he hpl
 exact vf M F hr hb hd hx I1 r q
end
section
variable {X:Cx} {CX:pJ} {k:Nat} {f C:Addr} {fd:FuncData} {ps ks:List Str} {sp:Sp} {E:XK} {x m:Str} {p pos apos kpos:Pos} {e o:Expr} {es:List Expr} {kws:List Keyword} {te ta:TE} {t tk:TA} {nm:Option Str}
variable {g:List Value→List Value→List Value} {gV:List V→List V→List V}
end
structure aI(N P:List Str)(sc:Scope):Prop where
 kind:sc.kind=.function
 co:sc.isCoroutine=false
 gen:sc.isGenerator=false
 nd:N.Nodup
 pre:N.take P.length=P
 par:∀x∈P,sc.names.lookup x=some .local∨sc.names.lookup x=some .cell
 nofree:∀y∈sc.names,y.2≠.free
theorem l6{kindOf:Str→Option NameKind}{x:Str}:∀{binds:List (Str×Value)} {m:Str→Option Value},(∀v,(x,v)∉binds)→bindL kindOf binds m x=m x
 | [],_,_=>rfl
 | (n,v)::r,m,h=>by
  unfold bindL
  rw [l6 fun w hw=>h w (List.mem_cons_of_mem _ hw)]
  split
  ·have:x≠n:=by rintro rfl;exact h v List.mem_cons_self
   simp [this]
  ·rfl
theorem l3{kindOf:Str→Option NameKind}{x:Str}:∀{binds:List (Str×Value)} {m:Str→Option Value},(∀v,(x,v)∉binds)→bindC kindOf binds m x=m x
 | [],_,_=>rfl
 | (n,v)::r,m,h=>by
  unfold bindC
  rw [l3 fun w hw=>h w (List.mem_cons_of_mem _ hw)]
  split
  ·rfl
  ·have:x≠n:=by rintro rfl;exact h v List.mem_cons_self
   simp [this]
theorem l5{kindOf:Str→Option NameKind}{x:Str}{v:Value}:∀{P:List Str} {vs:List Value} {i:Nat} {m:Str→Option Value},P.Nodup→P[i]?=some x→vs[i]?=some v→kindOf x=some .local→
  bindL kindOf (P.zip vs) m x=some v
 | [],_,_,_,_,h,_,_=>by simp at h
 | _::_,[],_,_,_,_,h,_=>by simp at h
 | p::P,w::vs,0,m,nd,h1,h2,hk=>by
  simp at h1 h2;subst h1;subst h2
  show bindL kindOf ((p,w)::P.zip vs) m p=_
  unfold bindL
  rw [l6 fun v hv=>(List.nodup_cons.mp nd).1 (List.of_mem_zip hv).1,if_pos hk]
  simp
 | p::P,w::vs,i+1,m,nd,h1,h2,hk=>by
  show bindL kindOf ((p,w)::P.zip vs) m x=_
  unfold bindL
  exact l5 (i:=i) (List.nodup_cons.mp nd).2 (by simpa using h1) (by simpa using h2) hk
theorem l0{kindOf:Str→Option NameKind}{x:Str}{v:Value}:∀{P:List Str} {vs:List Value} {i:Nat} {m:Str→Option Value},P.Nodup→P[i]?=some x→vs[i]?=some v→kindOf x≠some .local→
  bindC kindOf (P.zip vs) m x=some v
 | [],_,_,_,_,h,_,_=>by simp at h
 | _::_,[],_,_,_,_,h,_=>by simp at h
 | p::P,w::vs,0,m,nd,h1,h2,hk=>by
  simp at h1 h2;subst h1;subst h2
  show bindC kindOf ((p,w)::P.zip vs) m p=_
  unfold bindC
  rw [l3 fun v hv=>(List.nodup_cons.mp nd).1 (List.of_mem_zip hv).1,if_neg hk]
  simp
 | p::P,w::vs,i+1,m,nd,h1,h2,hk=>by
  show bindC kindOf ((p,w)::P.zip vs) m x=_
  unfold bindC
  exact l0 (i:=i) (List.nodup_cons.mp nd).2 (by simpa using h1) (by simpa using h2) hk
def start(N:List Str)(vs:List V):St:=vs.map some++List.replicate (N.length - vs.length) none
def pX(CX:pJ)(P:Program)(w:World)(K:PySem.W.Frag)(mg:Str→Option Value)(base:Heap)(N:List Str)(qual:Str)(scope:Scope)(f:Addr)(cd:Value)(A:Around)(outer:List Env)(s:Shared)(H:Hp)(E:XK):Cx where
 prog:=P
 w:=w
 K:=K
 mg:=mg
 base:=base
 A:=A.deeper (envOfC qual scope s.heap.objs.size f cd)
 N:=N
 s₀:=s
 H₀:=H
 env:=envOfC qual scope s.heap.objs.size f cd
 outer:=outer
 stack:=envOfC qual scope s.heap.objs.size f cd::outer
 ex:=[]
 calm:=true
 fn:=fun _=>true
 pn:=[]
 xe:=fun e s'=>wpAny (model P w) (A.deeper (envOfC qual scope s.heap.objs.size f cd)) (leaving (envOfC qual scope s.heap.objs.size f cd) e) (fun _ s''=>CX outer H s E e s'') (fun e' s''=>CX outer H s E e' s'') s'
theorem oj{sc:Scope}{n:Nat}{x:Str}(h:sc.names.lookup x=some .cell):∃c,(cellsFrom n sc.names []).lookup x=some c:=by
 have q:=PySem.W.cellsFrom_some sc.names n [] (.inl h)
 exact Option.isSome_iff_exists.mp q
theorem su{CX:pJ}{P:Program}{w:World}{K:PySem.W.Frag}{mg:Str→Option Value}{base:Heap}{N ps:List Str}{qual:Str}{scope:Scope}{f:Addr}{cd:Value}{A:Around}{outer:List Env}{s s1:Shared}{H:Hp}{E:XK}{us:List Value}{vs:List V}
  (S:aI N ps scope) (hd:A.handled=none) (e0:pM P w K mg base A outer s H) (hl:vs.length=ps.length) (r:aA vs us)
  (x:InCallC s s.heap.objs.size (bindL (envOfC qual scope s.heap.objs.size f cd).kindOf (ps.zip us) fun _=>none) (cellsFrom (s.heap.objs.size+1) scope.names []) (bindC (envOfC qual scope s.heap.objs.size f cd).kindOf (ps.zip us) fun _=>none) s1) :
  av (pX CX P w K mg base N qual scope f cd A outer s H E) [] (start N vs) H s1:=by
 have hpl:ps.length≤N.length:=by have:=congrArg List.length S.pre;rw [List.length_take]at this;omega
 obtain⟨h1,tk,rfl,hk⟩:=x.done
 have noA:∀b:Addr,b∉(pX CX P w K mg base N qual scope f cd A outer s H E).ex:=fun b z=>absurd (show b∈([]:List Addr)from z) (by simp)
 refine⟨⟨e0.mod,S.kind,rfl,rfl,Nat.le_refl _,fun y z c h1 h2=>?_,fun y hy=>?_,fun y c _ h=>?_,fun _=>hd,Around.frames_deeper e0.frames,.inr ⟨rfl,rfl⟩,fun b z=>absurd z (noA b),e0.bs,e0.bsz,fun b _ _=>noA b,fun b z=>absurd z (noA b),e0.funs,e0.frf⟩,
  rfl,e0.bare,Un.kept hk,⟨_,x.toInCall.ns,fun i y v h1 h2 h3=>?_⟩,fun y c h=>⟨_,x.cell y c h⟩,e0.hok.fresh (Nat.le_refl _),fun y c h=>?_,fun p hp=>absurd (show p∈([]:List (Addr×Obj))from hp) (by simp),e0.hok.kept hk,?_⟩
 ·exact name_of_addr x.apart (PySem.mem_of_lookup h1) (PySem.mem_of_lookup h2)
 ·have hy:scope.names.lookup y=some .cell∨scope.names.lookup y=some .free:=hy
  rcases hy with hy | hy
  ·exact oj hy
  ·exact absurd rfl (S.nofree _ (PySem.mem_of_lookup hy))
 ·exact Nat.le_of_lt (x.above y c (PySem.mem_of_lookup h))
 ·have hi:i < vs.length:=by
   unfold start at h2
   by_cases hi:i < vs.length
   ·exact hi
   ·rw [List.getElem?_append_right (by simpa using hi)]at h2
    rw [List.getElem?_replicate]at h2
    split at h2<;>cases h2
  have ha:vs[i]?=some v:=by
   unfold start at h2
   rw [List.getElem?_append_left (by simpa using hi),List.getElem?_map]at h2
   cases e:vs[i]? with
   | none=>rw [e]at h2;cases h2
   | some a=>rw [e]at h2;cases h2;rfl
  obtain⟨u,hu,rv⟩:=r.get ha
  have hp:ps[i]?=some y:=by
   rw [←S.pre,List.getElem?_take_of_lt (by omega)];exact h1
  have ndP:ps.Nodup:=by rw [←S.pre];exact S.nd.sublist (List.take_sublist _ _)
  refine⟨u,rv,?_⟩
  rcases S.par y (List.mem_of_getElem? hp)with k | k
  ·exact .inl ⟨k,l5 ndP hp hu k⟩
  ·obtain⟨c,e⟩:=oj (n:=s.heap.objs.size+1) k
   refine .inr ⟨.inl k,c,e,?_⟩
   have q:=x.cell y c e
   rw [l0 ndP hp hu (by show scope.names.lookup y≠_;rw [k];decide)]at q
   exact q
 ·exact e0.hok.fresh (Nat.le_of_lt (x.above y c (PySem.mem_of_lookup h)))
 ·unfold start
  show _=N.length
  rw [List.length_append,List.length_map,List.length_replicate]
  omega
theorem zi{CX:pJ}{P:Program}{w:World}{K:PySem.W.Frag}{mg:Str→Option Value}{base:Heap}{k:Nat}{f:Addr}{name qual:Str}{params:Arguments}{body:List Stmt}{scope:Scope}{dV kV doc pm cdv ct oc:Value}{an od:Option Addr}
  {osl:Array (Option Value)} {N ps:List Str} {sp:Sp} (lk:K.lookup f=some ⟨oc,od,.func (PySem.W.fnOf name qual params body scope dV kV doc pm an cdv ct),osl⟩) (hcd:PySem.W.codeIn K cdv qual=true) (S:aI N ps scope)
  (len:∀vs H Q E,sp vs H Q E→vs.length=ps.length)
  (hbody:∀(A:Around) (outer:List Env) (s:Shared) (H:Hp) (vs:List V) (Q:VK) (E:XK),dz k (A.deeper (envOfC qual scope s.heap.objs.size f cdv))→sp vs H Q E→
   ∃t,rR (pX CX P w K mg base N qual scope f cdv A outer s H E) body t∧t { nx:=fun _ H'=>Q .non H',rt:=Q } (start N vs) H) :
  bj P w K mg base CX (k+1) f (PySem.W.fnOf name qual params body scope dV kV doc pm an cdv ct) ps sp:=by
 refine⟨len,fun A outer s H args us vs Q E hr e0 hb r hsp=>?_⟩
 have hl:=len _ _ _ _ hsp
 have KX:K.In s.heap:=e0.mod.kin.keeps fun b o e=>(e0.bs b o e).1
 have lim:s.heap.NoLimit:=e0.mod.nolimit.keeps fun b o e=>(e0.bs b o e).1
 have hkind:∀y∈ps.zip us,scope.names.lookup y.1=some .local∨(scope.names.lookup y.1=some .cell∧((cellsFrom (s.heap.objs.size+1) scope.names []).lookup y.1).isSome=true):=fun⟨n,v⟩ hy=>by
  rcases S.par n (List.of_mem_zip hy).1 with q | q
  ·exact .inl q
  ·exact .inr ⟨q,PySem.W.cellsFrom_some _ _ _ (.inl q)⟩
 refine codeAny_call_function hr.depth (KX _ _ lk) rfl S.co S.gen rfl (PySem.W.codeRec_of KX hcd) (hb _ _ _ _ ?_)
 refine wpAny_newFunctionEnv_cells S.kind hkind fun env he s1 x=>?_
 subst he
 refine⟨lim.keeps x.toInCall.keep,codeAny_func ?_⟩
 obtain⟨t,ht,hq⟩:=hbody A outer s H vs Q E (hr.deeper _) hsp
 have I:av (pX CX P w K mg base N qual scope f cdv A outer s H E) [] (start N vs) H s1:=su S hr.hd e0 hl r x
 refine wpAny_mono (ht [] s1 (start N vs) H _ I hq) (fun fl s' hs=>?_) fun e s' hs=>hs
 have fin:∀{σ':St} {H':Hp} {v:V} {u:Value},av (pX CX P w K mg base N qual scope f cdv A outer s H E) [] σ' H' s'→aK v u→Q v H'→CE outer P w H s Q u s':=
  fun {σ' H' v u} J rv q=>⟨v,H',J.os,J.bare,J.base,J.hok,rv,q⟩
 cases fl with
 | ret u=>
  obtain⟨v,σ',H',J,rv,q⟩:=hs
  exact fin J rv q
 | next=>
  obtain⟨σ',H',J,q⟩:=hs
  exact fin (v:=V.non) (u:=Value.none) J rfl q
 | brk=>
  obtain⟨_,_,_,q⟩:=hs
  exact False.elim q
 | cont=>
  obtain⟨_,_,_,q⟩:=hs
  exact False.elim q
end L2
namespace L2
open PySem PySem.Spec PyProof.Rows
section
variable {X:Cx} {x:Str} {p pos:Pos} {e:Expr} {es:List Expr} {t:TA} {id T:String} {r:List V→Hp→VK→Prop}
def j4(r:List V→Hp→VK→Prop)(t:TA):TE:=fun σ H Q=>t σ H fun vs H1=>r vs H1 Q
theorem aJ(hc:bN X (.builtin id) r)(hg:Gl X x)(hm:X.mg x=none)(hv:bootBuiltins x=some (.builtin id))(ha:PA X (e::es) t)(hn:x≠"__name__":=by decide)(hdb:(x == ("__debug__":Str))=false:=by decide)
  (he:starEach (e::es) X.env=(false,eval e X.env)::starEach es X.env:=by rfl) (hpl:(backTo pos (starEach es X.env)).any (·.1)=false:=by rfl):PE X (.Call (.Name x p) (e::es) [] pos) (j4 r t):=by
 intro pins s σ H Q I h
 refine wpAny_Call_Name_kw (dS I hg hm hv ?_ hn hdb)
 exact PyProof.Rows.callWith_builtin1 (cj (ha pos pins s σ H _ I h) fun us s1 ⟨vs,H1,I1,r1,q1⟩=>hc pins s1 σ H1 vs us Q I1 r1 q1) he hpl
theorem bz(hc:bN X (.type T) r)(hg:Gl X x)(hm:X.mg x=none)(hv:bootBuiltins x=some (.type T))(ha:PA X (e::es) t)(hn:x≠"__name__":=by decide)(hdb:(x == ("__debug__":Str))=false:=by decide)
  (he:starEach (e::es) X.env=(false,eval e X.env)::starEach es X.env:=by rfl) (hpl:(backTo pos (starEach es X.env)).any (·.1)=false:=by rfl):PE X (.Call (.Name x p) (e::es) [] pos) (j4 r t):=by
 intro pins s σ H Q I h
 refine wpAny_Call_Name_kw (dS I hg hm hv ?_ hn hdb)
 exact PyProof.Rows.callWith_type1 (cj (ha pos pins s σ H _ I h) fun us s1 ⟨vs,H1,I1,r1,q1⟩=>hc pins s1 σ H1 vs us Q I1 r1 q1) he hpl
end
end L2
namespace HT
open PySem PyProof.Rows
section
open PySem.SeqAt
open PySem.AutoSeq1 (wpAny_loadPart')
open PySem.MeetsSeq PySem.MeetsSeq2 PySem.MeetsSeq3
end
section
variable {prog:Program} {w:World} {A:Around} {E:Value→Shared→Prop} {s:Shared}
theorem cat_tup{t b:Addr}{vs ws:List Value}{Q:Value→Shared→Prop}(ht:IsTup s.heap t vs.toArray)(hb:IsTup s.heap b ws.toArray)(hv:vs≠[])
  (h1:ws=[]→Q (.ref t) s) (h2:ws≠[]→Q (.ref s.heap.objs.size) { s with heap:=s.heap.push { cls:=.type "tuple",data:=.seq (vs++ws).toArray } })
  (hsz:vs.length+ws.length≤sizeLine):wpAny (model prog w) A (binaryOp .Add (.ref t) (.ref b)) Q E s:=by
 obtain⟨⟨cls,dd,data,sl⟩,ho,hc,n,hd⟩:=id ht
 obtain⟨⟨cls2,dd2,data2,sl2⟩,ho2,hc2,n2,hd2⟩:=id hb
 simp only at hc hd hc2 hd2
 subst hc hd hc2 hd2
 have e:vs.toArray++ws.toArray=(vs++ws).toArray:=by simp
 by_cases hw:ws=[]
 ·exact concat_meets ⟨_,ho,rfl⟩ ⟨_,ho2,rfl⟩ noFill_tuple_add seq_tuple_add PySem.F.slot_tuple_add PySem.F.entry_tuple_add (PySem.F.args_tuple_add_2 _ _)
   (tuple_addW1 t b vs.toArray ws.toArray n n2 dd dd2 sl sl2 (by simpa using hv) (by simp [hw])) ⟨ho,ho2,h1 hw⟩
 ·refine concat_meets ⟨_,ho,rfl⟩ ⟨_,ho2,rfl⟩ noFill_tuple_add seq_tuple_add PySem.F.slot_tuple_add PySem.F.entry_tuple_add (PySem.F.args_tuple_add_2 _ _)
   (tuple_addW2 t b vs.toArray ws.toArray n n2 dd dd2 sl sl2 (by simpa using hv) (by simpa using hw) (by rw [List.size_toArray,List.size_toArray];exact hsz)) ⟨ho,ho2,?_⟩
  rw [e]
  exact h2 hw
def sIx(n d:Nat):Option Int→Nat
 | none=>d
 | some v=>if v < 0 then(v+(n:Int)).toNat else min v.toNat n
theorem sIx_none(n d:Nat):sIx n d none=d:=rfl
theorem sIx_nat(n d k:Nat):sIx n d (some (k:Int))=min k n:=by
 show(if (k:Int) < 0 then((k:Int)+(n:Int)).toNat else min (k:Int).toNat n)=min k n
 rw [if_neg (by omega),Int.toNat_natCast]
theorem yE(n d:Nat)(hd:d≤n)(o:Option Int):sIx n d o≤n:=by
 cases o with
 | none=>exact hd
 | some v=>
  show(if v < 0 then(v+(n:Int)).toNat else min v.toNat n)≤n
  by_cases hv:v < 0
  ·rw [if_pos hv];omega
  ·rw [if_neg hv];exact Nat.min_le_right _ _
theorem qT(v:Int)(n d:Nat):(if v < 0 then max (v+(n:Int)) 0 else min v (n:Int))=((sIx n d (some v):Nat):Int):=by
 show(if v < 0 then max (v+(n:Int)) 0 else min v (n:Int))=(((if v < 0 then(v+(n:Int)).toNat else min v.toNat n):Nat):Int)
 by_cases hv:v < 0
 ·simp only [if_pos hv];omega
 ·simp only [if_neg hv];omega
theorem pO(lo hi:Option Int)(n:Nat):Builtin.Slice.sliceAdjust lo hi 1 (n:Int)=(((sIx n 0 lo:Nat):Int),((sIx n n hi:Nat):Int)):=by
 have h1:¬((1:Int) < 0):=by omega
 unfold Builtin.Slice.sliceAdjust
 simp only [h1,if_false]
 refine Prod.ext ?_ ?_
 ·cases lo with
  | none=>rfl
  | some v=>exact qT v n 0
 ·cases hi with
  | none=>rfl
  | some v=>exact qT v n n
theorem qq(i j:Nat):Builtin.Slice.slicePlaces (i:Int) (j:Int) 1=j - i:=by
 unfold Builtin.Slice.slicePlaces
 have h1:(1:Int) > 0:=by omega
 simp only [h1,if_true,Int.ediv_one]
 split<;>omega
theorem kR{v:Value}{o:Option Int}{Q:Option Int→Shared→Prop}(p:IsPart v o)(h:Q o s):wpAny (model prog w) A (Builtin.Slice.slicePartIndex v) Q E s:=by
 cases p with
 | none=>exact slicePart_none h
 | int i t=>exact slicePart_int h
theorem jr{sl:Addr}{vl vu:Value}{lo hi:Option Int}{n:Nat}{Q:Int×Int×Nat→Shared→Prop}(hs:s.heap.IsSliceOf sl vl vu .none)(pl:IsPart vl lo)(pu:IsPart vu hi)
  (h:Q (((sIx n 0 lo:Nat):Int),1,sIx n n hi - sIx n 0 lo) s):wpAny (model prog w) A (Builtin.Slice.sliceApplied (.ref sl) (pure (n:Int))) Q E s:=by
 obtain⟨os,hos,hcs,hds⟩:=id hs
 unfold Builtin.Slice.sliceApplied Builtin.Slice.sliceFields
 refine wpAny_bind (wpAny_bind (wpAny_field hos hds (x:=vl) rfl (wpAny_bind (wpAny_field hos hds (x:=vu) rfl (wpAny_bind (wpAny_field hos hds (x:=.none) rfl (wpAny_pure ?_)))))))
 refine wpAny_bind (slicePart_none ?_)
 show wpAny _ _ (if ((1:Int) == 0)=true then _ else _) _ _ s
 rw [if_neg (by decide)]
 refine wpAny_bind (kR pl (wpAny_bind (kR pu (wpAny_bind (wpAny_pure ?_)))))
 show wpAny _ _ (match Builtin.Slice.sliceAdjust lo hi 1 (n:Int)with | (lo,hi)=>pure (lo,(1:Int),Builtin.Slice.slicePlaces lo hi 1)) _ _ s
 rw [pO lo hi n]
 show wpAny _ _ (pure (((sIx n 0 lo:Nat):Int),(1:Int),Builtin.Slice.slicePlaces ((sIx n 0 lo:Nat):Int) ((sIx n n hi:Nat):Int) 1)) _ _ s
 rw [qq]
 exact wpAny_pure h
theorem uV(xs:Array Value)(i k:Nat):((List.range k).filterMap fun(m:Nat)=>xs[((i:Int)+(m:Int) * 1).toNat]?).toArray=((xs.toList.drop i).take k).toArray:=by
 have e:(fun(m:Nat)=>xs[((i:Int)+(m:Int) * 1).toNat]?)=fun m=>xs[i+m]?:=by
  funext m
  have:((i:Int)+(m:Int) * 1).toNat=i+m:=by omega
  rw [this]
 rw [e]
 have:=pick_run xs i k
 rw [List.filterMap_map]at this
 have e2:((fun x=>xs[x]?)∘fun x=>i+x)=fun m=>xs[i+m]?:=rfl
 rw [e2]at this
 rw [this]
theorem getItem_tuple_cut{t sl:Addr}{items:Array Value}{vl vu:Value}{lo hi:Option Int}{Q:Value→Shared→Prop}(ht:IsTup s.heap t items)(hs:s.heap.IsSliceOf sl vl vu .none)(pl:IsPart vl lo)(pu:IsPart vu hi)
  (hw:¬(sIx items.size 0 lo=0∧sIx items.size items.size hi=items.size))
  (h:Q (.ref s.heap.objs.size) { s with heap:=s.heap.push { cls:=.type "tuple",data:=.seq ((items.toList.drop (sIx items.size 0 lo)).take (sIx items.size items.size hi - sIx items.size 0 lo)).toArray } })
  (hsz:items.size≤sizeLine):wpAny (model prog w) A (getItem (.ref t) (.ref sl)) Q E s:=by
 have htake:sizeOk (.seq ((items.toList.drop (sIx items.size 0 lo)).take (sIx items.size items.size hi - sIx items.size 0 lo)).toArray):=by
  show((items.toList.drop (sIx items.size 0 lo)).take (sIx items.size items.size hi - sIx items.size 0 lo)).toArray.size≤sizeLine
  rw [List.size_toArray,List.length_take,List.length_drop,Array.length_toList]
  omega
 have hj:sIx items.size items.size hi≤items.size:=yE _ _ (Nat.le_refl _) hi
 obtain⟨os,hos,hcs,hds⟩:=id hs
 have hTs:s.TypeIs (.ref sl) "slice":=⟨os,hos,hcs⟩
 unfold getItem
 try with_reducible refine wpAny_holding ?_
 first | refine wpAny_bind (wpAny_pure ?_) | skip
 refine wpAny_bind (wpAny_sequenceKey ht.typeIs (by decide) ?_)
 refine wpAny_bind (wpAny_callSpecial?_slot (name:=Str.ofString "__getitem__") ht.typeIs PyProof.Rows.slot_tuple_getitem
  (wpAny_call_entry PyProof.Rows.slot_tuple_getitem ht.typeIs entry_tuple_getitem ?_ (args_tuple_getitem _ _)))
 show wpAny _ _ (Builtin.Tuple.tupleItemsOf (.ref t) >>= _) _ _ s
 refine wpAny_bind (tupleItemsOf_ ht ?_)
 refine wpAny_bind (wpAny_typeOf hTs ?_)
 rw [if_pos (by decide)]
 refine wpAny_bind (jr hs pl pu ?_)
 have hno:¬((((sIx items.size 0 lo:Nat):Int) == 0 && (1:Int) == 1 && (sIx items.size items.size hi - sIx items.size 0 lo) == items.size)=true):=by
  intro q
  rw [Bool.and_eq_true,Bool.and_eq_true]at q
  have q1:((sIx items.size 0 lo:Nat):Int)=0:=eq_of_beq q.1.1
  have q2:sIx items.size items.size hi - sIx items.size 0 lo=items.size:=eq_of_beq q.2
  exact hw ⟨by omega,by omega⟩
 show wpAny _ _ (if (((sIx items.size 0 lo:Nat):Int) == 0 && (1:Int) == 1 && (sIx items.size items.size hi - sIx items.size 0 lo) == items.size)=true then _ else _) _ _ s
 rw [if_neg hno,uV]
 first
  | exact wpAny_bind (m:=Builtin.Tuple.tupleExact _) (wpAny_newObj_type (wpAny_pure ⟨_,rfl,wpAny_pure h⟩) htake)
  | exact wpAny_bind (m:=Builtin.Tuple.tupleExact _) (wpAny_newObj_type (wpAny_bind (wpAny_pure (wpAny_pure ⟨_,rfl,wpAny_pure h⟩))) htake)
  | exact wpAny_bind (wpAny_bind (m:=Builtin.Tuple.tupleExact _) (wpAny_newObj_type (wpAny_pure (wpAny_pure ⟨_,rfl,wpAny_pure h⟩)) htake))
  | exact wpAny_bind (wpAny_bind (m:=Builtin.Tuple.tupleExact _) (wpAny_newObj_type (wpAny_pure ⟨_,rfl,wpAny_pure h⟩) htake))
end
end HT
namespace L2
open PySem PySem.Spec PyProof.Rows
abbrev TO:=St→Hp→(Option Int→Hp→Prop)→Prop
def PO(X:Cx)(e:Option Expr)(t:TO):Prop:=
 ∀(pins:List (Addr×Obj)) (s:Shared) (σ:St) (H:Hp) (Q:Option Int→Hp→Prop),av X pins σ H s→t σ H Q→
  wpAny (model X.prog X.w) X.A (evalPart e X.env) (fun u s'=>∃o H',av X pins σ H' s'∧IsPart u o∧Q o H') X.xe s
def a0:TO:=fun _ H Q=>Q none H
def fP(t:TE):TO:=fun σ H Q=>t σ H fun x H1=>∃i,x=.int i∧Q (some i) H1
section
variable {X:Cx} {e:Expr} {te:TE} {lo hi:Option Expr} {tl th:TO} {pos p2:Pos}
theorem rC:PO X none a0:=by
 intro pins s σ H Q I h
 rw [evalPart_none]
 exact wpAny_pure ⟨none,H,I,.none,h⟩
theorem wQ(h:PE X e te):PO X (some e) (fP te):=by
 intro pins s σ H Q I hw
 rw [evalPart_some]
 refine cj (h pins s σ H _ I hw) fun u s1 ⟨x,H1,I1,r1,q1⟩=>?_
 obtain⟨i,rfl,q⟩:=q1
 obtain⟨t,rfl⟩:=r1
 exact⟨some i,H1,I1,.int i t,q⟩
def vz(X:Cx)(r:V→Option Int→Option Int→Hp→VK→Prop):Prop:=
 ∀(pins:List (Addr×Obj)) (s:Shared) (σ:St) (H:Hp) (x:V) (v vl vu:Value) (lo hi:Option Int) (sl:Addr) (Q:VK),av X pins σ H s→aK x v→s.heap.IsSliceOf sl vl vu .none→IsPart vl lo→IsPart vu hi→r x lo hi H Q→
  ∃T id,typeLookup (.type T) "__getitem__"=pure (some (.builtin id))∧s.TypeIs v T∧wpAny (model X.prog X.w) X.A (getItem v (.ref sl)) (EP X pins σ Q) X.xe s
theorem vz.or{r r':V→Option Int→Option Int→Hp→VK→Prop}(h:vz X r)(h':vz X r'):vz X (fun x lo hi H Q=>r x lo hi H Q∨r' x lo hi H Q):=by
 intro pins s σ H x v vl vu lo hi sl Q I rx hs pl pu q
 rcases q with q | q
 ·exact h pins s σ H x v vl vu lo hi sl Q I rx hs pl pu q
 ·exact h' pins s σ H x v vl vu lo hi sl Q I rx hs pl pu q
def lq(r:V→Option Int→Option Int→Hp→VK→Prop)(te:TE)(tl th:TO):TE:=fun σ H Q=>te σ H fun x H1=>tl σ H1 fun l H2=>th σ H2 fun u H3=>r x l u H3 Q
theorem oZ{r:V→Option Int→Option Int→Hp→VK→Prop}(hr:vz X r)(he:PE X e te)(hl:PO X lo tl)(hu:PO X hi th):PE X (.Subscript e (.Slice lo hi none p2) pos) (lq r te tl th):=by
 intro pins s σ H Q I h
 refine Subscript_ (cj (he pins s σ H _ I h) fun v s1 ⟨x,H1,I1,r1,q1⟩=>?_)
 refine wpAny_Slice (cj (hl pins s1 σ H1 _ I1 q1) fun vl s2 ⟨l,H2,I2,pl,q2⟩=>cj (hu pins s2 σ H2 _ I2 q2) fun vu s3 ⟨u,H3,I3,pu,q3⟩=>?_)
 rw [evalPart_none]
 refine wpAny_pure ?_
 have I4:av X pins σ H3 { s3 with heap:=s3.heap.push { cls:=.type "slice",data:=.fields #[vl,vu,.none] } }:=I3.kept (t':=s3.toks) fun b ob q=>Heap.get?_push_of_some _ q
 obtain⟨T,id,hT,ht,hg⟩:=hr pins { s3 with heap:=s3.heap.push { cls:=.type "slice",data:=.fields #[vl,vu,.none] } } σ H3 x v vl vu l u s3.heap.objs.size Q I4 r1 (Heap.IsSliceOf.new ..) pl pu q3
 show wpAny (model X.prog X.w) X.A (subscriptTail e (.Slice lo hi none p2) v (.ref s3.heap.objs.size)) (EP X pins σ Q) X.xe { s3 with heap:=s3.heap.push { cls:=.type "slice",data:=.fields #[vl,vu,.none] } }
 exact tail_any (ops:=[.ref s3.heap.objs.size,v]) ht hT hg (by with_unfolding_all rfl)
def mV(xs:List V)(lo hi:Option Int):List V:=(xs.drop (HT.sIx xs.length 0 lo)).take (HT.sIx xs.length xs.length hi - HT.sIx xs.length 0 lo)
theorem jA(xs:List V)(lo hi:Option Int):(mV xs lo hi).length≤xs.length:=by
 unfold mV
 rw [List.length_take,List.length_drop]
 omega
def yB(K:PySem.W.Frag):V→Option Int→Option Int→Hp→VK→Prop:=fun x lo hi H Q=>∃a xs,x=.ref a∧cq K H a xs∧
 ¬(HT.sIx xs.length 0 lo=0∧HT.sIx xs.length xs.length hi=xs.length)∧∀p,H p=none→Q (.ref p) (upd H p (.tup (mV xs lo hi)))
theorem sl_tup:vz X (yB X.K):=by
 intro pins s σ H x v vl vu lo hi sl Q I rx hs pl pu h
 obtain⟨a,xs,rfl,hx,hw,q⟩:=h
 cases rx
 obtain⟨its,r,ht,hz⟩:=I.tuple hx
 have hlen:its.toArray.size=xs.length:=by rw [List.size_toArray];exact r.length.symm
 refine⟨"tuple",_,PyProof.Rows.slot_tuple_getitem.lookup,ht.typeIs,?_⟩
 refine HT.getItem_tuple_cut ht hs pl pu (by rw [hlen];exact hw) ?_ (by rw [hlen];exact hz)
 rw [hlen]
 refine⟨.ref s.heap.objs.size,_,I.laid (t':=s.toks) (o:=.tup (mV xs lo hi)) (fun b ob q=>Heap.get?_push_of_some _ q) (Nat.le_refl _) ?_,rfl,q _ (I.hok.fresh (Nat.le_refl _))⟩
 exact⟨Nat.le_trans (jA xs lo hi) hz,_,(r.drop (HT.sIx xs.length 0 lo)).take (HT.sIx xs.length xs.length hi - HT.sIx xs.length 0 lo),IsTup.new _ _⟩
def rD(K:PySem.W.Frag):R2:=fun x y H Q=>∃a b xs ys,x=.ref a∧y=.ref b∧cq K H a xs∧cq K H b ys∧xs≠[]∧xs.length+ys.length≤sizeLine∧
 (ys=[]→Q (.ref a) H)∧(ys≠[]→∀p,H p=none→Q (.ref p) (upd H p (.tup (xs++ys))))
theorem aA.nil_iff{xs:List V}{us:List Value}(r:aA xs us):us=[]↔xs=[]:=by
 cases r with
 | nil=>simp
 | cons _ _=>simp
theorem wG:dq X (binaryOp .Add) (rD X.K):=by
 intro pins s σ H x y v u Q I rx ry h
 obtain⟨a,b,xs,ys,rfl,rfl,ha,hb,hx,hz,q1,q2⟩:=h
 cases rx
 cases ry
 obtain⟨its,r1,p1,_⟩:=I.tuple ha
 obtain⟨its2,r2,p2,_⟩:=I.tuple hb
 refine HT.cat_tup p1 p2 (fun z=>hx (r1.nil_iff.mp z)) (fun z=>⟨.ref a,H,I,rfl,q1 (r2.nil_iff.mp z)⟩) (fun z=>?_) (by rw [←r1.length,←r2.length];exact hz)
 refine⟨.ref s.heap.objs.size,_,I.laid (t':=s.toks) (o:=.tup (xs++ys)) (fun b ob q=>Heap.get?_push_of_some _ q) (Nat.le_refl _) ?_,rfl,q2 (fun w=>z (r2.nil_iff.mpr w)) _ (I.hok.fresh (Nat.le_refl _))⟩
 exact⟨by rw [List.length_append];exact hz,_,r1.append r2,IsTup.new _ _⟩
end
end L2
namespace L2
open PySem PySem.Spec PyProof.Rows
def v8(n:Nat)(i:Int):Option Nat:=if 0≤i then(if i < n then some i.toNat else none)else if -(n:Int)≤i then some (i+n).toNat else none
def lD{α:Type}(xs:List α)(i:Int):Option α:=(v8 xs.length i).bind fun j=>xs[j]?
theorem rj{n:Nat}{i:Int}{j:Nat}(h:v8 n i=some j):seqIndex? i n=some j∧j < n∧-(n:Int)≤i∧i < n:=by
 unfold v8 at h
 by_cases h0:0≤i
 ·rw [if_pos h0]at h
  by_cases h1:i < n
  ·rw [if_pos h1]at h
   have e:i.toNat=j:=Option.some.inj h
   exact⟨by rw [seqIndex_of h0 h1,e],by omega,by omega,h1⟩
  ·rw [if_neg h1]at h;cases h
 ·rw [if_neg h0]at h
  by_cases h1:-(n:Int)≤i
  ·rw [if_pos h1]at h
   have e:(i+n).toNat=j:=Option.some.inj h
   exact⟨by rw [seqIndex_neg (by omega) h1,e],by omega,h1,by omega⟩
  ·rw [if_neg h1]at h;cases h
theorem mR{α:Type}{xs:List α}{i:Int}{v:α}(h:lD xs i=some v):∃j,seqIndex? i xs.length=some j∧xs[j]?=some v∧j < xs.length∧-(xs.length:Int)≤i∧i < xs.length:=by
 unfold lD at h
 cases e:v8 xs.length i with
 | none=>rw [e]at h;cases h
 | some j=>
  rw [e]at h
  obtain⟨h1,h2,h3,h4⟩:=rj e
  exact⟨j,h1,h,h2,h3,h4⟩
theorem bq{α:Type}{xs:List α}{j:Nat}{v:α}(h:xs[j]?=some v):lD xs (j:Int)=some v:=by
 have hj:j < xs.length:=(List.getElem?_eq_some_iff.mp h).1
 have e:v8 xs.length (j:Int)=some j:=by
  unfold v8
  rw [if_pos (by omega),if_pos (by omega)];simp
 unfold lD;rw [e];exact h
def vG(b:Expr):Prop:=∀o i,subscripted b false o i=operate [o,i] (getItem o i)
def tM(X:Cx)(r:R2):Prop:=
 ∀(value slice:Expr) (pins:List (Addr×Obj)) (s:Shared) (σ:St) (H:Hp) (x y:V) (v u:Value) (Q:VK),av X pins σ H s→aK x v→aK y u→r x y H Q→
  subscripted slice false v u=operate [v,u] (getItem v u)→wpAny (model X.prog X.w) X.A (subscriptTail value slice v u) (EP X pins σ Q) X.xe s
def tU(X:Cx)(id:String)(r:V→List V→Hp→VK→Prop):Prop:=
 ∀(pins:List (Addr×Obj)) (s:Shared) (σ:St) (H:Hp) (x:V) (xs:List V) (v:Value) (us:List Value) (Q:VK),av X pins σ H s→aK x v→aA xs us→r x xs H Q→
  wpAny (model X.prog X.w) X.A (call (.builtin id) (v::us)) (EP X pins σ Q) X.xe s
section
variable {X:Cx} {a b:Expr} {ta tb:TE} {pos:Pos}
theorem tM.or{r r':R2}(h:tM X r)(h':tM X r'):tM X (fun x y H Q=>r x y H Q∨r' x y H Q):=by
 intro value slice pins s σ H x y v u Q I rx ry q hs
 rcases q with q | q
 ·exact h value slice pins s σ H x y v u Q I rx ry q hs
 ·exact h' value slice pins s σ H x y v u Q I rx ry q hs
theorem tU.or{id:String}{r r':V→List V→Hp→VK→Prop}(h:tU X id r)(h':tU X id r'):tU X id (fun x xs H Q=>r x xs H Q∨r' x xs H Q):=by
 intro pins s σ H x xs v us Q I rx rs q
 rcases q with q | q
 ·exact h pins s σ H x xs v us Q I rx rs q
 ·exact h' pins s σ H x xs v us Q I rx rs q
theorem bu{r:R2}(hr:tM X r)(ha:PE X a ta)(hb:PE X b tb)(hs:vG b):PE X (.Subscript a b pos) (jE r ta tb):=by
 intro pins s σ H Q I h
 exact Subscript_ (xN ha hb I h fun v u s2 x y H2 I2 rx ry q=>hr a b pins s2 σ H2 x y v u Q I2 rx ry q (hs _ _))
def yr(K:PySem.W.Frag):R2:=fun x y H Q=>∃p xs i v,x=.ref p∧y=.int i∧aL K H p xs∧lD xs i=some v∧Q v H
def yu(K:PySem.W.Frag):R2:=fun x y H Q=>∃p xs i v,x=.ref p∧y=.int i∧cq K H p xs∧lD xs i=some v∧Q v H
def yt:R2:=fun x y H Q=>∃z i c,x=.str z∧y=.int i∧z.length≤sizeLine∧lD z.cps.toList i=some c∧Q (.str ⟨#[c]⟩) H
theorem ix_list:tM X (yr X.K):=by
 intro value slice pins s σ H x y v u Q I rx ry h hs
 obtain⟨p,xs,i,z,rfl,rfl,hq,he,q⟩:=h
 cases rx
 obtain⟨t,rfl⟩:=ry
 obtain⟨its,r,pl,hz⟩:=I.list hq
 obtain⟨j,h1,h2,h3,h4,h5⟩:=mR he
 obtain⟨w,ew,rw'⟩:=r.get h2
 have hl:=r.length
 have hn:=iD
 have fin:EP X pins σ Q w s:=⟨z,H,I,rw',q⟩
 by_cases h0:0≤i
 ·have hj:i.toNat=j:=by
   rw [seqIndex_of h0 h5]at h1
   exact Option.some.inj h1
  exact item_listR pl.isList h0 (by omega) (by rw [hj];simpa using ew) fin hs
 ·have hj:(i+(its.toArray.size:Int)).toNat=j:=by
   rw [seqIndex_neg (by omega) h4]at h1
   rw [List.size_toArray,←hl]
   exact Option.some.inj h1
  exact subscriptTail_builtinR (x:=w) pl.isList.typeIs slot_list_getitem.lookup
   (wpAny_getItem_list_neg (Q:=fun r s'=>r=w∧EP X pins σ Q r s') pl.isList (by omega) (by rw [List.size_toArray]<;>omega) (by omega) (by rw [hj];simpa using ew) ⟨rfl,fin⟩) hs
theorem ix_tup:tM X (yu X.K):=by
 intro value slice pins s σ H x y v u Q I rx ry h hs
 obtain⟨p,xs,i,z,rfl,rfl,hq,he,q⟩:=h
 cases rx
 obtain⟨t,rfl⟩:=ry
 obtain⟨its,r,pl,hz⟩:=I.tuple hq
 obtain⟨j,h1,h2,h3,h4,h5⟩:=mR he
 obtain⟨w,ew,rw'⟩:=r.get h2
 have hl:=r.length
 have hn:=iD
 have fin:EP X pins σ Q w s:=⟨z,H,I,rw',q⟩
 exact subscriptTail_builtinR (x:=w) pl.typeIs slot_tuple_getitem.lookup
  (getItem_tuple (j:=j) (Q:=fun r s'=>r=w∧EP X pins σ Q r s') pl (by omega) (by omega) (by rw [List.size_toArray,←hl];exact h1) (by simpa using ew) ⟨rfl,fin⟩) hs
theorem xT:tM X yt:=by
 intro value slice pins s σ H x y v u Q I rx ry h hs
 obtain⟨z,i,c,rfl,rfl,hz,he,q⟩:=h
 obtain⟨t,rfl⟩:=rx
 obtain⟨t',rfl⟩:=ry
 obtain⟨j,h1,h2,h3,h4,h5⟩:=mR he
 have hl:z.cps.toList.length=z.length:=by simp [Str.length]
 rw [hl]at h1 h4 h5
 have hn:=iD
 exact tail_any (typeIs_str s z t) slot_str_getitem.lookup (getItem_str (c:=c) (by
  have e1:decide (i < -(2 ^ 63:Int))=false:=decide_eq_false (by omega)
  have e2:decide (i≥2 ^ 63)=false:=decide_eq_false (by omega)
  rw [e1,e2,Bool.or_false]) (by rw [h1];simpa using h2) ⟨.str ⟨#[c]⟩,H,I.tok _,⟨_,rfl⟩,q⟩) hs
def rF(K:PySem.W.Frag):R2:=fun x y H Q=>yr K x y H Q∨yu K x y H Q∨yt x y H Q
theorem xS:tM X (rF X.K):=ix_list.or (ix_tup.or xT)
theorem qa(its:List Value)(n j:Nat)(u:Value):Obj.mapSeq (·.setIfInBounds j u) { cls:=.type "list",data:=.seq its.toArray n }={ cls:=.type "list",data:=.seq (its.set j u).toArray n }:=by
 simp [Obj.mapSeq]
theorem av.lst{pins:List (Addr×Obj)}{σ:St}{H:Hp}{s:Shared}{p:Addr}{xs:List V}(I:av X pins σ H s)(h:H p=some (.lst xs)):
  ∃(its:List Value) (n:Nat),aA xs its∧s.heap.get? p=some { cls:=.type "list",data:=.seq its.toArray n }∧xs.length≤sizeLine:=by
 obtain⟨z,its,n,r,e⟩:=I.hok p _ h
 exact⟨its,n,r,e,z⟩
theorem av.lstUpd{pins:List (Addr×Obj)}{σ:St}{H:Hp}{s:Shared}{p:Addr}{xs ys:List V}{its its':List Value}{n n':Nat}{f:Obj→Obj}(I:av X pins σ H s)(h:H p=some (.lst xs))
  (ho:s.heap.get? p=some { cls:=.type "list",data:=.seq its.toArray n }) (hf:f { cls:=.type "list",data:=.seq its.toArray n }={ cls:=.type "list",data:=.seq its'.toArray n' }) (r:aA ys its') (hz:ys.length≤sizeLine) (t:Nat) :
  av X pins σ (upd H p (.lst ys)) { s with heap:=s.heap.update p f,toks:=t }:=by
 have e:(s.heap.update p f).get? p=some { cls:=.type "list",data:=.seq its'.toArray n' }:=by
  rw [Heap.get?_update_self f ho (by rw [hf]<;>rfl),hf]
 refine I.write (x:=p) (e:=p) (by rw [h];trivial) (.inl rfl) (fun b u hb q=>(Heap.get?_update_other _ _ (Ne.symm hb)).trans q) ⟨_,e⟩ ?_
 exact⟨hz,its',n',r,e⟩
def gx:V→V→V→Hp→(Hp→Prop)→Prop:=fun o i v H Q=>∃p xs k j,o=.ref p∧i=.int k∧H p=some (.lst xs)∧v8 xs.length k=some j∧Q (upd H p (.lst (xs.set j v)))
theorem vg:xJ X gx:=by
 intro pins s σ H o i v ov iv u Q I ro ri rv h
 obtain⟨p,xs,k,j,rfl,rfl,hp,hj,q⟩:=h
 cases ro
 obtain⟨t,rfl⟩:=ri
 obtain⟨its,n,r,ho,hz⟩:=I.lst hp
 obtain⟨h1,h2,h3,h4⟩:=rj hj
 have hl:=r.length
 have hn:=iD
 have I':av X pins σ (upd H p (.lst (xs.set j v))) { s with heap:=s.heap.update p (Obj.mapSeq (·.setIfInBounds j u)) }:=
  I.lstUpd hp ho (qa its n j u) (r.set rv j) (by rw [List.length_set];exact hz) s.toks
 by_cases h0:0≤k
 ·have hk:k.toNat=j:=by
   rw [seqIndex_of h0 h4]at h1
   exact Option.some.inj h1
  exact PySem.W.ki_setAt ho h0 (by omega) (by rw [List.size_toArray,←hl];exact h4) (by rw [hk];exact⟨_,I',q⟩)
 ·have hk:(k+(its.toArray.size:Int)).toNat=j:=by
   rw [seqIndex_neg (by omega) h3]at h1
   rw [List.size_toArray,←hl]
   exact Option.some.inj h1
  exact PySem.W.ki_setBack ho (by omega) (by rw [List.size_toArray,←hl];exact h3) (by omega) (by rw [hk];exact⟨_,I',q⟩)
theorem nO(lo hi:Option Int)(n:Nat):(sliceBounds lo hi none n).1=((HT.sIx n 0 lo:Nat):Int)∧(sliceBounds lo hi none n).2.1=((HT.sIx n n hi:Nat):Int)∧(sliceBounds lo hi none n).2.2=1:=by
 refine⟨?_,?_,rfl⟩
 ·cases lo with
  | none=>simp [sliceBounds,HT.sIx]
  | some i=>
   simp only [sliceBounds,HT.sIx,Option.getD_none,show(1:Int) > 0 by decide,if_true]
   by_cases h:i < 0
   ·simp only [h,if_true]<;>omega
   ·simp only [h,if_false]<;>omega
 ·cases hi with
  | none=>simp [sliceBounds,HT.sIx]
  | some i=>
   simp only [sliceBounds,HT.sIx,Option.getD_none,show(1:Int) > 0 by decide,if_true]
   by_cases h:i < 0
   ·simp only [h,if_true]<;>omega
   ·simp only [h,if_false]<;>omega
theorem lV(its:List Value)(lo hi:Option Int):slicePick its.toArray lo hi none=((its.drop (HT.sIx its.length 0 lo)).take (HT.sIx its.length its.length hi - HT.sIx its.length 0 lo)).toArray:=by
 obtain⟨h1,h2,h3⟩:=nO lo hi its.toArray.size
 unfold slicePick
 rw [h1,h2,h3]
 simp only [sliceRange_one,pick_run,List.size_toArray]<;>rfl
def yz(K:PySem.W.Frag):V→Option Int→Option Int→Hp→VK→Prop:=fun x lo hi H Q=>∃a xs,x=.ref a∧aL K H a xs∧∀p,H p=none→Q (.ref p) (upd H p (.lst (mV xs lo hi)))
theorem sl_list:vz X (yz X.K):=by
 intro pins s σ H x v vl vu lo hi sl Q I rx hs pl pu h
 obtain⟨a,xs,rfl,hx,q⟩:=h
 cases rx
 obtain⟨its,r,ht,hz⟩:=I.list hx
 have hlen:=r.length
 refine⟨"list",_,slot_list_getitem.lookup,ht.isList.typeIs,?_⟩
 refine wpAny_getItem_list_slice ht.isList hs pl pu .none (by simp) ?_ (by rw [List.size_toArray]<;>omega)
 rw [lV,←hlen]
 refine⟨.ref s.heap.objs.size,_,I.laid (t':=s.toks) (o:=.lst (mV xs lo hi)) (fun b ob q=>Heap.get?_push_of_some _ q) (Nat.le_refl _) ?_,rfl,q _ (I.hok.fresh (Nat.le_refl _))⟩
 exact⟨Nat.le_trans (jA xs lo hi) hz,_,0,(r.drop (HT.sIx xs.length 0 lo)).take (HT.sIx xs.length xs.length hi - HT.sIx xs.length 0 lo),Heap.get?_push_size _ rfl⟩
def fO:V→Bool
 | .non=>true
 | .bl _=>true
 | .int _=>true
 | .str _=>true
 | _=>false
def vB:V→V→Bool
 | .non,.non=>true
 | .bl a,.bl b=>a == b
 | .bl a,.int b=>(if a then 1 else 0) == b
 | .int a,.bl b=>a == (if b then 1 else 0)
 | .int a,.int b=>a == b
 | .str a,.str b=>a == b
 | _,_=>false
theorem t8{A:Around}{s:Shared}{y x:V}{u v:Value}(ry:aK y u)(rx:aK x v)(fy:fO y=true)(fx:fO x=true):SeqAt.EqAt A s u v (vB y x):=by
 cases y with
 | non=>
  cases ry
  cases x with
  | non=>cases rx;exact SeqAt.EqAt.same _
  | bl b=>cases rx;exact SeqAt.EqAt.none_bool b
  | int b=>obtain⟨t,rfl⟩:=rx;exact SeqAt.EqAt.none_int b t
  | str b=>obtain⟨t,rfl⟩:=rx;exact SeqAt.EqAt.none_str b t
  | _=>exact absurd (show false=true from fx) Bool.false_ne_true
 | bl a=>
  cases ry
  cases x with
  | non=>cases rx;exact SeqAt.EqAt.bool_none a
  | bl b=>cases rx;exact SeqAt.EqAt.bool_bool a b
  | int b=>obtain⟨t,rfl⟩:=rx;exact SeqAt.EqAt.bool_int a b t
  | str b=>obtain⟨t,rfl⟩:=rx;exact SeqAt.EqAt.bool_str a b t
  | _=>exact absurd (show false=true from fx) Bool.false_ne_true
 | int a=>
  obtain⟨t',rfl⟩:=ry
  cases x with
  | non=>cases rx;exact SeqAt.EqAt.int_none a t'
  | bl b=>cases rx;exact SeqAt.EqAt.int_bool a t' b
  | int b=>obtain⟨t,rfl⟩:=rx;exact SeqAt.EqAt.int_int a t' b t
  | str b=>obtain⟨t,rfl⟩:=rx;exact SeqAt.EqAt.int_str a t' b t
  | _=>exact absurd (show false=true from fx) Bool.false_ne_true
 | str a=>
  obtain⟨t',rfl⟩:=ry
  cases x with
  | non=>cases rx;exact SeqAt.EqAt.str_none a t'
  | bl b=>cases rx;exact SeqAt.EqAt.str_bool a t' b
  | int b=>obtain⟨t,rfl⟩:=rx;exact SeqAt.EqAt.str_int a t' b t
  | str b=>obtain⟨t,rfl⟩:=rx;exact SeqAt.EqAt.str_str a t' b t
  | _=>exact absurd (show false=true from fx) Bool.false_ne_true
 | _=>exact absurd (show false=true from fy) Bool.false_ne_true
def pZ(x:V)(u:Value):Bool:=match u with
 | .none=>vB .non x
 | .bool b=>vB (.bl b) x
 | .int i _=>vB (.int i) x
 | .str z _=>vB (.str z) x
 | _=>false
theorem t9{x y:V}{u:Value}(r:aK y u)(f:fO y=true):pZ x u=vB y x:=by
 cases y with
 | non=>cases r;rfl
 | bl b=>cases r;rfl
 | int i=>obtain⟨t,rfl⟩:=r;rfl
 | str z=>obtain⟨t,rfl⟩:=r;rfl
 | _=>exact absurd (show false=true from f) Bool.false_ne_true
theorem iW{x:V}:∀{xs:List V} {us:List Value},aA xs us→xs.all fO=true→us.any (pZ x)=xs.any fun y=>vB y x
 | _,_,.nil,_=>rfl
 | y::xs,u::us,.cons r t,f=>by
  rw [List.all_cons,Bool.and_eq_true]at f
  rw [List.any_cons,List.any_cons,t9 r f.1,iW t f.2]
theorem gT{A:Around}{s:Shared}{x:V}{v:Value}(rx:aK x v)(fx:fO x=true):∀{xs:List V} {us:List Value},aA xs us→xs.all fO=true→∀u∈us,SeqAt.EqAt A s u v (pZ x u)
 | _,_,.nil,_=>fun u hu=>by cases hu
 | y::xs,u::us,.cons r t,f=>fun u' hu=>by
  rw [List.all_cons,Bool.and_eq_true]at f
  rcases List.mem_cons.mp hu with rfl | hu
  ·rw [t9 r f.1];exact t8 r rx f.1 fx
  ·exact gT rx fx t f.2 u' hu
def zk(x:V)(xs:List V):Bool:=xs.any fun y=>vB y x
def yW(K:PySem.W.Frag)(neg:Bool):R2:=fun x y H Q=>∃p xs,y=.ref p∧(aL K H p xs∨cq K H p xs)∧fO x=true∧xs.all fO=true∧Q (.bl (if neg then !zk x xs else zk x xs)) H
theorem sT:dq X (compareOp .In) (yW X.K false):=by
 intro pins s σ H x y v u Q I rx ry h
 obtain⟨p,xs,rfl,hq,fx,fs,q⟩:=h
 cases ry
 rcases hq with hq | hq
 ·obtain⟨its,r,pl,hz⟩:=I.list hq
  refine SeqAt.in_listAt (pZ x) pl.isList (fun w hw=>gT rx fx r fs w (by simpa using hw)) ⟨.bl _,H,I,rfl,?_⟩
  rw [show its.toArray.any (pZ x)=its.any (pZ x)by simp,iW r fs]
  exact q
 ·obtain⟨its,r,pl,hz⟩:=I.tuple hq
  refine SeqAt.in_tupleAt (pZ x) pl (fun w hw=>gT rx fx r fs w (by simpa using hw)) ⟨.bl _,H,I,rfl,?_⟩
  rw [show its.toArray.any (pZ x)=its.any (pZ x)by simp,iW r fs]
  exact q
theorem nh:dq X (compareOp .NotIn) (yW X.K true):=by
 intro pins s σ H x y v u Q I rx ry h
 obtain⟨p,xs,rfl,hq,fx,fs,q⟩:=h
 cases ry
 rcases hq with hq | hq
 ·obtain⟨its,r,pl,hz⟩:=I.list hq
  refine SeqAt.notIn_listAt (pZ x) pl.isList (fun w hw=>gT rx fx r fs w (by simpa using hw)) ⟨.bl _,H,I,rfl,?_⟩
  rw [show its.toArray.any (pZ x)=its.any (pZ x)by simp,iW r fs]
  exact q
 ·obtain⟨its,r,pl,hz⟩:=I.tuple hq
  refine SeqAt.notIn_tupleAt (pZ x) pl (fun w hw=>gT rx fx r fs w (by simpa using hw)) ⟨.bl _,H,I,rfl,?_⟩
  rw [show its.toArray.any (pZ x)=its.any (pZ x)by simp,iW r fs]
  exact q
theorem mT:bN X (.builtin "len") (fun xs H Q=>∃p ys,xs=[.ref p]∧(aL X.K H p ys∨cq X.K H p ys)∧Q (.int ys.length) H):=by
 intro pins s σ H xs us Q I r h
 obtain⟨p,ys,rfl,hq,q⟩:=h
 obtain⟨u,rfl,rx⟩:=eM r
 cases rx
 have hn:=iD
 rcases hq with hq | hq
 ·obtain⟨its,r',pl,hz⟩:=I.list hq
  have hlen:=r'.length
  exact Calls.call_len_list pl.isList (by simp only [List.size_toArray]<;>omega) ⟨.int ys.length,H,I.tok _,⟨s.toks+1,by rw [List.size_toArray,hlen]⟩,q⟩
 ·obtain⟨its,r',pl,hz⟩:=I.tuple hq
  have hlen:=r'.length
  exact len_tuple pl (by simp only [List.size_toArray]<;>omega) ⟨.int ys.length,H,I.tok _,⟨s.toks+1,by rw [List.size_toArray,hlen]⟩,q⟩
theorem call_len_str:bN X (.builtin "len") (fun xs H Q=>∃z,xs=[.str z]∧z.length≤sizeLine∧Q (.int z.length) H):=by
 intro pins s σ H xs us Q I r h
 obtain⟨z,rfl,hz,q⟩:=h
 obtain⟨u,rfl,t,rfl⟩:=eM r
 have hn:=iD
 exact len_str (by omega) ⟨.int z.length,H,I.tok _,⟨_,rfl⟩,q⟩
theorem bN.or{f:Value}{r r':List V→Hp→VK→Prop}(h:bN X f r)(h':bN X f r'):bN X f (fun xs H Q=>r xs H Q∨r' xs H Q):=by
 intro pins s σ H xs us Q I rs q
 rcases q with q | q
 ·exact h pins s σ H xs us Q I rs q
 ·exact h' pins s σ H xs us Q I rs q
theorem mU:bN X (.type "list") (fun xs H Q=>∃p ys,xs=[.ref p]∧(aL X.K H p ys∨cq X.K H p ys)∧∀l,H l=none→Q (.ref l) (upd H l (.lst ys))):=by
 intro pins s σ H xs us Q I r h
 obtain⟨p,ys,rfl,hq,q⟩:=h
 obtain⟨u,rfl,rx⟩:=eM r
 cases rx
 have fin:∀(its:List Value),aA ys its→ys.length≤sizeLine→∀(h':Heap) (c':Nat),(∀b o',s.heap.get? b=some o'→h'.get? b=some o')→
   h'.get? s.heap.objs.size=some { cls:=.type "list",dict:=none,data:=.seq its.toArray c',slots:=#[] }→EP X pins σ Q (.ref s.heap.objs.size) { s with heap:=h' }:=fun its r' hz h' c' kp e=>
  ⟨.ref s.heap.objs.size,_,I.laid (t':=s.toks) kp (Nat.le_refl _) (show cy X.prog X.w _ h' _ (.lst ys)from⟨hz,its,c',r',e⟩),rfl,q _ (I.hok.fresh (Nat.le_refl _))⟩
 rcases hq with hq | hq
 ·obtain⟨its,r',pl,hz⟩:=I.list hq
  have hlen:=r'.length
  obtain⟨o,ho,hc,n,hd⟩:=pl.isList
  exact call_list_seq p (.inl rfl) ho hc hd (fun h' c' kp e=>fin its r' hz h' c' kp e) (by simp only [List.size_toArray]<;>omega)
 ·obtain⟨its,r',pl,hz⟩:=I.tuple hq
  have hlen:=r'.length
  obtain⟨o,ho,hc,n,hd⟩:=pl
  exact call_list_seq p (.inr rfl) ho hc hd (fun h' c' kp e=>fin its r' hz h' c' kp e) (by simp only [List.size_toArray]<;>omega)
theorem lK:bN X (.type "tuple") (fun xs H Q=>∃p ys,xs=[.ref p]∧((aL X.K H p ys∧∀l,H l=none→Q (.ref l) (upd H l (.tup ys)))∨(cq X.K H p ys∧Q (.ref p) H))):=by
 intro pins s σ H xs us Q I r h
 obtain⟨p,ys,rfl,h⟩:=h
 obtain⟨u,rfl,rx⟩:=eM r
 cases rx
 rcases h with⟨hq,q⟩ | ⟨hq,q⟩
 ·obtain⟨its,r',pl,hz⟩:=I.list hq
  have hlen:=r'.length
  refine call_tuple_list pl.isList (fun h' kp=>?_) (by simp only [List.size_toArray]<;>omega)
  have I1:av X pins σ H { s with heap:=h' }:=I.kept (t':=s.toks) kp
  have I2:av X pins σ (upd H h'.objs.size (.tup ys)) { s with heap:=h'.push { cls:=.type "tuple",data:=.seq its.toArray } }:=
   I1.laid (t':=s.toks) (fun b o e=>Heap.get?_push_of_some _ e) (Nat.le_refl _) (show cy X.prog X.w _ _ _ (.tup ys)from⟨hz,its,r',IsTup.new _ _⟩)
  exact⟨.ref h'.objs.size,_,I2,rfl,q _ (I1.hok.fresh (Nat.le_refl _))⟩
 ·obtain⟨its,r',pl,hz⟩:=I.tuple hq
  exact call_tuple_same pl ⟨.ref p,H,I,rfl,q⟩
def zW(K:PySem.W.Frag)(T:String)(x:V)(H:Hp):Prop:=match x with
 | .str _=>T="str"
 | .int _=>T="int"
 | .ref p=>(T="list"∧∃xs,aL K H p xs)∨(T="tuple"∧∃o,K.lookup p=some o∧o.cls=.type "tuple"∧o.dict=none)∨
   (T="dict"∧((∃kvs,H p=some (.dK kvs))∨∃kvs,H p=some (.dT kvs)))∨(T="set"∧∃S n,H p=some (.set S n))
 | _=>False
theorem yM{pins:List (Addr×Obj)}{σ:St}{H:Hp}{s:Shared}{T:String}{x:V}{v:Value}(I:av X pins σ H s)(r:aK x v)(ty:zW X.K T x H):
  s.TypeIs v T∧∀a,v=.ref a→∃ob,s.heap.get? a=some ob∧ob.dict=none:=by
 cases x with
 | str z=>
  obtain⟨t,rfl⟩:=r
  cases(show T="str" from ty)
  exact⟨typeIs_str s z t,fun _ e=>nomatch e⟩
 | int i=>
  obtain⟨t,rfl⟩:=r
  cases(show T="int" from ty)
  exact⟨typeIs_int s i t,fun _ e=>nomatch e⟩
 | ref p=>
  cases r
  rcases ty with⟨rfl,xs,hq⟩ | ⟨rfl,o,hk,hc,hd⟩ | ⟨rfl,hk⟩ | ⟨rfl,S,n,hk⟩
  ·obtain⟨its,_,pl,_⟩:=I.list hq
   refine⟨pl.isList.typeIs,fun a e=>?_⟩
   cases e
   obtain⟨o,n,e,c,hd,_⟩:=pl
   exact⟨o,e,hd⟩
  ·refine⟨⟨o,I.kIn p o hk,hc⟩,fun a e=>?_⟩
   cases e
   exact⟨o,I.kIn _ o hk,hd⟩
  ·have z:∃o,s.heap.get? p=some o∧o.ExactDict:=by
    rcases hk with⟨kvs,hk⟩ | ⟨kvs,hk⟩
    ·obtain⟨_,_,_,_,o,_,_,e,ex,_⟩:=I.hok p _ hk
     exact⟨o,e,ex⟩
    ·obtain⟨_,_,_,_,o,_,_,e,ex,_⟩:=I.hok p _ hk
     exact⟨o,e,ex⟩
   obtain⟨o,e,ex⟩:=z
   refine⟨⟨o,e,ex.1⟩,fun a e2=>?_⟩
   cases e2
   exact⟨o,e,ex.2.1⟩
  ·obtain⟨o,_,_,_,e,ex,_⟩:=I.hok p _ hk
   refine⟨⟨o,e,ex.1⟩,fun a e2=>?_⟩
   cases e2
   exact⟨o,e,ex.2.1⟩
 | _=>exact False.elim ty
def k8(K:PySem.W.Frag)(T:String)(r:V→List V→Hp→VK→Prop)(to:TE):TE:=fun σ H Q=>to σ H fun x H1=>zW K T x H1∧r x [] H1 Q
def tE(K:PySem.W.Frag)(T:String)(r:V→List V→Hp→VK→Prop)(to:TE)(t:TA):TE:=fun σ H Q=>to σ H fun x H1=>zW K T x H1∧t σ H1 fun xs H2=>r x xs H2 Q
variable {o e:Expr} {es:List Expr} {to:TE} {t:TA} {name:Str} {apos cpos:Pos} {T id:String} {r:V→List V→Hp→VK→Prop}
theorem zI(pa:PlainAttrs T)(slot:Slot T name id)(hty:typeOf (.builtin id)=pure (.type "method_descriptor"))(hm:tU X id r)(ho:PE X o to)(ha:PA X (e::es) t)
  (hbase:attributeBase o name X.env (eval o X.env)=eval o X.env:=by rfl)
  (hfew:((backTo cpos (starEach (e::es) X.env)).all (fun x=>!x.1) && (backToKw cpos (keywordEach [] X.env)).all (fun x=>x.1.isSome)
   && decide ((e::es).length+([]:List Keyword).length+(if ([]:List Keyword).isEmpty then 0 else 1) < 30))=true:=by rfl)
  (hline:(apos.endLine == cpos.line)=true:=by rfl) (hs:starEach (e::es) X.env=(false,eval e X.env)::starEach es X.env:=by rfl) (hplain:(backTo cpos (starEach es X.env)).any (·.1)=false:=by rfl) :
  PE X (.Call (.Attribute o name apos) (e::es) [] cpos) (tE X.K T r to t):=by
 intro pins s σ H Q I h
 refine wpAny_Call_method_late hbase hfew hline rfl (cj (ho pins s σ H _ I h) fun v s1 ⟨x,H1,I1,r1,ty,q1⟩=>?_)
 obtain⟨h1,h2⟩:=yM I1 r1 ty
 refine⟨T,id,pa,slot,hty,h1,h2,?_⟩
 have hA:=ha cpos pins s1 σ H1 _ I1 q1
 rw [hs]at hA ⊢
 refine Calls.callWith_builtin (by show(false || (backTo cpos (starEach es X.env)).any (·.1))=false;rw [hplain]<;>rfl) (Calls.evalArgs_plain ?_)
 exact cj hA fun us s2 ⟨vs,H2,I2,r2,q2⟩=>hm pins s2 σ H2 x vs v us Q I2 r1 r2 q2
/- xs.append(e), list.index on a module's tuple .. are tU facts of 06m -/
end
end L2
namespace L2
open PySem PySem.Spec PyProof.Rows
def Az(X:Cx)(id:String)(r:V→List V→Hp→VK→Prop):Prop:=
 ∀(pins:List (Addr×Obj)) (s:Shared) (σ:St) (H:Hp) (x:V) (xs:List V) (v:Value) (us:List Value) (Q:VK),av X pins σ H s→aK x v→aA xs us→r x xs H Q→
  wpAny (model X.prog X.w) X.A (call (.builtin id) (v::us)) (EP X pins σ Q) X.xe s
theorem aA.one:∀{x:V} {us:List Value},aA [x] us→∃u,us=[u]∧aK x u
 | _,_,.cons r .nil=>⟨_,rfl,r⟩
theorem aA.zero:∀{us:List Value},aA [] us→us=[]
 | _,.nil=>rfl
theorem aA.dropLast{xs:List V}{us:List Value}(h:aA xs us):aA xs.dropLast us.dropLast:=by
 induction h with
 | nil=>exact .nil
 | cons r t ih=>
  cases t with
  | nil=>exact .nil
  | cons q t'=>exact .cons r ih
theorem aA.reverse{xs:List V}{us:List Value}(h:aA xs us):aA xs.reverse us.reverse:=by
 induction h with
 | nil=>exact .nil
 | cons r t ih=>rw [List.reverse_cons,List.reverse_cons];exact aA.append ih (.cons r .nil)
theorem aA.rep{xs:List V}{us:List Value}(h:aA xs us):∀k:Nat,aA (List.replicate k xs).flatten (List.replicate k us).flatten
 | 0=>.nil
 | k+1=>by
  rw [List.replicate_succ,List.replicate_succ,List.flatten_cons,List.flatten_cons]
  exact aA.append h (aA.rep h k)
theorem jf(its:List Value):∀(k:Nat) (acc:List Value),
  List.foldl (fun x1 x2=>x1++x2) acc.toArray (List.replicate k its.toArray)=(acc++(List.replicate k its).flatten).toArray
 | 0,acc=>by simp
 | k+1,acc=>by
  have e:acc.toArray++its.toArray=(acc++its).toArray:=by simp
  have e2:(acc++its)++(List.replicate k its).flatten=acc++(List.replicate (k+1) its).flatten:=by
   rw [List.replicate_succ,List.flatten_cons,List.append_assoc]
  rw [←e2,←jf its k (acc++its),←e,List.replicate_succ,List.foldl_cons]
section
variable {X:Cx} {pins:List (Addr×Obj)} {σ:St} {H:Hp} {s:Shared} {l b:Addr} {xs ys zs:List V}
theorem av.lset{its its':List Value}{n:Nat}{f:Array Value→Array Value}{t':Nat}(I:av X pins σ H s)(hH:H l=some (.lst xs))
  (e:s.heap.get? l=some { cls:=.type "list",data:=.seq its.toArray n }) (hf:f its.toArray=its'.toArray) (hv:aA ys its') (hz:ys.length≤sizeLine) :
  av X pins σ (upd H l (.lst ys)) { s with heap:=s.heap.update l (Obj.mapSeq f),toks:=t' }:=by
 have q:=PySem.IsL.update e f
 rw [hf]at q
 refine I.write (x:=l) (e:=l) (by rw [hH];exact trivial) (.inl rfl) (fun b' u hb hu=>(Heap.get?_update_other s.heap (Obj.mapSeq f) (Ne.symm hb)).trans hu) ⟨_,q⟩ ?_
 exact⟨hz,its',_,hv,q⟩
theorem av.lnew{its:List Value}{t':Nat}(I:av X pins σ H s)(hv:aA ys its)(hz:ys.length≤sizeLine):
  av X pins σ (upd H s.heap.objs.size (.lst ys)) { s with heap:=s.heap.push { cls:=.type "list",data:=.seq its.toArray },toks:=t' }:=
 I.laid (fun _ _ q=>Heap.get?_push_of_some _ q) (Nat.le_refl _) ⟨hz,its,0,hv,Heap.get?_push_size _ rfl⟩
theorem av.fresh(I:av X pins σ H s):H s.heap.objs.size=none:=I.hok.fresh (Nat.le_refl _)
theorem av.lstM(I:av X pins σ H s)(hH:H l=some (.lst xs)):xs.length≤sizeLine∧∃(its:List Value) (n:Nat),aA xs its∧xs.length=its.length∧s.heap.get? l=some { cls:=.type "list",data:=.seq its.toArray n }:=by
 obtain⟨z,its,n,r,e⟩:=I.hok l _ hH
 exact⟨z,its,n,r,r.length,e⟩
theorem oS{n:Nat}(h:n≤sizeLine):Builtin.List.listTooLong n=false:=by
 unfold Builtin.List.listTooLong
 exact decide_eq_false (by omega)
end
section
variable {X:Cx}
def wU:V→List V→Hp→VK→Prop:=fun x vs H Q=>∃l xs y,x=.ref l∧vs=[y]∧H l=some (.lst xs)∧xs.length < sizeLine∧Q .non (upd H l (.lst (xs++[y])))
theorem bL:Az X "list.append" wU:=by
 intro pins s σ H x vs v us Q I rx rv h
 obtain⟨l,xs,y,rfl,rfl,hH,hz,q⟩:=h
 cases rx
 obtain⟨u,rfl,ru⟩:=rv.one
 obtain⟨z,its,n,r,hl,e⟩:=I.lstM hH
 refine call_meets F.slot_list_append ⟨_,e,rfl⟩ F.entry_list_append (F.args_list_append_2 _ _) (PySem.list_append l its.toArray n u (by rw [List.size_toArray];omega)) ⟨e,?_⟩
 refine⟨.non,_,I.lset (its':=its++[u]) hH e (by simp) (r.append (.cons ru .nil)) ?_,rfl,q⟩
 rw [List.length_append,List.length_singleton]
 omega
def wZ:V→List V→Hp→VK→Prop:=fun x vs H Q=>∃l b xs zs,x=.ref l∧vs=[.ref b]∧H l=some (.lst xs)∧H b=some (.lst zs)∧xs.length+zs.length≤sizeLine∧Q .non (upd H l (.lst (xs++zs)))
theorem sH:Az X "list.extend" wZ:=by
 intro pins s σ H x vs v us Q I rx rv h
 obtain⟨l,b,xs,zs,rfl,rfl,hH,hB,hz,q⟩:=h
 cases rx
 obtain⟨u,rfl,ru⟩:=rv.one
 cases ru
 obtain⟨z,its,n,r,hl,e⟩:=I.lstM hH
 obtain⟨z2,its2,n2,r2,hl2,e2⟩:=I.lstM hB
 have hsz:its.toArray.size+its2.toArray.size≤sizeLine:=by rw [List.size_toArray,List.size_toArray];omega
 have hlong:¬(!its.toArray.isEmpty && Builtin.List.listTooLong (its.toArray.size+its2.toArray.size))=true:=by
  rw [oS hsz,Bool.and_false]
  exact Bool.false_ne_true
 refine call_meets F.slot_list_extend ⟨_,e,rfl⟩ F.entry_list_extend (F.args_list_extend_2 _ _)
  (AutoSeq1.list_extend_list_list_0 l its.toArray n b its2.toArray n2 hlong (by rw [List.size_toArray];omega) (by omega)) ⟨e,e2,?_⟩
 refine⟨.non,_,I.lset (its':=its++its2) hH e (by simp) (r.append r2) ?_,rfl,q⟩
 rw [List.length_append]
 omega
def wV:R2:=fun x y H Q=>∃l b xs zs,x=.ref l∧y=.ref b∧H l=some (.lst xs)∧H b=some (.lst zs)∧xs.length+zs.length≤sizeLine∧∀p,H p=none→Q (.ref p) (upd H p (.lst (xs++zs)))
theorem op_cat:dq X (binaryOp .Add) wV:=by
 intro pins s σ H x y v u Q I rx ry h
 obtain⟨l,b,xs,zs,rfl,rfl,hH,hB,hz,q⟩:=h
 cases rx
 cases ry
 obtain⟨z,its,n,r,hl,e⟩:=I.lstM hH
 obtain⟨z2,its2,n2,r2,hl2,e2⟩:=I.lstM hB
 refine PySem.P.add_list e e2 ?_ (by rw [List.size_toArray,List.size_toArray];omega)
 have ea:its.toArray++its2.toArray=(its++its2).toArray:=by simp
 rw [ea]
 exact⟨.ref _,_,I.lnew (t':=s.toks) (r.append r2) (by rw [List.length_append];omega),rfl,q _ I.fresh⟩
def xb:R2:=fun x y H Q=>∃l k xs,x=.ref l∧y=.int k∧H l=some (.lst xs)∧-(2 ^ 63)≤k∧k < 2 ^ 63∧xs.length * k.toNat≤sizeLine∧
 ∀p,H p=none→Q (.ref p) (upd H p (.lst (List.replicate k.toNat xs).flatten))
theorem mY{α:Type}(xs:List α)(k:Nat):(List.replicate k xs).flatten.length=k * xs.length:=by
 induction k with
 | zero=>simp
 | succ k ih=>rw [List.replicate_succ,List.flatten_cons,List.length_append,ih,Nat.succ_mul,Nat.add_comm]
theorem yk:dq X (binaryOp .Mult) xb:=by
 intro pins s σ H x y v u Q I rx ry h
 obtain⟨l,k,xs,rfl,rfl,hH,h1,h2,hz,q⟩:=h
 cases rx
 obtain⟨t,rfl⟩:=ry
 obtain⟨z,its,n,r,hl,e⟩:=I.lstM hH
 have hlen:its.toArray.size * k.toNat≤sizeLine:=by rw [List.size_toArray,←hl];exact hz
 have hcap:¬its.toArray.size * k.toNat > (2 ^ 63 - 1) / 8:=by
  have:(sizeLine:Nat)≤(2 ^ 63 - 1) / 8:=by decide
  omega
 have hfit:¬(!Builtin.List.listFitsIndex k)=true:=by
  rw [fitsIndex_both h1 h2]
  exact Bool.false_ne_true
 have hlong:¬Builtin.List.listTooLong (its.toArray.size * k.toNat)=true:=by
  rw [oS hlen]
  exact Bool.false_ne_true
 have hnew:List.foldl (fun x1 x2=>x1++x2) #[] (List.replicate (if its.toArray.isEmpty=true then 0 else k.toNat) its.toArray)=(List.replicate k.toNat its).flatten.toArray:=by
  have f0:∀m:Nat,List.foldl (fun x1 x2=>x1++x2) #[] (List.replicate m its.toArray)=(List.replicate m its).flatten.toArray:=fun m=>by
   have:=jf its m []
   rw [List.nil_append]at this
   exact this
  rw [f0]
  cases its with
  | nil=>simp
  | cons a r'=>rw [if_neg (by simp)]
 refine wpAny_binaryOp_repeat_ref (T:="list") (U:="int") (by decide) ⟨_,e,rfl⟩ (fun s'=>typeIs_int s' k t) noFill_list_mul F.fills_int_mul F.slot_int_rmul repeat_list F.slot_int_index.lookup
  (call_meets F.slot_int_rmul (typeIs_int s k t) F.entry_int_rmul (F.args_int_rmul_2 _ _) (int___rmul___int_list k t l its.toArray n)
   ⟨e,rfl,⟨_,e,rfl⟩,call_meets F.slot_list_mul ⟨_,e,rfl⟩ F.entry_list_mul (F.args_list_mul_2 _ _) (AutoListH.list___mul___list_int_3 l its.toArray n k t hfit hcap hlong) ⟨e,?_⟩⟩)
 rw [hnew]
 exact⟨.ref _,_,I.lnew (t':=s.toks) (r.rep k.toNat) (by rw [mY,Nat.mul_comm];exact hz),rfl,q _ I.fresh⟩
end
section
variable {prog:Program} {w:World} {A:Around} {E:Value→Shared→Prop} {s:Shared}
set_option maxRecDepth 100000 in
end
section
variable {X:Cx}
end
end L2
namespace Att
open PySem PySem.W PySem.Calls PyProof.Rows
theorem jK{P:Params}{h:Heap}:∀(ns:List Int) (vs:List Value),WellAll P h vs (ns.map WData.int)→IntsAre vs ns:=by
 intro ns
 induction ns with
 | nil=>
  intro vs w
  rw [List.map_nil]at w
  cases w
  exact .nil
 | cons n ns ih=>
  intro vs w
  rw [List.map_cons]at w
  cases w with
  | cons a b=>
   cases a
   exact .cons _ _ (ih _ b)
theorem script_of{l:OpenLaw}{n:Nat}(hn:l.most=some n){P:Params}{h:Heap}{args:List WData}{vals:List Value}
  (hpre:l.row.toRowW.claim.pre args=true) (hwl:WellAll P h vals args) :
  ∃a vs ns,vals=[Value.ref a]∧args=[WData.list (ns.map WData.int)]∧h.get? a=some { cls:=.type "list",data:=.seq vs.toArray }∧IntsAre vs ns∧ns.length≤n:=by
 have hsh:WShape.hasAll [] args [.list .int]=true:=(pre_splitW hpre).1
 have hc:l.pre.holds [] { args:=args }=true:=(pre_splitW hpre).2
 obtain⟨d,r,rfl,h1,h2⟩:=hasAllW_cons hsh
 obtain rfl:=hasAllW_nil h2
 obtain⟨xs,rfl,h3⟩:=hasW_list h1
 obtain⟨ns,rfl⟩:=items_int h3
 have hlen:ns.length≤n:=by
  unfold OpenLaw.pre at hc
  have h4:(WTm.not (.lt (.lit (.int (n:Int))) (.len (.arg 0)))).holds [] { args:=[.list (ns.map .int)] }=true:=by
   have h4:=(holds_andW hc).1
   rw [hn]at h4
   exact h4
  have h5:=condW_of h4 (w_not (w_lt w_lit (w_len_list (w_arg rfl))))
  rw [List.length_map]at h5
  refine Nat.le_of_not_lt fun q=>?_
  have q':(n:Int) < ((ns.length:Nat):Int):=by omega
  first
   | (rw [decide_eq_true q']at h5;exact absurd h5 (by decide))
   | (simp at h5;omega)
 cases hwl with
 | cons w1 w2=>
  cases w2
  cases w1 with
  | list ho hall=>exact⟨_,_,ns,rfl,rfl,ho,jK ns _ hall,hlen⟩
theorem post_true(l:OpenLaw)(args:List WData):l.row.toRowW.claim.post args (.bool true) args=true:=
 postW_of (r:=l.row.toRowW) (X:=(true == true))
  (show WShape.has [] (.bool true) .bool=true by first | rfl | decide | simp [WShape.has,WShape.arms,WShape.armsAll])
  (show(WTm.eq .res (.lit (.bool true))).value [] { args:=args,res:=some (.bool true),after:=args }=some (.bool (true == true))from w_eq_bool (w_res rfl) w_lit) rfl
theorem attach_call{l:OpenLaw}{n:Nat}{q:Program}{loose:List Str}{XP:(Str→Option Value)→Heap→Prop}{YP:World→Heap→Prop}{d:DefRec}
  (hn:l.most=some n) (hdf:d.params.defaults=[])
  (call:∀(w:World) (s₀ s₁:Shared) (mg mb:Str→Option Value) (fa:Addr) (o:Obj) (pm cd doc:Value) (a:Addr) (vs:List Value) (ns:List Int),
   Ground q loose [] XP w s₀ mg mb s₁.heap→YP w s₁.heap→
   s₁.heap.get? fa=some o→o.data=.func (docDef d.name d.params d.body d.scope pm cd doc)→s₁.heap.CodeRec cd d.name→mg d.name=some (.ref fa)→
   s₁.heap.get? a=some { cls:=.type "list",data:=.seq vs.toArray }→IntsAre vs ns→ns.length≤n→s₁.gens=#[]→
   codeAny (model l.prog w) callerA (.call (.ref fa) ⟨[.ref a],[]⟩) (fun r s'=>r=.ok (.ret (.bool true))∧OldK s₁.heap s'.heap∧s'.os=s₁.os∧AllBare s'.gens) s₁) :
  WalkO q loose XP YP l.row.toRowW d [] (fun f vs=>PySem.call f vs):=by
 intro w s₀ s₁ mg mb G Y fa o pm cd doc dV kV ho hd hcd hD hmg hg args vals as hpre hlay hrd hwl hlo
 obtain rfl:dV=.none:=Dflts.none hD hdf
 obtain rfl:kV=.none:=Dflts.noKw hD
 obtain⟨a,vs,ns,rfl,rfl,hobj,hints,hlen⟩:=script_of hn hpre hwl
 refine enter_call (codeAny_mono (call w s₀ s₁ mg mb fa o pm cd doc a vs ns G Y ho (fd_plain hd) hcd hmg hobj hints hlen hg) fun r s' hq=>?_)
 obtain⟨rfl,h2,h3,h4⟩:=hq
 exact⟨.inl ⟨.bool true,.bool true,[],rfl,fun _=>rfl,.bool true,post_true l _,fun _=>⟨List.Pairwise.nil,fun _ hm=>(nomatch hm)⟩⟩,h2,h3,h4⟩
section
variable {prog:Program} {w:World} {A:Around} {E:Value→Shared→Prop} {s:Shared} {K:Frag}
end
end Att
namespace L2
open PySem PySem.Spec PyProof.Rows
theorem mK:∀{vs:List Value} {ns:List Int},IntsAre vs ns→aA (ns.map V.int) vs
 | _,_,.nil=>.nil
 | _,_,.cons n t h=>.cons ⟨t,rfl⟩ (mK h)
def vF(H:Hp):Prop:=∀b,H b=none∨∃o xs,H b=some (.frz o (.lst xs))
theorem oM{P:Program}{w:World}{K:PySem.W.Frag}{mg mb:Str→Option Value}{CX:pJ}{k:Nat}{fa a:Addr}{fd:FuncData}{x:Str}{sp:Sp}{s₁:Shared}{vs:List Value}{ns:List Int}
  (KX:K.In s₁.heap) (hns:s₁.heap.Ns mainGlobals mg) (hb:s₁.heap.Ns builtinsNs mb) (hbb:∀x:Str,x≠"__name__"→mb x=bootBuiltins x) (hlim:s₁.heap.NoLimit) (hg:s₁.gens=#[])
  (ha:s₁.heap.get? a=some { cls:=.type "list",data:=.seq vs.toArray }) (hi:IntsAre vs ns) (hl:ns.length≤sizeLine) (hr:dz k callerA)
  (F:∀base:Heap,K.In base→base.Ns mainGlobals mg→bj P w K mg base CX k fa fd [x] sp) (hbind:∀(s:Shared) (u:Value),BindsTo s fd ⟨[u],[]⟩ [(x,u)])
  (hsp:∀H:Hp,vF H→aL K H a (ns.map V.int)→sp [.ref a] H (fun v _=>v=.bl true) fun _ _ _=>False)
  (hCX:∀H e s',CX [] H s₁ (fun _ _ _=>False) e s'→False) :
  codeAny (model P w) callerA (.call (.ref fa) ⟨[.ref a],[]⟩) (fun r s'=>r=.ok (.ret (.bool true))∧OldK s₁.heap s'.heap∧s'.os=s₁.os∧AllBare s'.gens) s₁:=by
 have rv:=mK hi
 have lenV:=hi.length
 have core:∀H:Hp,vF H→aL K H a (ns.map V.int)→iq P w H s₁.heap→(∀b,H b≠none→b=a)→(H a≠none→K.lookup a=none)→
   codeAny (model P w) callerA (.call (.ref fa) ⟨[.ref a],[]⟩) (fun r s'=>r=.ok (.ret (.bool true))∧OldK s₁.heap s'.heap∧s'.os=s₁.os∧AllBare s'.gens) s₁:=by
  intro H hO hS hok hA hK
  have base_of:∀{b:Addr} {o:Obj},s₁.heap.get? b=some o→H b=none→(mX s₁.heap H).get? b=some o:=fun e n=>ud e n
  have noA:∀{b:Addr} {o:Obj} {es:Array DictEntry} {ep:Nat},s₁.heap.get? b=some o→o.data=.dict es ep→H b=none:=fun {b o es ep} e d=>by
   cases q:H b with
   | none=>rfl
   | some u=>
    have e':b=a:=hA b (by rw [q];simp)
    subst e'
    rw [ha]at e;cases e
    have d':Data.seq vs.toArray _=Data.dict es ep:=d
    cases d'
  have nsK:∀{b:Addr} {m:Str→Option Value},s₁.heap.Ns b m→(mX s₁.heap H).Ns b m:=fun {b m} ⟨o,es,ep,e,d,r⟩=>⟨o,es,ep,base_of e (noA e d),d,r⟩
  have hKb:K.In (mX s₁.heap H):=fun b o e=>base_of (KX b o e) (by
   cases q:H b with
   | none=>rfl
   | some u=>
    have e':b=a:=hA b (by rw [q];simp)
    subst e'
    rw [hK (by rw [q];simp)]at e;cases e)
  have hM:Mod K mg (mX s₁.heap H):=⟨hKb,nsK hns,⟨mb,nsK hb,hbb⟩,let ⟨mc,h1,h2⟩:=hlim;⟨mc,nsK h1,h2⟩⟩
  have e0:pM P w K mg (mX s₁.heap H) callerA [] s₁ H:=⟨rfl,hM,fun b o e=>wz e,Nat.le_of_eq (sr _ _),trivial,fun b hb=>absurd (show b∈([]:List Addr)from hb) (by simp),hok,.of_eq hg⟩
  refine codeAny_mono ((F _ hKb (nsK hns)).run callerA [] s₁ H ⟨[.ref a],[]⟩ [.ref a] [.ref a] _ _ hr e0 (hbind s₁ (.ref a)) (.cons rfl .nil) (hsp H hO hS)) fun r s' h=>?_
  cases r with
  | error e=>exact(hCX H e s' h).elim
  | ok fl=>
   cases fl with
   | next=>exact False.elim h
   | brk=>exact False.elim h
   | cont=>exact False.elim h
   | ret u=>
    obtain⟨v,H',os,bare,un,hok',r',q⟩:=h
    have q':v=.bl true:=q
    subst q'
    obtain rfl:u=Value.bool true:=r'
    refine⟨rfl,OldK.of_keep fun b o e=>?_,os,bare⟩
    cases q:H b with
    | none=>exact un.keep b o e q (by intro z;exact absurd (show b∈([]:List Addr)from z) (by simp)) (by simp)
    | some u=>
     rcases hO b with z | ⟨ob,xs,z⟩
     ·rw [q]at z;cases z
     ·have z2:=un.frzs b ob _ z
      obtain⟨e1,_⟩:=hok b _ z
      obtain⟨e2,_⟩:=hok' b _ z2
      rw [e]at e1;cases e1
      exact e2
 cases hk:K.lookup a with
 | some o=>
  have e:=KX a o hk
  rw [ha]at e
  cases e
  refine core (fun _=>none) (fun _=>.inl rfl) (.inr ⟨_,vs.toArray,_,hk,rfl,rfl,rfl,by rw [List.size_toArray,lenV];exact hl,by simpa using rv⟩) (fun b u z=>by have z':(none:Option HO)=some u:=z;cases z') (fun b z=>absurd rfl z) fun z=>absurd rfl z
 | none=>
  refine core (fun b=>if b=a then some (.frz { cls:=.type "list",data:=.seq vs.toArray } (.lst (ns.map V.int)))else none) (fun b=>?_) (.inl (.inr ⟨{ cls:=.type "list",data:=.seq vs.toArray },if_pos rfl⟩)) (fun b u z=>?_) (fun b z=>?_) fun _=>hk
  ·by_cases hb:b=a
   ·exact .inr ⟨_,_,if_pos hb⟩
   ·exact .inl (if_neg hb)
  ·by_cases hb:b=a
   ·have z':=(if_pos hb).symm.trans z
    cases z'
    subst hb
    exact⟨ha,by rw [List.length_map];exact hl,vs,_,rv,ha⟩
   ·have z':=(if_neg hb).symm.trans z
    cases z'
  ·by_cases hb:b=a
   ·exact hb
   ·exact absurd (if_neg hb) z
end L2
namespace L2
open PySem PySem.Spec PyProof.Rows
abbrev KOf{K:PySem.W.Frag}{h:Heap}(_:K.In h):PySem.W.Frag:=K
theorem walk_of{l:PySem.W.OpenLaw}{n k:Nat}{q:Program}{loose:List Str}{XP:(Str→Option Value)→Heap→Prop}{YP:World→Heap→Prop}{d:DefRec}{K:Params→PySem.W.Frag}{CX:World→pJ}{sp:World→Sp}{x:Str}
  (hn:l.most=some n) (hn2:n≤sizeLine) (hdf:d.params.defaults=[]) (hr:dz k callerA)
  (hY:∀(w:World) (h:Heap),YP w h→(K w.params).In h)
  (F:∀(w:World) (mg:Str→Option Value) (fa:Addr) (h:Heap),(K w.params).In h→h.Ns mainGlobals mg→mg d.name=some (.ref fa)→
   ∃fd:FuncData,(∀(s:Shared) (u:Value),BindsTo s fd ⟨[u],[]⟩ [(x,u)])∧
    ∀base:Heap,(K w.params).In base→base.Ns mainGlobals mg→bj l.prog w (K w.params) mg base (CX w) k fa fd [x] (sp w))
  (hsp:∀(w:World) (H:Hp) (a:Addr) (ns:List Int),ns.length≤n→vF H→aL (K w.params) H a (ns.map V.int)→sp w [.ref a] H (fun v _=>v=.bl true) fun _ _ _=>False)
  (hCX:∀(w:World) (H:Hp) (s:Shared) (e:Value) (s':Shared),CX w [] H s (fun _ _ _=>False) e s'→False) :
  PySem.W.WalkO q loose XP YP l.row.toRowW d [] (fun f vs=>PySem.call f vs):=by
 refine Att.attach_call hn hdf fun w s₀ s₁ mg mb fa o pm cd doc a vs ns G Y ho hd hcd hmg hobj hints hlen hg=>?_
 have KX:=hY w _ Y
 obtain⟨fd,hb,hF⟩:=F w mg fa _ KX G.T.g hmg
 exact oM KX G.T.g G.T.b G.T.builtins G.T.nolimit hg hobj hints (Nat.le_trans hlen hn2) hr hF hb (fun H hO hS=>hsp w H a ns hlen hO hS) fun H e s'=>hCX w H s₁ e s'
end L2
/- THE LAST THEOREM (shape; LID, My.* are yours):
  My.Adr:a structure of the addresses that your layer names (classes,functions);My.Txt K t:a structure (Prop) of the equations over K;
  My.txt_mk:{K} {implicit addresses ..} (e1:nsIn K mainGlobals "law"=some (some (.ref f))) (e2:K.lookup f=some ⟨oc,od,.func (fnOf "law" "law" params body scope dV kV doc pm an cdv ct),sl⟩) (e3:codeIn K cdv "law"=true) ..:∃t,My.Txt K t
set_option maxRecDepth 100000 in
set_option maxHeartbeats 0 in
theorem PySem.Challenge.cw_LID_holds : PySem.Challenge.rw_LID.Holds := by
 w_on;o_law;k_head;(case hw=>w_witness2)
 k_fill
 refine L2.walk_of (l:=PySem.Challenge.rw_LID) (n:=63) (k:=40) (x:="script") (CX:=fun w=>..) (sp:=fun _=>My.sp_law) rfl (by decide) rfl ⟨rfl,by decide,by decide⟩ (fun w h Y=>PySem.W.kIn_of Y) ?F ?S ?C
 case F=>
  intro w mg fa h KX G hmg
  have T:∃t,My.Txt (L2.KOf KX) t:=by
   dsimp only [L2.KOf] -- K must stand as «<heap const> w.params» for k_is
   refine' My.txt_mk ?e1 ?e2 ?e3 ..
   (case e1=>PySem.W.k_is) -- in the order:a name -> its address -> its object -> its parts
   (case e2=>PySem.W.k_is)
   ..
  obtain⟨t,T⟩:=T
  have e0:=hmg.symm.trans (PySem.W.mg_of KX G T.law)
  cases e0 -- fa is the law's own address
  exact⟨_,fun s u=>.of_eq rfl,fun base kb nb=>My.law_fn T kb nb⟩ -- if «.of_eq rfl» comes too early:refine'⟨_,?b,fun base kb nb=>My.law_fn T kb nb⟩;exact fun s u=>.of_eq rfl
 case S=>exact fun w H a ns hl hO hS=>..
 case C=>exact ..
(the tactic k_is has no namespace:write k_is) -/
namespace L2
open PySem PySem.Spec PyProof.Rows
def gd(s:Stmt)(j:Nat):Stmt:=match s with
 | .ClassDef _ _ _ body _ _ _ _ _ _ _=>body.getD j (.Pass ⟨0,0,0,0⟩)
 | _=>.Pass ⟨0,0,0,0⟩
def dI(s:Stmt):Arguments:=match s with
 | .FunctionDef _ a _ _ _ _ _ _ _ _=>a
 | _=>{ posonlyargs:=[],args:=[],vararg:=none,kwonlyargs:=[],kw_defaults:=[],kwarg:=none,defaults:=[] }
def dv(s:Stmt):List Stmt:=match s with
 | .FunctionDef _ _ b _ _ _ _ _ _ _=>b
 | _=>[]
def ar(s:Stmt):Scope:=match s with
 | .FunctionDef _ _ _ _ _ _ sc _ _ _=>sc
 | _=>{ kind:=.function,names:=[],isGenerator:=false,isCoroutine:=false }
abbrev fK:pJ:=fun _ _ _ _ _ _=>False
abbrev E0:XK:=fun _ _ _=>False
theorem oW{X:Cx}:j7 fK X E0:=fun _ _ _ _ _ _ _ h=>h.elim
structure f9(K:PySem.W.Frag)(x qual:Str)(st:Stmt)(f:Addr)(fd:FuncData):Prop where
 ex:∃(oc:Value) (od:Option Addr) (kV doc pm:Value) (an:Option Addr) (cdv ct:Value) (osl:Array (Option Value)),
  fd=PySem.W.fnOf x qual (dI st) (dv st) (ar st) .none kV doc pm an cdv ct∧K.lookup f=some ⟨oc,od,.func fd,osl⟩∧PySem.W.codeIn K cdv qual=true
 kp:PySem.W.keepIn K (.ref f)=true
section
variable {P:Program} {w:World} {K:PySem.W.Frag} {mg:Str→Option Value} {base:Heap}
theorem f9.ok{x qual:Str}{st:Stmt}{f:Addr}{fd:FuncData}{N ps:List Str}{k:Nat}{sp:Sp}(F:f9 K x qual st f fd)(S:aI N ps (ar st))(len:∀vs H Q E,sp vs H Q E→vs.length=ps.length)
  (hbody:∀(cdv:Value) (A:Around) (outer:List Env) (s:Shared) (H:Hp) (vs:List V) (Q:VK) (E:XK),dz k (A.deeper (envOfC qual (ar st) s.heap.objs.size f cdv))→sp vs H Q E→
   ∃t,rR (pX fK P w K mg base N qual (ar st) f cdv A outer s H E).nox (dv st) t∧t { nx:=fun _ H'=>Q .non H',rt:=Q } (start N vs) H):bj P w K mg base fK (k+1) f fd ps sp:=by
 obtain⟨oc,od,kV,doc,pm,an,cdv,ct,osl,rfl,lk,hcd⟩:=F.ex
 refine zi lk hcd S len fun A outer s H vs Q E hr hsp=>?_
 obtain⟨t,h,q⟩:=hbody cdv A outer s H vs Q E hr hsp
 exact⟨t,h.nox,q⟩
theorem f9.binds{x qual:Str}{st:Stmt}{f:Addr}{fd:FuncData}{ps:List Str}(F:f9 K x qual st f fd)
  (h:∀(kV doc pm:Value) (an:Option Addr) (cdv ct:Value) (us:List Value),us.length=ps.length→bindArgs (PySem.W.fnOf x qual (dI st) (dv st) (ar st) .none kV doc pm an cdv ct) ⟨us,[]⟩=pure (ps.zip us)):eG K fd ps []:=by
 obtain⟨oc,od,kV,doc,pm,an,cdv,ct,osl,rfl,lk,hcd⟩:=F.ex
 exact .all (h kV doc pm an cdv ct)
theorem mW{x qual:Str}{st:Stmt}{f:Addr}{oc:Value}{od an:Option Addr}{osl:Array (Option Value)}{kV doc pm cdv ct:Value}(l:K.lookup f=some ⟨oc,od,.func (PySem.W.fnOf x qual (dI st) (dv st) (ar st) .none kV doc pm an cdv ct),osl⟩)
  (c:PySem.W.codeIn K cdv qual=true) (k:PySem.W.keepIn K (.ref f)=true):f9 K x qual st f (PySem.W.fnOf x qual (dI st) (dv st) (ar st) .none kV doc pm an cdv ct):=⟨⟨oc,od,kV,doc,pm,an,cdv,ct,osl,rfl,l,c⟩,k⟩
end
section
variable {X:Cx}
end
def aq(H H':Hp):Prop:=∀b o,H b=some o→H' b=some o
theorem aq.refl(H:Hp):aq H H:=fun _ _ h=>h
theorem aq.trans{H H1 H2:Hp}(a:aq H H1)(b:aq H1 H2):aq H H2:=fun c o h=>b c o (a c o h)
theorem aq.free{H H':Hp}(e:aq H H'){l:Addr}(h:H' l=Option.none):H l=Option.none:=by
 cases q:H l with
 | none=>rfl
 | some o=>
  rw [e l o q]at h
  cases h
theorem aq.seq{K:PySem.W.Frag}{H H':Hp}{a:Addr}{xs:List V}(e:aq H H')(h:aL K H a xs):aL K H' a xs:=by
 rcases h with(h | ⟨o,h⟩) | h
 ·exact .inl (.inl (e _ _ h))
 ·exact .inl (.inr ⟨o,e _ _ h⟩)
 ·exact .inr h
end L2
namespace GM
end GM
set_option maxHeartbeats 4000000
namespace L2
open PySem PySem.Spec PyProof.Rows
def gp(cells:List (Str×Addr)):List (Str×NameKind)→List (Str×Addr)→List (Str×Addr)
 | [],cs=>cs
 | (n,k)::r,cs=>gp cells r (if k == .free then(n,(cells.lookup n).getD 0)::cs else cs)
theorem iw{scope:Scope}{env:Env}(h:∀y∈scope.names,y.2=.free→∃c,env.cells.lookup y.1=some c):closureFor scope env=pure (gp env.cells scope.names []):=by
 simp only [closureFor]
 generalize scope.names=l at h ⊢
 have key:∀(l:List (Str×NameKind)) (cs:List (Str×Addr)),(∀y∈l,y.2=.free→∃c,env.cells.lookup y.1=some c)→
   (forIn l cs (fun(x:Str×NameKind) (r:List (Str×Addr))=>(if (x.snd == NameKind.free)=true then(do let a ←cellOf env x.fst;pure (ForInStep.yield ((x.fst,a)::r)))else pure (ForInStep.yield r):Sem (ForInStep (List (Str×Addr))))):Sem (List (Str×Addr)))=pure (gp env.cells l cs):=by
  intro l
  induction l with
  | nil=>intro cs _;rfl
  | cons x r ih=>
   intro cs h
   obtain⟨n,k⟩:=x
   have hr:∀y∈r,y.2=.free→∃c,env.cells.lookup y.1=some c:=fun y hy=>h y (List.mem_cons_of_mem _ hy)
   rw [List.forIn_cons]
   by_cases hk:k=.free
   ·subst hk
    obtain⟨c,hc⟩:=h (n,.free) List.mem_cons_self rfl
    have e:cellOf env n=pure c:=by unfold cellOf;rw [show env.cells.lookup n=some c from hc]
    simp only [beq_self_eq_true,if_true,e]
    show(forIn r ((n,c)::cs) _:Sem _)=_
    rw [ih _ hr]
    simp only [gp,beq_self_eq_true,if_true]
    rw [show env.cells.lookup n=some c from hc];rfl
   ·have hb:(k == NameKind.free)=false:=by simpa using hk
    simp only [hb,Bool.false_eq_true,if_false]
    show(forIn r cs _:Sem _)=_
    rw [ih _ hr]
    simp only [gp,hb,Bool.false_eq_true,if_false]
 rw [key l [] h];rfl
theorem l9{cells:List (Str×Addr)}:∀{l:List (Str×NameKind)} {cs:List (Str×Addr)} {x:Str} {c:Addr},(∀y∈l,y.2=.free→∃c,cells.lookup y.1=some c)→
  (∀x c,cs.lookup x=some c→cells.lookup x=some c)→(gp cells l cs).lookup x=some c→cells.lookup x=some c
 | [],_,_,_,_,hs,e=>hs _ _ e
 | (n,k)::r,cs,x,c,h,hs,e=>by
  refine l9 (l:=r) (fun y hy=>h y (List.mem_cons_of_mem _ hy)) ?_ e
  intro z d
  by_cases hk:k=.free
  ·subst hk
   obtain⟨c',hc'⟩:=h (n,.free) List.mem_cons_self rfl
   have hc'':cells.lookup n=some c':=hc'
   simp only [beq_self_eq_true,if_true,List.lookup_cons,hc'',Option.getD_some]
   cases hz:z == n with
   | true=>
    have:z=n:=by simpa using hz
    subst this
    intro q
    cases q
    exact hc''
   | false=>exact hs z d
  ·have hb:(k == NameKind.free)=false:=by simpa using hk
   simp only [hb,Bool.false_eq_true,if_false]
   exact hs z d
theorem jd{cells:List (Str×Addr)}:∀{l:List (Str×NameKind)} {cs:List (Str×Addr)} {x:Str},((x,NameKind.free)∈l∨∃c,cs.lookup x=some c)→∃c,(gp cells l cs).lookup x=some c
 | [],_,_,h=>by
  rcases h with h | h
  ·cases h
  ·exact h
 | (n,k)::r,cs,x,h=>by
  refine jd (l:=r) ?_
  rcases h with h | ⟨c,h⟩
  ·rcases List.mem_cons.mp h with e | h
   ·cases e
    refine .inr ⟨(cells.lookup n).getD 0,?_⟩
    simp only [beq_self_eq_true,if_true,List.lookup_cons]
   ·exact .inl h
  ·by_cases hk:k=.free
   ·subst hk
    simp only [beq_self_eq_true,if_true,List.lookup_cons]
    cases hz:x == n with
    | true=>exact .inr ⟨_,rfl⟩
    | false=>exact .inr ⟨c,h⟩
   ·have hb:(k == NameKind.free)=false:=by simpa using hk
    simp only [hb,Bool.false_eq_true,if_false]
    exact .inr ⟨c,h⟩
theorem ft{env:Env}:∀{names:List (Str×NameKind)} {x:Str},
  (names.map fun(n,k)=>if (k == NameKind.free && env.scope.kind == .function && env.kindOf n == some .cell)then(n,NameKind.cell)else(n,k)).lookup x =
   (names.lookup x).map fun k=>if (k == NameKind.free && env.scope.kind == .function && env.kindOf x == some .cell)then NameKind.cell else k
 | [],_=>rfl
 | (n,k)::r,x=>by
  have ih:=@ft env r x
  show List.lookup x ((if (k == NameKind.free && env.scope.kind == .function && env.kindOf n == some .cell)=true then(n,NameKind.cell)else(n,k))::_)=_
  cases hx:x == n with
  | true=>
   have e:x=n:=by simpa using hx
   subst e
   by_cases hc:(k == NameKind.free && env.scope.kind == .function && env.kindOf x == some .cell)=true
   ·rw [if_pos hc];simp only [List.lookup_cons,hx,Option.map_some];rw [if_pos hc]
   ·rw [if_neg hc];simp only [List.lookup_cons,hx,Option.map_some];rw [if_neg hc]
  | false=>
   by_cases hc:(k == NameKind.free && env.scope.kind == .function && env.kindOf n == some .cell)=true
   ·rw [if_pos hc];simp only [List.lookup_cons,hx];exact ih
   ·rw [if_neg hc];simp only [List.lookup_cons,hx];exact ih
theorem mem_of_lookup{κ ν:Type}[BEq κ][LawfulBEq κ]:∀{l:List (κ×ν)} {x:κ} {v:ν},l.lookup x=some v→(x,v)∈l
 | [],_,_,h=>by cases h
 | (n,k)::r,x,v,h=>by
  rw [List.lookup_cons]at h
  cases hx:x == n with
  | true=>
   rw [hx]at h
   have e:x=n:=by simpa using hx
   cases h
   rw [e]
   exact List.mem_cons_self
  | false=>
   rw [hx]at h
   exact List.mem_cons_of_mem _ (mem_of_lookup h)
structure bf(X:Cx)(scope:Scope)(js:List Nat):Prop where
 kind:scope.kind=.function
 cell:∀y∈scope.names,y.2≠.cell
 names:∀y∈scope.names,y.2=.local→scope.names.lookup y.1=some .local
 free:∀y∈scope.names,y.2=.free→X.env.kindOf y.1=some .cell∨X.env.kindOf y.1=some .free
 js:∀j∈js,scope.names.lookup (X.N.getD j "")=some .free
def qU(out:Scope)(N:List Str)(scope:Scope)(js:List Nat):Bool:=
 (scope.kind == .function) && scope.names.all (fun y=>y.2 != .cell) && scope.names.all (fun y=>y.2 != .local || scope.names.lookup y.1 == some .local) &&
  scope.names.all (fun y=>y.2 != .free || (out.names.lookup y.1 == some .cell || out.names.lookup y.1 == some .free)) && js.all fun j=>scope.names.lookup (N.getD j "") == some .free
theorem bf.of{X:Cx}{scope:Scope}{js:List Nat}(h:qU X.env.scope X.N scope js=true):bf X scope js:=by
 simp only [qU,Bool.and_eq_true,List.all_eq_true]at h
 obtain⟨⟨⟨⟨h1,h2⟩,h3⟩,h4⟩,h5⟩:=h
 refine⟨by simpa using h1,fun y hy=>by simpa using h2 y hy,fun y hy e=>?_,fun y hy e=>?_,fun j hj=>by simpa using h5 j hj⟩
 ·have:=h3 y hy
  rw [e]at this
  simpa using this
 ·have:=h4 y hy
  rw [e]at this
  simpa [Env.kindOf]using this
def lM(X:Cx)(scope:Scope)(own:List Str)(js:List Nat)(C:Addr)(s:Shared)(H:Hp)(ex:List Addr)(pn:List (Addr×Obj))(E:Value→Shared→Prop):Cx where
 prog:=X.prog
 w:=X.w
 K:=X.K
 mg:=X.mg
 base:=X.base
 A:=X.A
 N:=own++js.map fun j=>X.N.getD j ""
 s₀:=s
 H₀:=H
 env:=compEnvC scope (gp X.env.cells scope.names []) C X.env
 outer:=X.stack
 stack:=X.stack
 ex:=ex
 fn:=fun _=>false
 calm:=X.calm
 pn:=pn
 xe:=E
def cσ(n:Nat)(js:List Nat)(σ:St):St:=List.replicate n none++js.map fun j=>σ.getD j none
section
variable {X:Cx} {pins:List (Addr×Obj)} {σ:St} {H H':Hp} {s:Shared} {scope:Scope} {own:List Str} {js:List Nat} {C:Addr} {fp:List Addr} {E:Value→Shared→Prop}
theorem bf.clos(ok:bf X scope js)(I:av X pins σ H s):∀y∈scope.names,y.2=.free→∃c,X.env.cells.lookup y.1=some c:=fun y hy e=>I.ok.has y.1 (ok.free y hy e)
theorem bf.sub(ok:bf X scope js)(I:av X pins σ H s){x:Str}{c:Addr}(e:(gp X.env.cells scope.names []).lookup x=some c):X.env.cells.lookup x=some c:=
 l9 (ok.clos I) (fun _ _ z=>by cases z) e
theorem bf.kindOf(ok:bf X scope js){cl:List (Str×Addr)}{x:Str}(h:(compEnvC scope cl C X.env).kindOf x=some .cell∨(compEnvC scope cl C X.env).kindOf x=some .free):(x,NameKind.free)∈scope.names:=by
 have e:(compEnvC scope cl C X.env).kindOf x=(scope.names.lookup x).map fun k=>if (k == NameKind.free && X.env.scope.kind == .function && X.env.kindOf x == some .cell)then NameKind.cell else k:=ft
 rw [e]at h
 cases q:scope.names.lookup x with
 | none=>rw [q]at h;simp at h
 | some k=>
  have hm:=mem_of_lookup q
  by_cases hk:k=.free
  ·subst hk;exact hm
  ·have hb:(k == NameKind.free)=false:=by simpa using hk
   rw [q]at h
   simp only [Option.map_some,hb,Bool.false_and,Bool.false_eq_true,if_false]at h
   rcases h with h | h
   ·exact absurd (Option.some.inj h) (ok.cell _ hm)
   ·exact absurd (Option.some.inj h) hk
theorem bf.isFree(ok:bf X scope js){cl:List (Str×Addr)}{x:Str}(h:scope.names.lookup x=some .free):(compEnvC scope cl C X.env).kindOf x=some .cell∨(compEnvC scope cl C X.env).kindOf x=some .free:=by
 have e:(compEnvC scope cl C X.env).kindOf x=(scope.names.lookup x).map fun k=>if (k == NameKind.free && X.env.scope.kind == .function && X.env.kindOf x == some .cell)then NameKind.cell else k:=ft
 rw [e,h]
 simp only [Option.map_some]
 split
 ·exact .inl rfl
 ·exact .inr rfl
theorem vR(ok:bf X scope js)(I:av X pins σ H s)(hC:s.heap.objs.size≤C)(f:∀b∈fp,jF X pins H b)(fo:∀b∈fp,∃o,s.heap.get? b=some o):(lM X scope own js C s H fp (X.pn++pins) E).Ok where
 mod:=I.ok.mod
 kind:=ok.kind
 glob:=I.ok.glob
 blt:=I.ok.blt
 above:=hC
 inj:=fun x y c e1 e2=>I.ok.inj x y c (ok.sub I e1) (ok.sub I e2)
 has:=fun x h=>jd (.inl (ok.kindOf h))
 cab:=fun x c h=>nomatch (show false=true from h)
 hd:=I.ok.hd
 frames:=I.ok.frames
 stk:=.inl rfl
 exf:=fun b hb=>by
  obtain⟨o,e⟩:=fo b hb
  obtain⟨_,_,_,_,f4,_⟩:=f b hb
  exact⟨Nat.ne_of_lt (Nat.lt_of_lt_of_le (Heap.lt_size e) hC),fun x c q=>f4 x c (ok.sub I q)⟩
 bs:=I.bs
 bsz:=Nat.le_trans I.ok.bsz I.sz
 noex:=fun b o e hb=>by
  obtain⟨_,_,_,f3,_,_⟩:=f b hb
  rcases f3 with z | z
  ·exact I.ok.noex b o e z
  ·exact absurd (Nat.lt_of_lt_of_le (Heap.lt_size e) (Nat.le_trans I.ok.bsz z)) (Nat.lt_irrefl _)
 exfs:=fun b hb hs=>by
  obtain⟨_,f1,f2,_,_,_⟩:=f b hb
  rcases List.mem_cons.mp (I.stkSub b hs)with e | e
  ·exact f1 e
  ·exact f2 e
 funs:=I.stack
 frf:=I.stkFree
theorem uf{s':Shared}{pins':List (Addr×Obj)}{m:Str→Option Value}(ok:bf X scope js)(I:av X pins σ H s)(hC:s.heap.objs.size≤C)(f:∀b∈fp,jF X pins H b)(fo:∀b∈fp,∃o,s.heap.get? b=some o)
  (hos:s'.os=s.os) (hg:AllBare s'.gens) (u:Un (lE X.stack) fp H H' s.heap s'.heap) (hn:s'.heap.Ns C m) (hok:iq X.prog X.w H' s'.heap) (hCf:H' C=none)
  (hp:∀p∈pins',s'.heap.get? p.1=some p.2∧H' p.1=none∧p.1≠C∧p.1∉lE X.stack∧∀v,p.2.data≠.cell v) :
  av (lM X scope own js C s H fp (X.pn++pins) E) pins' (cσ own.length js σ) H' s':=by
 have Ok:=vR (own:=own) (E:=E) ok I hC f fo
 have cellAt:∀x c,X.env.cells.lookup x=some c→∀v,s.heap.IsCell c v→s'.heap.IsCell c v:=fun x c e v ⟨o,ho,hd⟩=>by
  have nx:c∉fp:=fun z=>by
   obtain⟨_,_,_,_,f4,_⟩:=f c z
   exact f4 x c e rfl
  obtain⟨sl,q⟩:=u.any ho (I.freeC x c e) nx
  exact⟨_,q,hd⟩
 refine⟨Ok,hos,hg,u,⟨m,hn,?_⟩,?_,hCf,?_,?_,hok,?_⟩
 ·intro i x v e1 e2 _
  have e1':(own++js.map fun j=>X.N.getD j "")[i]?=some x:=e1
  have e2':(List.replicate own.length none++js.map fun j=>σ.getD j none)[i]?=some (some v):=e2
  by_cases hi:i < own.length
  ·rw [List.getElem?_append_left (by simpa using hi),List.getElem?_replicate]at e2'
   split at e2'<;>cases e2'
  ·rw [List.getElem?_append_right (by omega),List.getElem?_map]at e1'
   rw [List.getElem?_append_right (by simpa using Nat.not_lt.mp hi),List.getElem?_map,List.length_replicate]at e2'
   cases hj:js[i - own.length]? with
   | none=>rw [hj]at e1';cases e1'
   | some j=>
    rw [hj]at e1' e2'
    have ex:X.N.getD j ""=x:=Option.some.inj e1'
    have ev:σ.getD j none=some v:=Option.some.inj e2'
    have hjm:j∈js:=List.mem_of_getElem? hj
    have hjl:j < σ.length:=by
     apply Classical.byContradiction
     intro h
     rw [List.getD_eq_getElem?_getD,List.getElem?_eq_none (Nat.not_lt.mp h)]at ev
     cases ev
    have hσ:σ[j]?=some (some v):=by
     rw [List.getD_eq_getElem?_getD,List.getElem?_eq_getElem hjl]at ev
     rw [List.getElem?_eq_getElem hjl]
     exact congrArg some ev
    have hNl:j < X.N.length:=by rw [←I.len];exact hjl
    have hN:X.N[j]?=some x:=by
     rw [List.getD_eq_getElem?_getD,List.getElem?_eq_getElem hNl]at ex
     rw [List.getElem?_eq_getElem hNl]
     exact congrArg some ex
    have hfr:scope.names.lookup x=some .free:=by rw [←ex];exact ok.js j hjm
    have hk:=ok.free _ (mem_of_lookup hfr) rfl
    obtain⟨m0,_,hl⟩:=I.loc
    obtain⟨w',r,l⟩:=hl j x v hN hσ (.inr hk)
    refine⟨w',r,?_⟩
    rcases l with⟨hk',_⟩ | ⟨_,c,hc,hz⟩
    ·have hk'':X.env.kindOf x=some .local:=hk'
     rcases hk with q | q
     ·exact absurd (hk''.symm.trans q) (by intro z;cases z)
     ·exact absurd (hk''.symm.trans q) (by intro z;cases z)
    ·obtain⟨c',hc'⟩:∃c',(gp X.env.cells scope.names []).lookup x=some c':=jd (.inl (mem_of_lookup hfr))
     have e:=ok.sub I hc'
     rw [hc]at e
     cases e
     exact .inr ⟨ok.isFree hfr,c,hc',cellAt x c hc _ hz⟩
 ·intro x c e
  obtain⟨v,z⟩:=I.cell x c (ok.sub I e)
  exact⟨v,cellAt x c (ok.sub I e) v z⟩
 ·intro x c e
  obtain⟨v,o,ho,_⟩:=I.cell x c (ok.sub I e)
  refine u.free c o ho (I.freeC x c (ok.sub I e)) fun z=>?_
  obtain⟨_,_,_,_,f4,_⟩:=f c z
  exact f4 x c (ok.sub I e) rfl
 ·intro p hpm
  rcases List.mem_append.mp hpm with h | h
  ·have h':p∈X.pn++pins:=h
   obtain⟨e,n,ne,nf,d⟩:=I.pin p h'
   have nfr:p.1∉lE X.stack:=fun z=>by
    rcases List.mem_cons.mp (I.stkSub _ z)with q | q
    ·exact ne q
    ·exact nf q
   have nex:p.1∉fp:=fun z=>by
    obtain⟨_,_,_,_,_,f5⟩:=f p.1 z
    exact f5 p h' rfl
   exact⟨u.keep p.1 p.2 e n nfr nex,u.free p.1 p.2 e n nex,Nat.ne_of_lt (Nat.lt_of_lt_of_le (Heap.lt_size e) hC),nfr,d⟩
  ·exact hp p h
 ·show(List.replicate own.length none++js.map fun j=>σ.getD j none).length=(own++js.map fun j=>X.N.getD j "").length
  simp
theorem av.track{D:Addr}{ys:List V}{its:List Value}{n:Nat}(I:av X pins σ H s)(hn:H D=none)(ho:s.heap.get? D=some { cls:=.type "list",data:=.seq its.toArray n })(r:aA ys its)(hz:ys.length≤sizeLine)
  (h1:D∈X.ex∨X.s₀.heap.objs.size≤D) (hL:D≠X.env.locals) (h2:∀x c,X.env.cells.lookup x=some c→c≠D) (h3:∀p∈X.pn++pins,p.1≠D):av X pins σ (upd H D (.lst ys)) s:=by
 have ne:∀b o,H b=some o→b≠D:=fun b o e=>aj e hn
 refine I.step (h':=s.heap) (g':=s.gens) (d':=s.drawn) (t':=s.toks) (ch:=[D]) (fun b hb=>?_) (fun b o _ _ _ e _=>e) (fun b o _ _ _ e _=>⟨o.slots,e⟩) (fun b o hc _ n=>?_)
  (fun b o _ e=>⟨o,e⟩) (fun b xs e=>?_) (fun b o u e=>?_) (fun b ps e=>⟨#[],?_⟩) (fun _ z=>z) (fun b u e=>?_) I.bare
 ·have e:b=D:=by simpa using hb
  subst e
  exact⟨h1,hL,h2,h3⟩
 ·rw [ai (fun z=>hc (by simp [z]))];exact n
 ·rw [ai (ne _ _ e)];exact e
 ·rw [ai (ne _ _ e)];exact e
 ·rw [ai (ne _ _ e),e];simp
 ·by_cases hb:b=D
  ·subst hb
   rw [ae]at e
   cases e
   exact⟨hz,its,n,r,ho⟩
  ·rw [ai hb]at e
   exact(I.hok b u e).stay (fun c v _ q=>q) (fun c q=>by rw [ai (ne _ _ q)];exact q) fun c xs q=>by rw [ai (ne _ _ q)];exact q
end
structure y3(X:Cx)(pins:List (Addr×Obj))(C:Addr):Prop where
 ne:C≠X.env.locals
 old:C∈X.ex∨X.s₀.heap.objs.size≤C
 cells:∀x c,X.env.cells.lookup x=some c→c≠C
 pin:∀p∈X.pn++pins,p.1≠C
theorem y3.go{X:Cx}{pins:List (Addr×Obj)}{C:Addr}{σ:St}{H:Hp}{s:Shared}{h':Heap}(o:y3 X pins C)(I:av X pins σ H s)(hn:H C=none)(sb:Heap.SameBut C s.heap h'):av X pins σ H { s with heap:=h' }:=
 I.turned (t':=s.toks) (fun b q hb e=>(sb.2 b hb).trans e) hn o.ne o.old o.cells o.pin
section
variable {prog:Program} {w:World} {A:Around} {R:Result→Shared→Prop} {s:Shared}
theorem oq{elt target iter:Expr}{ifs:List Expr}{scope:Scope}{pos:Pos}{it acc:Value}{env:Env}(I:Nat→Shared→Prop)
  (turn:∀n s,I n s→wpAny (model prog w) A (pyNext it) (fun r s₁=>match r with
   | none=>R (.ok .next) s₁
   | some v=>wpAny (model prog w) A (letOwnedTupleGo target it v) (fun _ s₁'=>wpAny (model prog w) A (assign target env v) (fun _ s₂=>
     wpAny (model prog w) A (forIn ifs true fun c r=>if r=true then do let ok ←isTrue c env (eval c env);pure (ForInStep.yield ok)else pure (ForInStep.yield r)) (fun ok s₃=>
      if ok=true then wpAny (model prog w) A (eval elt env) (fun x s₄=>
       wpAny (model prog w) A (call (.builtin "list.append") [acc,x]) (fun _ s₅=>∃m,m < n∧I m s₅) (notedBy (model prog w) A env fun e s'=>R (.error e) s') s₄) (notedBy (model prog w) A env fun e s'=>R (.error e) s') s₃
      else ∃m,m < n∧I m s₃) (notedBy (model prog w) A env fun e s'=>R (.error e) s') s₂) (notedBy (model prog w) A env fun e s'=>R (.error e) s') s₁') (notedBy (model prog w) A env fun e s'=>R (.error e) s') s₁)
    (notedBy (model prog w) A env fun e s'=>R (.error e) s') s)
  (n:Nat) (h:I n s) :
  codeAny (model prog w) A (.compLoop (.ListComp elt [⟨target,iter,ifs,0⟩] scope pos) 0 it acc env) R s:=by
 refine codeAny_loop rfl I (fun n s hI=>?_) n h
 show wpAny _ A ((compTurn (.ListComp elt [⟨target,iter,ifs,0⟩] scope pos) 0 it acc env).onRaise (fun x=>do noteFrame x env;theTreesLotGoes x)) _ _ s
 refine wpAny_noted ?_
 rw [compTurn_list]
 refine wpAny_bind (wpAny_standAt (wpAny_bind (wpAny_mono (turn n s hI) (fun r s₁ h₁=>?_) fun _ _ h'=>h')))
 cases r with
 | none=>exact wpAny_pure h₁
 | some v=>
  refine wpAny_bind (wpAny_mono h₁ (fun _ s₁' h₁'=>?_) fun _ _ h'=>h')
  refine wpAny_bind (wpAny_mono h₁' (fun _ s₂ h₂=>wpAny_bind (wpAny_mono h₂ (fun ok s₃ h₃=>?_) fun _ _ h'=>h')) fun _ _ h'=>h')
  cases ok with
  | false=>exact wpAny_pure ⟨rfl,h₃⟩
  | true=>
   exact wpAny_bind (wpAny_bind (wpAny_mono h₃ (fun x s₄ h₄=>wpAny_bind (wpAny_mono h₄ (fun _ s₅ h₅=>wpAny_pure (wpAny_pure ⟨rfl,h₅⟩)) fun _ _ h'=>h')) fun _ _ h'=>h'))
end
def y7(X:Cx)(ifs:List Expr)(t:TT):Prop:=
 ∀(pins:List (Addr×Obj)) (s:Shared) (σ:St) (H:Hp) (Q:Bool→Hp→Prop),av X pins σ H s→t σ H Q→
  wpAny (model X.prog X.w) X.A (forIn ifs true fun c r=>if r=true then do let ok ←isTrue c X.env (eval c X.env);pure (ForInStep.yield ok)else pure (ForInStep.yield r)) (TP X pins σ Q) X.xe s
def jQ:TT:=fun _ H Q=>Q true H
theorem dY{X:Cx}:y7 X [] jQ:=fun pins s σ H Q I h=>wpAny_tests_nil ⟨H,I,h⟩
theorem wR{X:Cx}{c:Expr}{t:TT}(h:PT X c t):y7 X [c] t:=fun pins s σ H Q I q=>wpAny_tests_one (h pins s σ H Q I q)
def yH(n:Nat)(js:List Nat)(wi:TI)(g:TG)(tt:TT)(te:TE)(σ:St)(H:Hp)(F:List V→Hp→Prop):Prop:=wi σ H fun J H1=>∃W:Nat→Nat→List V→Hp→Prop,(∃m,W 0 m [] H1)∧∀i m ys H,W i m ys H→
 (J.stop i H∧F ys H)∨
 (J.go i H∧ys.length < sizeLine∧∃N:List V→Hp→Prop,(∀ys' H',N ys' H'→∃m',m' < m∧W (i+1) m' ys' H')∧∀x H',J.yld i H x H'→g x (cσ n js σ) H' fun σ2 H2=>tt σ2 H2 fun b H3=>if b=true then te σ2 H3 fun y H4=>N (ys++[y]) H4 else N ys H3)
def vn(n:Nat)(js:List Nat)(wi:TI)(g:TG)(tt:TT)(te:TE):TE:=fun σ H Q=>yH n js wi g tt te σ H fun ys H=>∀p,H p=none→Q (.ref p) (upd H p (.lst ys))
section
variable {X:Cx} {scope:Scope} {own:List Str} {js:List Nat} {tg iter elt:Expr} {ifs:List Expr} {wi:TI} {g:TG} {tt:TT} {te:TE} {pos:Pos}
abbrev lX:Value→Shared→Prop:=fun _ _=>False
theorem kd{pins:List (Addr×Obj)}{σ:St}{H2:Hp}{s2:Shared}{it:Addr}{fp:List Addr}{tn:Nat→Heap→Prop}{J:It}{F:List V→Hp→Prop}{RR:Value→Addr→Result→Shared→Prop}{E:Value→Shared→Prop}
  (hc:X.calm=true) (ok:bf X scope js)
  (hg:∀C s H ex pn,PG (lM X scope own js C s H ex pn lX) tg g) (ht:∀C s H ex pn,y7 (lM X scope own js C s H ex pn lX) ifs tt) (he:∀C s H ex pn,PE (lM X scope own js C s H ex pn lX) elt te)
  (I2:av X pins σ H2 s2) (T:lH X.prog X.w X.K tg J fp it tn) (st2:tn 0 s2.heap) (f2:∀b∈fp,jF X pins H2 b) {W:Nat→Nat→List V→Hp→Prop} {m0:Nat} (w0:W 0 m0 [] H2)
  (turn:∀i m ys H,W i m ys H→(J.stop i H∧F ys H)∨
   (J.go i H∧ys.length < sizeLine∧∃N:List V→Hp→Prop,(∀ys' H',N ys' H'→∃m',m' < m∧W (i+1) m' ys' H')∧∀x H',J.yld i H x H'→g x (cσ own.length js σ) H' fun σ2 H2=>tt σ2 H2 fun b H3=>if b=true then te σ2 H3 fun y H4=>N (ys++[y]) H4 else N ys H3))
  (hRR:∀(D C:Addr) (s':Shared) (H':Hp) (ys:List V) (m:Str→Option Value),F ys H'→H' D=none→av X pins σ (upd H' D (.lst ys)) s'→s'.heap.Ns C m→
   y3 X pins C→(upd H' D (.lst ys)) C=none→RR (.ref D) C (.ok .next) s') :
  wpAny (model X.prog X.w) X.A (newList []) (fun acc s₃=>wpAny (model X.prog X.w) X.A (newFunctionEnv scope X.env.globals (gp X.env.cells scope.names []) [] X.env.qual none .none (some X.env)) (fun cenv s₄=>
   codeAny (model X.prog X.w) X.A (.compStart (.ListComp elt [⟨tg,iter,ifs,0⟩] scope pos) 0 (.ref it) acc { cenv with scope:=relabel scope X.env }) (RR acc cenv.locals) s₄) E s₃) E s2:=by
 refine wpAny_newObj_type (wpAny_newFunctionEnv ok.cell (by intro y hy;simp at hy) (fun h₁ hns₁ hsb₁=>?_) ok.kind)
 dsimp only at hns₁ hsb₁ ⊢
 generalize hP:s2.heap.push { cls:=.type "list",dict:=none,data:=.seq ([]:List Value).toArray }=P2 at hns₁ hsb₁ ⊢
 have hC:P2.objs.size=s2.heap.objs.size+1:=by rw [←hP,Heap.size_push]
 have hDC:s2.heap.objs.size≠P2.objs.size:=by rw [hC];exact Nat.ne_of_lt (Nat.lt_succ_self _)
 have hCle:s2.heap.objs.size≤P2.objs.size:=by rw [hC];exact Nat.le_succ _
 have below:∀b,b < s2.heap.objs.size→b≠P2.objs.size∧b≠s2.heap.objs.size:=fun b hb=>⟨by rw [hC];exact Nat.ne_of_lt (Nat.lt_succ_of_lt hb),Nat.ne_of_lt hb⟩
 have old:∀b o,s2.heap.get? b=some o→h₁.get? b=some o:=fun b o e=>hsb₁.extBut b o (below b (Heap.lt_size e)).1 (Heap.get?_push_of_some _ (hP▸Heap.get?_push_of_some _ e))
 have hacc:h₁.get? s2.heap.objs.size=some { cls:=.type "list",data:=.seq ([]:List Value).toArray 0 }:=hsb₁.extBut _ _ hDC (Heap.get?_push_of_some _ (hP▸Heap.get?_push_size _ rfl))
 generalize hDe:s2.heap.objs.size=D at hacc hDC hCle hC below
 generalize hCe:P2.objs.size=C at hns₁ hsb₁ hDC hCle hC below ⊢
 have fo:∀b∈fp,∃o,s2.heap.get? b=some o:=fun b hb=>let ⟨o,e,_⟩:=T.obj _ _ st2 b hb;⟨o,e⟩
 have fD:∀b∈fp,b≠D∧b≠C:=fun b hb=>by
  obtain⟨o,e⟩:=fo b hb
  have:=below b (hDe▸Heap.lt_size e)
  exact⟨this.2,this.1⟩
 have H2C:H2 C=none:=I2.hok.fresh (by rw [hDe];exact hCle)
 have H2D:H2 D=none:=I2.hok.fresh (by rw [hDe];exact Nat.le_refl _)
 have stkD:D∉lE X.stack:=fun z=>by
  have h1:=I2.nofs (a:=D) (by rw [hDe];exact Nat.le_refl _)
  rcases List.mem_cons.mp (I2.stkSub _ z)with q | q
  ·have:=I2.lt
   rw [←q,hDe]at this
   exact Nat.lt_irrefl _ this
  ·exact h1 q
 have neLoc:D≠X.env.locals∧C≠X.env.locals:=by
  have h1:=I2.lt
  rw [hDe]at h1
  exact⟨Nat.ne_of_gt h1,Nat.ne_of_gt (Nat.lt_of_lt_of_le h1 hCle)⟩
 have cellLt:∀x c,X.env.cells.lookup x=some c→c < D:=fun x c e=>by
  obtain⟨v,z⟩:=I2.cell x c e
  rw [←hDe]
  exact z.lt
 have pinLt:∀p∈X.pn++pins,p.1 < D:=fun p hp=>by rw [←hDe];exact Heap.lt_size (I2.pin p hp).1
 have hs0:X.s₀.heap.objs.size≤D:=by rw [←hDe];exact I2.sz
 have start:∀{s':Shared} {H':Hp} {m:Str→Option Value} {o:Obj},s'.os=s2.os→AllBare s'.gens→Un (lE X.stack) fp H2 H' s2.heap s'.heap→s'.heap.Ns C m→iq X.prog X.w H' s'.heap→H' C=none→s'.heap.get? D=some o→H' D=none→(∀v,o.data≠.cell v)→
   av (lM X scope own js C s2 H2 fp (X.pn++pins) lX) [(D,o)] (cσ own.length js σ) H' s':=fun {s' H' m o} a1 a2 a3 a4 a5 a6 a7 a8 a9=>
  uf ok I2 (by rw [hDe];exact hCle) f2 fo a1 a2 a3 a4 a5 a6 fun p hp=>by
   have e:p=(D,o):=by simpa using hp
   subst e
   exact⟨a7,a8,hDC,stkD,a9⟩
 have fpC:∀{H':Hp} {o:Obj},(∀b∈fp,H' b=none)→∀b∈fp,jF (lM X scope own js C s2 H2 fp (X.pn++pins) lX) [(D,o)] H' b:=fun {H' o} hn b hb=>by
  obtain⟨_,q1,q2,q3,q4,q5⟩:=f2 b hb
  refine⟨hn b hb,(fD b hb).2,fun z=>?_,.inl hb,fun x c e=>q4 x c (ok.sub I2 e),fun p hp=>?_⟩
  ·rcases List.mem_cons.mp (I2.stkSub b z)with e | e
   ·exact q1 e
   ·exact q2 e
  ·rcases List.mem_append.mp hp with h | h
   ·exact q5 p h
   ·have e:p=(D,o):=by simpa using h
    subst e
    exact(fD b hb).1.symm
 have nocell:∀(its:Array Value) (n:Nat) (v:Option Value),({ cls:=.type "list",data:=.seq its n }:Obj).data≠.cell v:=fun _ _ _ z=>by cases z
 have loop:∀s₃:Shared,s₃={ s2 with heap:=h₁,toks:=s2.toks+([]:List (Str×Value)).length }→
   codeAny (model X.prog X.w) X.A (.compLoop (.ListComp elt [⟨tg,iter,ifs,0⟩] scope pos) 0 (.ref it) (.ref D) (compEnvC scope (gp X.env.cells scope.names []) C X.env)) (RR (.ref D) C) s₃:=by
  rintro s₃ rfl
  refine oq (fun n s'=>∃i ys its k H',av (lM X scope own js C s2 H2 fp (X.pn++pins) lX) [(D,{ cls:=.type "list",data:=.seq (its:List Value).toArray k })] (cσ own.length js σ) H' s'∧tn i s'.heap∧(∀b∈fp,H' b=none)∧
   W i n ys H'∧aA ys its∧ys.length≤sizeLine) ?_ m0 ⟨0,[],[],0,H2,start rfl I2.bare (Un.kept old) hns₁ (I2.hok.kept old) H2C hacc H2D (nocell _ _),T.keep _ _ _ st2 (fun b _ o e=>old b o e),fun b hb=>(f2 b hb).1,w0,.nil,Nat.zero_le _⟩
  rintro n s3 ⟨i,ys,its,k,H3,I3,st3,fr3,w3,rv,hz⟩
  rcases turn i n ys H3 w3 with⟨stop,q⟩ | ⟨go,hlt,N,hN,step⟩
  ·refine wpAny_mono (T.done (lM X scope own js C s2 H2 fp (X.pn++pins) lX) rfl rfl rfl hc i _ s3 _ H3 lX I3 (fpC fr3) st3 stop) (fun r s4 ⟨hr,I4⟩=>?_) fun _ _ f=>f.elim
   subst hr
   obtain⟨zD,nD,_⟩:=I4.pin (D,_) (List.mem_append_right _ List.mem_cons_self)
   obtain⟨m,hm,_⟩:=I4.loc
   have I5:av X pins σ H3 s4:=I2.call' I4.os I4.base I4.hok I4.bare fun b hb=>⟨(f2 b hb).2.2.2.1,(f2 b hb).2.1,(f2 b hb).2.2.2.2.1,(f2 b hb).2.2.2.2.2⟩
   have I6:av X pins σ (upd H3 D (.lst ys)) s4:=I5.track nD zD rv hz (.inr hs0) neLoc.1 (fun x c e=>Nat.ne_of_lt (cellLt x c e)) fun p hp=>Nat.ne_of_lt (pinLt p hp)
   have nC:H3 C=none:=I4.free
   exact hRR D C s4 H3 ys m q nD I6 hm ⟨neLoc.2,.inr (Nat.le_trans hs0 hCle),fun x c e=>Nat.ne_of_lt (Nat.lt_of_lt_of_le (cellLt x c e) hCle),fun p hp=>Nat.ne_of_lt (Nat.lt_of_lt_of_le (pinLt p hp) hCle)⟩ (by rw [ai (Ne.symm hDC)];exact nC)
  ·refine wpAny_mono (T.item (lM X scope own js C s2 H2 fp (X.pn++pins) lX) rfl rfl rfl hc i _ s3 _ H3 lX I3 (fpC fr3) st3 go) (fun r s4 ⟨u,hr,h4⟩=>?_) fun _ _ f=>f.elim
   subst hr
   refine wpAny_mono h4 (fun _ s5 ⟨x,H5,I5,r5,y5,st5,fr5⟩=>?_) fun _ _ f=>f.elim
   have I5':=I5.pinned (fpC fr5) (T.obj _ _ st5)
   refine wpAny_mono (hg _ _ _ _ _ _ s5 _ H5 x u _ I5' r5 (step x H5 y5)) (fun _ s6 ⟨σ6,H6,I6,q6⟩=>?_) fun _ _ f=>f.elim
   refine wpAny_mono (ht _ _ _ _ _ _ s6 σ6 H6 _ I6 q6) (fun b s7 ⟨H7,I7,q7⟩=>?_) fun _ _ f=>f.elim
   have back:∀{s8:Shared} {H8:Hp} {m':Nat} {ys':List V} {its':List Value} {k':Nat},av (lM X scope own js C s2 H2 fp (X.pn++pins) lX) [] σ6 H8 s8→s8.heap.get? D=some { cls:=.type "list",data:=.seq its'.toArray k' }→H8 D=none→
     (∀b∈fp,∀o,s5.heap.get? b=some o→s8.heap.get? b=some o)→(∀b∈fp,H8 b=none)→W (i+1) m' ys' H8→aA ys' its'→ys'.length≤sizeLine→
     ∃i ys its k H',av (lM X scope own js C s2 H2 fp (X.pn++pins) lX) [(D,{ cls:=.type "list",data:=.seq (its:List Value).toArray k })] (cσ own.length js σ) H' s8∧tn i s8.heap∧(∀b∈fp,H' b=none)∧W i m' ys H'∧aA ys its∧ys.length≤sizeLine:=
    fun {s8 H8 m' ys' its' k'} J zD nD kf fr w' rv' hz'=>by
     obtain⟨m,hm,_⟩:=J.loc
     exact⟨i+1,ys',its',k',H8,start J.os J.bare J.base hm J.hok J.free zD nD (nocell _ _),T.keep _ _ _ st5 kf,fr,w',rv',hz'⟩
   cases b with
   | false=>
    rw [if_neg Bool.false_ne_true]
    rw [if_neg Bool.false_ne_true]at q7
    obtain⟨m',hm',w'⟩:=hN _ _ q7
    have pD:=I7.pin (D,_) (List.mem_append_right _ (List.mem_append_left _ List.mem_cons_self))
    refine⟨m',hm',back (I7.pins_of (pins':=[]) fun p hp=>nomatch hp) pD.1 pD.2.1 (fun b hb o e=>(I7.pin (b,o) (List.mem_append_right _ (List.mem_append_right _ (eo hb e)))).1) (fun b hb=>?_) w' rv hz⟩
    obtain⟨o,e,_⟩:=T.obj _ _ st5 b hb
    exact(I7.pin (b,o) (List.mem_append_right _ (List.mem_append_right _ (eo hb e)))).2.1
   | true=>
    rw [if_pos rfl]
    rw [if_pos rfl]at q7
    refine wpAny_mono (he _ _ _ _ _ _ s7 σ6 H7 _ I7 q7) (fun yv s8 ⟨y,H8,I8,r8,q8⟩=>?_) fun _ _ f=>f.elim
    obtain⟨m',hm',w'⟩:=hN _ _ q8
    have pD:=I8.pin (D,_) (List.mem_append_right _ (List.mem_append_left _ List.mem_cons_self))
    refine append_at (hsz:=by rw [List.size_toArray,←rv.length];exact hz) pD.1 fun h9 sb9 z9=>?_
    have I8':av (lM X scope own js C s2 H2 fp (X.pn++pins) lX) [] σ6 H8 s8:=I8.pins_of fun p hp=>nomatch hp
    have I9:av (lM X scope own js C s2 H2 fp (X.pn++pins) lX) [] σ6 H8 { s8 with heap:=h9 }:=I8'.turned (t':=s8.toks) (it:=D) (fun b o hb e=>(sb9.2 b hb).trans e) pD.2.1 hDC (.inr (by show s2.heap.objs.size≤D;rw [hDe];exact Nat.le_refl _))
     (fun x c e=>Nat.ne_of_lt (cellLt x c (ok.sub I2 e))) fun p hp=>by
      rcases List.mem_append.mp hp with h | h
      ·exact Nat.ne_of_lt (pinLt p h)
      ·cases h
    refine⟨m',hm',back (its':=its++[yv]) (k':=k+1) I9 (by rw [z9];simp) pD.2.1 (fun b hb o e=>(sb9.2 b (fD b hb).1).trans (I8.pin (b,o) (List.mem_append_right _ (List.mem_append_right _ (eo hb e)))).1) (fun b hb=>?_) w' (rv.append (.cons r8 .nil)) (by simp;omega)⟩
    obtain⟨o,e,_⟩:=T.obj _ _ st5 b hb
    exact(I8.pin (b,o) (List.mem_append_right _ (List.mem_append_right _ (eo hb e)))).2.1
 exact codeAny_compStart_list (loop _ rfl) (T.self X.A 0 _ _ _ (T.keep _ _ _ st2 (fun b _ o e=>old b o e)) (loop _ rfl))
theorem dW(hc:X.calm=true)(hi:PI X tg iter wi)(ok:bf X scope js)
  (hg:∀C s H ex pn,PG (lM X scope own js C s H ex pn lX) tg g) (ht:∀C s H ex pn,y7 (lM X scope own js C s H ex pn lX) ifs tt) (he:∀C s H ex pn,PE (lM X scope own js C s H ex pn lX) elt te)
  (hs:∀x,foldedSetIterable iter X.env x=pure x:=by intro _;rfl):PE X (.ListComp elt [⟨tg,iter,ifs,0⟩] scope pos) (vn own.length js wi g tt te):=by
 intro pins s σ H Q I h
 rw [eval_ListComp]
 refine wpAny_comprehension_free (use:=none) rfl hs (iw (ok.clos I)) ok.kind ok.names (cj (hi pins s σ H _ I h) fun v s1 h1=>cj h1 fun itv s2 h2=>?_)
 obtain⟨it,fp,tn,J,H2,e,I2,T,st2,f2,W,⟨m0,w0⟩,turn⟩:=h2
 subst e
 refine kd (RR:=fun acc C=>compPost (model X.prog X.w) X.A X.xe none (EP X pins σ Q) acc C) hc ok hg ht he I2 T st2 f2 w0 turn ?_
 intro D C s' H' ys m q nD I6 hm o nC
 exact⟨m,hm,fun h' sb=>⟨.ref D,_,o.go I6 nC sb,rfl,q D nD⟩⟩
theorem qr{i:Nat}{x:Str}{py spos:Pos}(hN:X.N.Nodup)(hix:X.N[i]?=some x)(hx:yO X.env.scope x)(hc:X.calm=true)(hi:PI X tg iter wi)(ok:bf X scope js)
  (hg:∀C s H ex pn,PG (lM X scope own js C s H ex pn lX) tg g) (ht:∀C s H ex pn,y7 (lM X scope own js C s H ex pn lX) ifs tt) (he:∀C s H ex pn,PE (lM X scope own js C s H ex pn lX) elt te)
  (hsw:swapsWith (.ListComp elt [⟨tg,iter,ifs,0⟩] scope pos) (some (.Name x py)) spos.line X.env=pure true)
  (hf:X.fn x=true∨X.env.scope.names.lookup x=some .local:=by first | exact .inl rfl | exact .inr rfl | assumption)
  (hs:∀x,foldedSetIterable iter X.env x=pure x:=by intro _;rfl):PS X (.Assign [.Name x py] (.ListComp elt [⟨tg,iter,ifs,0⟩] scope pos) spos) (eL (vn own.length js wi g tt te) (cc i)):=by
 intro pins s σ H Dd I h
 rw [exec_Assign_Name_used _ _ _ _ hsw]
 refine wpAny_bind (wpAny_standAt (wpAny_bind ?_))
 show wpAny _ X.A (do let _ ←comprehension (.ListComp elt [⟨tg,iter,ifs,0⟩] scope pos) scope X.env _ (newList []) false (eval iter X.env) (some (assign (.Name x py) X.env))) _ _ s
 refine wpAny_bind (wpAny_mono (wpAny_comprehension_free (use:=some (assign (.Name x py) X.env)) (Q:=fun _ s'=>SP X pins Dd .next s') rfl hs (iw (ok.clos I)) ok.kind ok.names
  (cj (hi pins s σ H _ I h) fun v s1 h1=>cj h1 fun itv s2 h2=>?_)) (fun _ s' hq=>wpAny_pure (wpAny_pure hq)) fun _ _ e=>e)
 obtain⟨it,fp,tn,J,H2,e,I2,T,st2,f2,W,⟨m0,w0⟩,turn⟩:=h2
 subst e
 refine kd (RR:=fun acc C=>compPost (model X.prog X.w) X.A X.xe (some (assign (.Name x py) X.env)) (fun _ s'=>SP X pins Dd .next s') acc C) hc ok hg ht he I2 T st2 f2 w0 turn ?_
 intro D C s' H' ys m q nD I6 hm o nC
 show wpAny _ X.A (assign (.Name x py) X.env (.ref D)) _ _ _
 refine wpAny_assign_Name (mH I6 hN hix hx (v:=.ref D) rfl (fun s2' I7 ⟨a,sa,ha⟩=>?_) hf)
 have hCa:C≠a:=by
  rcases ha with e | e
  ·rw [e];exact o.ne
  ·exact fun z=>o.cells x a e z.symm
 exact⟨m,hm.sameBut sa hCa,fun h' sb=>⟨_,_,o.go I7 nC sb,q D nD⟩⟩
end
end L2
namespace L2
open PySem PySem.Spec PyProof.Rows
def vD(X:Cx)(tg:Expr)(r:V→Hp→(It→Hp→Prop)→Prop):Prop:=
 ∀(pins:List (Addr×Obj)) (s:Shared) (σ:St) (H:Hp) (x:V) (v:Value) (R:It→Hp→Prop),av X pins σ H s→aK x v→r x H R→
  wpAny (model X.prog X.w) X.A (pyIter v) (y6 X pins σ tg R) X.xe s
def vE(z:Str):It:=⟨fun i _=>i < z.length,fun i H x H'=>H'=H∧∃c,z.cps[i]?=some c∧x=.str ⟨#[c]⟩,fun i _=>i=z.length⟩
theorem mO{P:Program}{w:World}{A:Around}(hh:A.handled=none)(I:Addr)(z:Str)(t:Tok){ty:String}(hty:ty="str_ascii_iterator"∨ty="str_iterator"):
  Walks P w A I [I] [I] z.cps.size (SignAt z) (fun i h=>h.IsStrIter I ty z t i):=by
 rcases hty with e | e
 ·subst e;exact Walks.strAscii hh I z t
 ·subst e;exact Walks.strWide hh I z t
theorem vt{P:Program}{w:World}{K:PySem.W.Frag}{tg:Expr}(z:Str)(t:Tok)(it:Addr){ty:String}(hty:ty="str_ascii_iterator"∨ty="str_iterator"):
  lH P w K tg (vE z) [it] it (fun i h=>h.IsStrIter it ty z t i) where
 mem:=by simp
 obj:=fun i h st b hb=>by
  have e:b=it:=by simpa using hb
  subst e
  obtain⟨o,e,c,d⟩:=st
  exact⟨o,e,fun v z=>by rw [d]at z;cases z⟩
 keep:=fun i h h' st k=>by
  obtain⟨o,e,r⟩:=st
  exact⟨o,k it (by simp) o e,r⟩
 item:=by
  intro X hP hw hK hc i pins s σ H E I hf st hg
  subst hP hw hK
  obtain⟨f0,f1,f2,f3,f4,f5⟩:=hf it (by simp)
  refine(mO (I.ok.hd hc) it z t hty).item i s _ _ hg st fun v h' tk hv st' kk=>?_
  obtain⟨c,u,hcz,rfl⟩:=hv
  have I1:av X pins σ H { s with heap:=h',toks:=tk }:=I.turned (fun b o hb e=>kk b o (by simpa using hb) e) f0 f1 f3 f4 f5
  obtain⟨o,e,cl,d⟩:=id st'
  refine⟨_,rfl,mj (s:={ s with heap:=h',toks:=tk }) (n:=ty) e cl d (by rcases hty with q | q<;>(subst q;decide)) ⟨.str ⟨#[c]⟩,H,I1,⟨u,rfl⟩,⟨rfl,c,hcz,rfl⟩,st',fun b hb=>(hf b hb).1⟩⟩
 done:=by
  intro X hP hw hK hc i pins s σ H E I hf st hg
  subst hP hw hK
  obtain⟨f0,f1,f2,f3,f4,f5⟩:=hf it (by simp)
  have e:i=z.length:=hg
  subst e
  exact(mO (I.ok.hd hc) it z t hty).done s _ _ st fun h' tk kk=>⟨rfl,I.turned (fun b o hb e=>kk b o (by simpa using hb) e) f0 f1 f3 f4 f5⟩
 self:=fun A i s Q E st h=>by
  rcases hty with e | e
  ·subst e;exact wpAny_pyIter_striter_ascii st h
  ·subst e;exact wpAny_pyIter_striter_wide st h
section
variable {X:Cx} {tg:Expr}
theorem vD.or{r r':V→Hp→(It→Hp→Prop)→Prop}(h:vD X tg r)(h':vD X tg r'):vD X tg (fun x H R=>r x H R∨r' x H R):=by
 intro pins s σ H x v R I rx q
 rcases q with q | q
 ·exact h pins s σ H x v R I rx q
 ·exact h' pins s σ H x v R I rx q
theorem it_list:vD X tg (fun x H R=>∃a,x=.ref a∧(∃xs,aL X.K H a xs)∧R (vy X.K a) H):=by
 intro pins s1 σ H1 x v R I1 r1 q1
 obtain⟨a,e,⟨xs,hq⟩,q⟩:=q1
 subst e
 cases r1
 obtain⟨its,rv,p,hz⟩:=I1.list hq
 refine wpAny_pyIter_list p.isList ?_
 refine⟨s1.heap.objs.size,[s1.heap.objs.size],_,_,H1,rfl,I1.kept (t':=s1.toks) fun b o e=>Heap.get?_push_of_some _ e,tF a _,⟨_,Heap.get?_push_size _ rfl,rfl,rfl⟩,fun b hb=>?_,q⟩
 have e:b=s1.heap.objs.size:=by simpa using hb
 subst e
 exact I1.fpOk (Nat.le_refl _) (I1.hok.fresh (Nat.le_refl _))
theorem it_tup:vD X tg (fun x H R=>∃a,x=.ref a∧(∃xs,cq X.K H a xs)∧R (Ak X.K a) H):=by
 intro pins s1 σ H1 x v R I1 r1 q1
 obtain⟨a,e,⟨xs,hq⟩,q⟩:=q1
 subst e
 cases r1
 obtain⟨its,rv,p,hz⟩:=I1.tuple hq
 refine wpAny_pyIter_tuple (show s1.heap.IsTuple a its.toArray from p) ?_
 refine⟨s1.heap.objs.size,[s1.heap.objs.size],_,_,H1,rfl,I1.kept (t':=s1.toks) fun b o e=>Heap.get?_push_of_some _ e,qN a _,⟨_,Heap.get?_push_size _ rfl,rfl,rfl⟩,fun b hb=>?_,q⟩
 have e:b=s1.heap.objs.size:=by simpa using hb
 subst e
 exact I1.fpOk (Nat.le_refl _) (I1.hok.fresh (Nat.le_refl _))
theorem xR:vD X tg (fun x H R=>∃z,x=.str z∧R (vE z) H):=by
 intro pins s1 σ H1 x v R I1 r1 q1
 obtain⟨z,e,q⟩:=q1
 subst e
 obtain⟨t,rfl⟩:=r1
 have fin:∀(o:Obj) (ty:String),(ty="str_ascii_iterator"∨ty="str_iterator")→(s1.heap.push o).IsStrIter s1.heap.objs.size ty z t 0→y6 X pins σ tg R (.ref s1.heap.objs.size) { s1 with heap:=s1.heap.push o }:=fun o ty hty st=>by
  refine⟨s1.heap.objs.size,[s1.heap.objs.size],_,_,H1,rfl,I1.kept (t':=s1.toks) fun b o e=>Heap.get?_push_of_some _ e,vt z t _ hty,st,fun b hb=>?_,q⟩
  have e:b=s1.heap.objs.size:=by simpa using hb
  subst e
  exact I1.fpOk (Nat.le_refl _) (I1.hok.fresh (Nat.le_refl _))
 cases ha:z.cps.all (· < 128)
 ·exact wpAny_pyIter_wide ha (fin _ _ (.inr rfl) ⟨_,Heap.get?_push_size _ rfl,rfl,rfl⟩)
 ·exact wpAny_pyIter_ascii ha (fin _ _ (.inl rfl) ⟨_,Heap.get?_push_size _ rfl,rfl,rfl⟩)
def yX(K:PySem.W.Frag):V→Hp→(It→Hp→Prop)→Prop:=fun x H R=>(∃a,x=.ref a∧(∃xs,aL K H a xs)∧R (vy K a) H)∨(∃a,x=.ref a∧(∃xs,cq K H a xs)∧R (Ak K a) H)∨∃z,x=.str z∧R (vE z) H
theorem itA:vD X tg (yX X.K):=it_list.or (it_tup.or xR)
def rf(r:V→Hp→(It→Hp→Prop)→Prop)(tl:TE):TI:=fun σ H R=>tl σ H fun x H1=>r x H1 R
theorem zL{l:Expr}{tl:TE}{r:V→Hp→(It→Hp→Prop)→Prop}(hr:vD X tg r)(hl:PE X l tl):PI X tg l (rf r tl):=by
 intro pins s σ H R I h
 exact cj (hl pins s σ H _ I h) fun v s1 ⟨x,H1,I1,r1,q1⟩=>hr pins s1 σ H1 x v R I1 r1 q1
theorem yp{l:Expr}{tl:TE}(hl:PE X l tl):PI X tg l (rf (yX X.K) tl):=zL itA hl
theorem cH{K:PySem.W.Frag}{H:Hp}{a:Addr}{xs:List V}{R:It→Hp→Prop}(h:aL K H a xs)(q:R (vy K a) H):yX K (.ref a) H R:=.inl ⟨a,rfl,⟨xs,h⟩,q⟩
theorem w4{K:PySem.W.Frag}{H:Hp}{z:Str}{R:It→Hp→Prop}(q:R (vE z) H):yX K (.str z) H R:=.inr (.inr ⟨z,rfl,q⟩)
end
theorem z8{z:Str}{g:TG}{tb:TS}{D:gD}{σ:St}{H:Hp}(Pv:Nat→St→Hp→Prop)(h0:Pv 0 σ H)
  (hs:∀i c σ H,z.cps.toList[i]?=some c→Pv i σ H→g (.str ⟨#[c]⟩) σ H fun σ2 H2=>tb { D with nx:=Pv (i+1),ct:=Pv (i+1),bk:=D.nx } σ2 H2) (hd:∀σ H,Pv z.length σ H→D.nx σ H) :
  ∃W:Nat→Nat→St→Hp→Prop,(∃m,W 0 m σ H)∧∀i m σ H,W i m σ H→
   ((vE z).stop i H∧D.nx σ H)∨((vE z).go i H∧∃N:St→Hp→Prop,(∀σ' H',N σ' H'→∃m',m' < m∧W (i+1) m' σ' H')∧∀x H',(vE z).yld i H x H'→g x σ H' fun σ2 H2=>tb { D with nx:=N,ct:=N,bk:=D.nx } σ2 H2):=by
 refine⟨fun i m σ H=>m=z.length - i∧i≤z.length∧Pv i σ H,⟨z.length,by simp,Nat.zero_le _,h0⟩,?_⟩
 rintro i m σ H ⟨rfl,hi,p⟩
 by_cases hlt:i < z.length
 ·refine .inr ⟨hlt,Pv (i+1),fun σ' H' p'=>⟨z.length - (i+1),by omega,rfl,hlt,p'⟩,fun x H' y=>?_⟩
  obtain⟨e,c,hc,e2⟩:=y
  subst e e2
  exact hs i c σ _ (by simpa using hc) p
 ·have e:i=z.length:=by omega
  subst e
  exact .inl ⟨rfl,hd σ H p⟩
section
variable {n:Nat} {js:List Nat} {g:TG} {tt:TT} {te:TE} {σ:St} {H:Hp} {F:List V→Hp→Prop}
abbrev qQ(J:It)(n:Nat)(js:List Nat)(g:TG)(tt:TT)(te:TE)(σ:St)(H:Hp)(F:List V→Hp→Prop):Prop:=
 ∃W:Nat→Nat→List V→Hp→Prop,(∃m,W 0 m [] H)∧∀i m ys H,W i m ys H→(J.stop i H∧F ys H)∨
  (J.go i H∧ys.length < sizeLine∧∃N:List V→Hp→Prop,(∀ys' H',N ys' H'→∃m',m' < m∧W (i+1) m' ys' H')∧∀x H',J.yld i H x H'→g x (cσ n js σ) H' fun σ2 H2=>tt σ2 H2 fun b H3=>if b=true then te σ2 H3 fun y H4=>N (ys++[y]) H4 else N ys H3)
abbrev fi(n:Nat)(js:List Nat)(g:TG)(tt:TT)(te:TE)(σ:St)(x:V)(ys:List V)(H:Hp)(N:List V→Hp→Prop):Prop:=
 g x (cσ n js σ) H fun σ2 H2=>tt σ2 H2 fun b H3=>if b=true then te σ2 H3 fun y H4=>N (ys++[y]) H4 else N ys H3
theorem pW{lo:Int}{k:Nat}(Pv:Nat→List V→Hp→Prop)(hk:k≤sizeLine)(h0:Pv 0 [] H)(hn:∀i ys H,Pv i ys H→ys.length≤i)
  (hs:∀i ys H,i < k→Pv i ys H→fi n js g tt te σ (.int (lo+i)) ys H (Pv (i+1))) (hd:∀ys H,Pv k ys H→F ys H):qQ (rQ lo k) n js g tt te σ H F:=by
 refine⟨fun i m ys H=>m=k - i∧i≤k∧Pv i ys H,⟨k,by simp,Nat.zero_le _,h0⟩,?_⟩
 rintro i m ys H ⟨rfl,hi,p⟩
 by_cases hlt:i < k
 ·refine .inr ⟨hlt,Nat.lt_of_le_of_lt (hn i ys H p) (Nat.lt_of_lt_of_le hlt hk),Pv (i+1),fun σ' H' p'=>⟨k - (i+1),by omega,rfl,hlt,p'⟩,fun x H' y=>?_⟩
  obtain⟨e,y⟩:=y
  subst e y
  exact hs i ys _ hlt p
 ·have e:i=k:=by omega
  subst e
  exact .inl ⟨Nat.le_refl _,hd ys H p⟩
theorem sf{K:PySem.W.Frag}{a:Addr}{xs:List V}(Pv:Nat→List V→Hp→Prop)(hk:xs.length≤sizeLine)(h0:Pv 0 [] H)(hn:∀i ys H,Pv i ys H→ys.length≤i)(hl:∀i ys H,Pv i ys H→aL K H a xs)
  (hs:∀i x ys H,xs[i]?=some x→Pv i ys H→fi n js g tt te σ x ys H (Pv (i+1))) (hd:∀ys H,Pv xs.length ys H→F ys H):qQ (vy K a) n js g tt te σ H F:=by
 refine⟨fun i m ys H=>m=xs.length - i∧i≤xs.length∧Pv i ys H,⟨xs.length,by simp,Nat.zero_le _,h0⟩,?_⟩
 rintro i m ys H ⟨rfl,hi,p⟩
 have q:=hl i ys H p
 by_cases hlt:i < xs.length
 ·refine .inr ⟨⟨xs,xs[i],q,by simp [hlt]⟩,Nat.lt_of_le_of_lt (hn i ys H p) (Nat.lt_of_lt_of_le hlt hk),Pv (i+1),fun σ' H' p'=>⟨xs.length - (i+1),by omega,rfl,hlt,p'⟩,fun x H' y=>?_⟩
  obtain⟨e,y⟩:=y
  subst e
  exact hs i x ys _ (y xs q) p
 ·have e:i=xs.length:=by omega
  subst e
  exact .inl ⟨⟨xs,q,Nat.le_refl _⟩,hd ys H p⟩
theorem t4{z:Str}(Pv:Nat→List V→Hp→Prop)(hk:z.length≤sizeLine)(h0:Pv 0 [] H)(hn:∀i ys H,Pv i ys H→ys.length≤i)
  (hs:∀i c ys H,z.cps.toList[i]?=some c→Pv i ys H→fi n js g tt te σ (.str ⟨#[c]⟩) ys H (Pv (i+1))) (hd:∀ys H,Pv z.length ys H→F ys H):qQ (vE z) n js g tt te σ H F:=by
 refine⟨fun i m ys H=>m=z.length - i∧i≤z.length∧Pv i ys H,⟨z.length,by simp,Nat.zero_le _,h0⟩,?_⟩
 rintro i m ys H ⟨rfl,hi,p⟩
 by_cases hlt:i < z.length
 ·refine .inr ⟨hlt,Nat.lt_of_le_of_lt (hn i ys H p) (Nat.lt_of_lt_of_le hlt hk),Pv (i+1),fun σ' H' p'=>⟨z.length - (i+1),by omega,rfl,hlt,p'⟩,fun x H' y=>?_⟩
  obtain⟨e,c,hc,e2⟩:=y
  subst e e2
  exact hs i c ys _ (by simpa using hc) p
 ·have e:i=z.length:=by omega
  subst e
  exact .inl ⟨rfl,hd ys H p⟩
end
theorem tD(xs:Array Nat):∀(n:Nat) (acc:Array Nat),((List.replicate n xs).foldl (· ++ ·) acc).size=acc.size+n * xs.size
 | 0,acc=>by simp
 | n+1,acc=>by
  rw [List.replicate_succ,List.foldl_cons,tD xs n,Array.size_append,Nat.succ_mul]
  omega
theorem mi(xs:Array Nat):∀(n:Nat) (acc:Array Nat),((List.replicate n xs).foldl (· ++ ·) acc).toList=acc.toList++(List.replicate n xs.toList).flatten
 | 0,acc=>by simp
 | n+1,acc=>by
  rw [List.replicate_succ,List.foldl_cons,mi xs n,List.replicate_succ,List.flatten_cons,Array.toList_append,List.append_assoc]
def i7(z:Str)(k:Int):Str:=if k < 1 then Str.empty else if (k == 1 || z.length == 0)=true then z else⟨(List.replicate k.toNat z.cps).foldl (· ++ ·) #[]⟩
theorem qv(z:Str)(k:Int):(i7 z k).cps.toList=(List.replicate k.toNat z.cps.toList).flatten:=by
 unfold i7
 split
 ·have e:k.toNat=0:=by omega
  rw [e];rfl
 ·split
  ·rename_i h1 h2
   rw [Bool.or_eq_true]at h2
   rcases h2 with h2 | h2
   ·have e:k=1:=by simpa using h2
    subst e
    simp
   ·have e:z.cps.size=0:=by simpa [Str.length]using h2
    have e2:z.cps.toList=[]:=by
     rw [←List.length_eq_zero_iff]
     simpa using e
    rw [e2]
    simp
  ·simpa using mi z.cps k.toNat #[]
theorem pB(z:Str)(k:Int):(i7 z k).length=k.toNat * z.length:=by
 have e:(i7 z k).length=(i7 z k).cps.toList.length:=by simp [Str.length]
 rw [e,qv,mY]
 simp [Str.length]
section
variable {X:Cx} {a b c:Expr} {ta tb tc:TE} {pos:Pos}
theorem op_mulB:dq X (binaryOp .Mult) (rI IntMulOk fun i j=>.int (i * j)):=zy fun _ _ _ _ _ _ _ hc q=>mul_int q hc
theorem op_mul_str:dq X (binaryOp .Mult) (fun x y H Q=>∃z k,x=.str z∧y=.int k∧(-1000000≤k∧k≤1000000∧z.length≤16)∧Q (.str (i7 z k)) H):=by
 intro pins s σ H x y v u Q I rx ry h
 obtain⟨z,k,rfl,rfl,⟨h2,h1,h3⟩,q⟩:=h
 obtain⟨t,rfl⟩:=rx
 obtain⟨t',rfl⟩:=ry
 have hs:sizeLine=16777216:=sizeLine_eq
 have hl:=pB z k
 have hb:z.length * k.toNat≤16 * 1000000:=Nat.mul_le_mul h3 (by omega)
 rw [Nat.mul_comm]at hl
 have fin:∀t' tk,EP X pins σ Q (.str (i7 z k) t') { s with toks:=tk }:=fun t' tk=>⟨.str _,H,I.tok _,⟨t',rfl⟩,q⟩
 refine P.mul_str ?_ (fun h4 h5=>?_) (fun h4 h5=>?_) ?_
 ·have e1:¬k < -(2 ^ 63:Int):=by omega
  have e2:¬k≥2 ^ 63:=by omega
  rw [decide_eq_false e1,decide_eq_false e2];rfl
 ·have h6:(16:Int)≤(2 ^ 63 - 1) / k:=by
   rw [Int.le_ediv_iff_mul_le (by omega)]
   omega
  omega
 ·unfold Builtin.Str.tooLong
  exact decide_eq_false (by omega)
 ·unfold i7 at fin hl
  by_cases h4:k < 1
  ·rw [if_pos h4]at fin ⊢
   exact⟨by decide,fin _ _⟩
  ·rw [if_neg h4]at fin hl ⊢
   by_cases h5:(k == 1 || z.length == 0)=true
   ·rw [if_pos h5]at fin ⊢
    exact fin t s.toks
   ·rw [if_neg h5]at fin hl ⊢
    exact⟨by omega,fin _ _⟩
def jD:R2:=fun x y H Q=>rI IntMulOk (fun i j=>.int (i * j)) x y H Q∨(∃z k,x=.str z∧y=.int k∧(-1000000≤k∧k≤1000000∧z.length≤16)∧Q (.str (i7 z k)) H)∨xb x y H Q
theorem opMul:dq X (binaryOp .Mult) jD:=op_mulB.or (op_mul_str.or yk)
theorem pk{i j:Int}{H:Hp}{Q:VK}:jD (.int i) (.int j) H Q↔IntMulOk i j∧Q (.int (i * j)) H:=by
 simp [jD,rI,xb]
theorem pw{z:Str}{j:Int}{H:Hp}{Q:VK}:jD (.str z) (.int j) H Q↔(-1000000≤j∧j≤1000000∧z.length≤16)∧Q (.str (i7 z j)) H:=by
 simp [jD,rI,xb]
def eg(K:PySem.W.Frag):R2:=fun x y H Q=>jO (fun i j=>.int (i+j)) x y H Q∨(∃i j,x=.str i∧y=.str j∧i.length+j.length≤sizeLine∧Q (.str (i++j)) H)∨wV x y H Q∨rD K x y H Q
theorem opAdd:dq X (binaryOp .Add) (eg X.K):=op_add.or (op_add_str.or (op_cat.or wG))
theorem rAddA_ii{K:PySem.W.Frag}{i j:Int}{H:Hp}{Q:VK}:eg K (.int i) (.int j) H Q↔Q (.int (i+j)) H:=by
 simp [eg,jO,wV,rD]
theorem uZ{K:PySem.W.Frag}{i j:Str}{H:Hp}{Q:VK}:eg K (.str i) (.str j) H Q↔i.length+j.length≤sizeLine∧Q (.str (i++j)) H:=by
 simp [eg,jO,wV,rD]
theorem ph{K:PySem.W.Frag}{l b:Addr}{xs zs:List V}{H:Hp}{Q:VK}(h1:H l=some (.lst xs))(h2:H b=some (.lst zs))(hz:xs.length+zs.length≤sizeLine)(q:∀p,H p=none→Q (.ref p) (upd H p (.lst (xs++zs)))):eg K (.ref l) (.ref b) H Q:=
 .inr (.inr (.inl ⟨l,b,xs,zs,rfl,rfl,h1,h2,hz,q⟩))
def yA:V→Option Int→Option Int→Hp→VK→Prop:=fun x lo hi H Q=>∃z,x=.str z∧z.length≤sizeLine∧Q (.str (Txt.slice z lo hi)) H
theorem yG:vz X yA:=by
 intro pins s σ H x v vl vu lo hi sl Q I rx hs pl pu h
 obtain⟨z,rfl,hz,q⟩:=h
 obtain⟨t,rfl⟩:=rx
 have fin:∀t' tk,EP X pins σ Q (.str (Txt.slice z lo hi) t') { s with toks:=tk }:=fun t' tk=>⟨.str _,H,I.tok _,⟨t',rfl⟩,q⟩
 refine⟨"str",_,F.slot_str_getitem.lookup,typeIs_str _ _ _,?_⟩
 cases pl with
 | none=>cases pu with
  | none=>exact wpAny_getItem_str_slice (l:=none) (u:=none) (st:=none) hs rfl (post_val_or_str ⟨Nat.le_trans (Txt.slice_le z _ _) hz,fun t' k=>fin t' k⟩)
  | int j u=>exact wpAny_getItem_str_slice (l:=none) (u:=some (j,u)) (st:=none) hs rfl (post_val_or_str ⟨Nat.le_trans (Txt.slice_le z _ _) hz,fun t' k=>fin t' k⟩)
 | int i u=>cases pu with
  | none=>exact wpAny_getItem_str_slice (l:=some (i,u)) (u:=none) (st:=none) hs rfl (post_val_or_str ⟨Nat.le_trans (Txt.slice_le z _ _) hz,fun t' k=>fin t' k⟩)
  | int j u'=>exact wpAny_getItem_str_slice (l:=some (i,u)) (u:=some (j,u')) (st:=none) hs rfl (post_val_or_str ⟨Nat.le_trans (Txt.slice_le z _ _) hz,fun t' k=>fin t' k⟩)
def s9(K:PySem.W.Frag):V→Option Int→Option Int→Hp→VK→Prop:=fun x lo hi H Q=>yz K x lo hi H Q∨yB K x lo hi H Q∨yA x lo hi H Q
theorem slA:vz X (s9 X.K):=sl_list.or (sl_tup.or yG)
theorem yy{K:PySem.W.Frag}{z:Str}{lo hi:Option Int}{H:Hp}{Q:VK}:s9 K (.str z) lo hi H Q↔z.length≤sizeLine∧Q (.str (Txt.slice z lo hi)) H:=by
 simp [s9,yz,yB,yA]
theorem yx{K:PySem.W.Frag}{a:Addr}{xs:List V}{lo hi:Option Int}{H:Hp}{Q:VK}(h:aL K H a xs)(q:∀p,H p=none→Q (.ref p) (upd H p (.lst (mV xs lo hi)))):s9 K (.ref a) lo hi H Q:=.inl ⟨a,xs,rfl,h,q⟩
theorem ixA:tM X (rF X.K):=xS
theorem zQ{K:PySem.W.Frag}{z:Str}{i:Int}{H:Hp}{Q:VK}:rF K (.str z) (.int i) H Q↔z.length≤sizeLine∧∃c,lD z.cps.toList i=some c∧Q (.str ⟨#[c]⟩) H:=by
 simp [rF,yr,yu,yt]
theorem eZ{K:PySem.W.Frag}{p:Addr}{xs:List V}{i:Int}{v:V}{H:Hp}{Q:VK}(h:aL K H p xs)(hv:lD xs i=some v)(q:Q v H):rF K (.ref p) (.int i) H Q:=.inl ⟨p,xs,i,v,rfl,rfl,h,hv,q⟩
theorem jC{K:PySem.W.Frag}{p:Addr}{xs:List V}{i:Int}{v:V}{H:Hp}{Q:VK}(h:cq K H p xs)(hv:lD xs i=some v)(q:Q v H):rF K (.ref p) (.int i) H Q:=.inr (.inl ⟨p,xs,i,v,rfl,rfl,h,hv,q⟩)
theorem opEq:dq X (compareOp .Eq) my:=zF
theorem opNe:dq X (compareOp .NotEq) mz:=zH
theorem yg:dq X (compareOp .Lt) (jO fun i j=>.bl (decide (i < j))):=zG
theorem rEq_ii{i j:Int}{H:Hp}{Q:VK}:my (.int i) (.int j) H Q↔Q (.bl (decide (i=j))) H:=by simp [my,pC]
theorem nH{i j:Int}{H:Hp}{Q:VK}:mz (.int i) (.int j) H Q↔Q (.bl (!decide (i=j))) H:=by simp [mz,pC]
theorem nF{i j:Str}{H:Hp}{Q:VK}:my (.str i) (.str j) H Q↔Q (.bl (decide (i=j))) H:=by simp [my,pC]
theorem nI{i j:Str}{H:Hp}{Q:VK}:mz (.str i) (.str j) H Q↔Q (.bl (!decide (i=j))) H:=by simp [mz,pC]
theorem u5{i j:Bool}{H:Hp}{Q:VK}:my (.bl i) (.bl j) H Q↔Q (.bl (decide (i=j))) H:=by simp [my,pC]
theorem u9{i j:Bool}{H:Hp}{Q:VK}:mz (.bl i) (.bl j) H Q↔Q (.bl (!decide (i=j))) H:=by simp [mz,pC]
def u6(K:PySem.W.Frag):R2:=fun x y H Q=>(∃i j,x=.str i∧y=.str j∧Q (.bl (!(Builtin.Str.occurrences j i 0 j.length 1).isEmpty)) H)∨yW K false x y H Q
def il(K:PySem.W.Frag):R2:=fun x y H Q=>(∃i j,x=.str i∧y=.str j∧Q (.bl (!(!(Builtin.Str.occurrences j i 0 j.length 1).isEmpty))) H)∨yW K true x y H Q
theorem Av:dq X (compareOp .In) (u6 X.K):=op_in_str.or sT
theorem wD:dq X (compareOp .NotIn) (il X.K):=op_notin_str.or nh
theorem yq{K:PySem.W.Frag}{c:Nat}{z:Str}{H:Hp}{Q:VK}:u6 K (.str ⟨#[c]⟩) (.str z) H Q↔Q (.bl (decide (c∈z.cps.toList))) H:=by
 simp [u6,yW,StrLaws.found_one]
theorem sZ{K:PySem.W.Frag}{c:Nat}{z:Str}{H:Hp}{Q:VK}:il K (.str ⟨#[c]⟩) (.str z) H Q↔Q (.bl (!decide (c∈z.cps.toList))) H:=by
 have e':(Builtin.Str.occurrences z ⟨#[c]⟩ 0 z.length 1).isEmpty=!decide (c∈z.cps.toList):=by
  rw [←StrLaws.found_one z c,Bool.not_not]
 simp [il,yW,e']
theorem rX:bN X (.builtin "len") (fun xs H Q=>(∃z,xs=[.str z]∧z.length≤sizeLine∧Q (.int z.length) H)∨∃p ys,xs=[.ref p]∧(aL X.K H p ys∨cq X.K H p ys)∧Q (.int ys.length) H):=call_len_str.or mT
theorem call_int_text:bN X (.type "int") (fun xs H Q=>∃z n,xs=[.str z]∧intText? z=some n∧z.length≤640∧Q (.int n) H):=by
 intro pins s σ H xs us Q I r h
 obtain⟨z,n,rfl,hn,hl,q⟩:=h
 obtain⟨u,rfl,ru⟩:=eM r
 obtain⟨t,rfl⟩:=ru
 exact PySem.W.KIN.call_text hn hl ⟨.int n,H,I.tok _,⟨_,rfl⟩,q⟩
theorem ic:bN X (.type "int") (fun xs H Q=>(∃z n,xs=[.str z]∧intText? z=some n∧z.length≤640∧Q (.int n) H)∨((∃i,xs=[.int i]∧Q (.int i) H)∨∃k,xs=[.bl k]∧Q (.int (if k then 1 else 0)) H)):=call_int_text.or rW
theorem lN:tU X "str.startswith" (fun x xs H Q=>∃z y,x=.str z∧xs=[.str y]∧Q (.bl (Txt.startswith z y)) H):=by
 intro pins s σ H x xs v us Q I rx r h
 obtain⟨z,y,rfl,rfl,q⟩:=h
 obtain⟨t,rfl⟩:=rx
 obtain⟨u,rfl,t',rfl⟩:=eM r
 exact SC.startswith ⟨.bl _,H,I,rfl,q⟩
theorem og:bN X (.builtin "isinstance") (fun xs H Q=>∃x n t b,xs=[x,.ty n]∧iV X.K H x t∧PySem.W.kitOne X.K t (.type n)=some b∧Q (.bl b) H):=by
 intro pins s σ H xs us Q I r h
 obtain⟨x,n,t,b,rfl,ty,e,q⟩:=h
 obtain⟨u,w',rfl,ru,rw'⟩:=rO r
 cases rw'
 exact sy I ru ty e fun tk=>⟨.bl b,H,I.tok _,rfl,q⟩
theorem lB:∀{bs:List Bool} {us:List Value},aA (bs.map V.bl) us→us=bs.map Value.bool
 | [],_,.nil=>rfl
 | b::bs,_,.cons r t=>by
  have e:_=Value.bool b:=r
  rw [List.map_cons,e,lB t]
theorem td(bs:List Bool):(List.range bs.length).all (fun i=>bs.getD i true)=bs.all id:=by
 induction bs with
 | nil=>rfl
 | cons b bs ih=>
  rw [List.length_cons,List.range_succ_eq_map,List.all_cons,List.all_map,List.all_cons,←ih]
  rfl
theorem rV(hc:X.calm=true):bN X (.builtin "all") (fun xs H Q=>∃(p:Addr) (bs:List Bool),xs=[.ref p]∧aL X.K H p (bs.map V.bl)∧Q (.bl (bs.all id)) H):=by
 intro pins s σ H xs us Q I r h
 obtain⟨p,bs,rfl,hq,q⟩:=h
 obtain⟨u,rfl,ru⟩:=eM r
 cases ru
 obtain⟨its,rv,pl,hz⟩:=I.list hq
 have e:=lB rv
 subst e
 have hh:X.A.in1.handled=none:=I.ok.hd hc
 refine call_all_walk (wpAny_pyIter_list pl.isList ⟨s.heap.objs.size,[s.heap.objs.size,p],[s.heap.objs.size],_,_,_,fun i=>bs.getD i true,rfl,Walks.list hh _ p ?_ _,⟨⟨_,Heap.get?_push_size _ rfl,rfl,rfl⟩,pl.isList.push _⟩,?_,fun h' tk hk=>?_⟩)
 ·obtain⟨o,n,e,_⟩:=pl
  exact Nat.ne_of_lt (Heap.lt_size e)
 ·intro i v s' Q' E' hv hQ'
  have hv':(bs.map Value.bool)[i]?=some v:=by simpa using hv
  rw [List.getElem?_map]at hv'
  cases hb:bs[i]? with
  | none=>rw [hb]at hv';cases hv'
  | some b=>
   rw [hb]at hv'
   cases hv'
   have hQ2:Q' (bs.getD i true) s':=hQ'
   rw [List.getD_eq_getElem?_getD,hb]at hQ2
   exact wpAny_truthy_bool hQ2
 ·refine⟨.bl (bs.all id),H,I.kept (h':=h') (t':=tk) fun b o e=>hk b o ?_ (Heap.get?_push_of_some _ e),?_,q⟩
  ·intro z
   have z':b=s.heap.objs.size:=by simpa using z
   exact absurd (Heap.lt_size e) (by rw [z'];exact Nat.lt_irrefl _)
  ·show Value.bool _=Value.bool _
   rw [←td]
   simp
theorem qj{x:Str}{v:V}{pos:Pos}(h:∃u,X.mg x=some u∧aK v u)(hg:Gl X x:=by rfl)(hd:(x == ("__debug__":Str))=false:=by decide):PE X (.Name x pos) (tC v):=
 let ⟨_,hm,r⟩:=h;wK hg hm r hd
end
structure eC(P:Program)(w:World)(K:PySem.W.Frag)(mg:Str→Option Value)(base:Heap)(x:Str)(k:Nat)(ps:List Str)(sp:Sp):Prop where
 ex:∃(f:Addr) (fd:FuncData),bj P w K mg base fK k f fd ps sp∧mg x=some (.ref f)∧PySem.W.keepIn K (.ref f)=true∧eG K fd ps []
section
variable {X:Cx} {k:Nat} {ps:List Str} {sp:Sp} {x:Str} {p pos:Pos} {e:Expr} {es:List Expr} {t:TA}
theorem aO(d:eC X.prog X.w X.K X.mg X.base x k ps sp)(hr:dz k X.A)(hg:Gl X x)(ha:PA X (e::es) t)(hdb:(x == ("__debug__":Str))=false:=by decide)
  (he:starEach (e::es) X.env=(false,eval e X.env)::starEach es X.env:=by rfl) (hpl:(backTo pos (starEach es X.env)).any (·.1)=false:=by rfl):PE X (.Call (.Name x p) (e::es) [] pos) (cE sp [] E0 t):=
 let ⟨_,_,F,hm,hk,hb⟩:=d.ex;wJ F hr hg hm hk hb .nil oW ha hdb he hpl
end
end L2
namespace L3
open PySem PySem.Spec PyProof.Rows
section
variable {prog:Program} {w:World} {A:Around} {E:Value→Shared→Prop} {s:Shared}
theorem m6{it t:Addr}{i:Nat}{its:Array Value}{x:Value}{Q:Value→Shared→Prop}(qi:s.heap.IsTupleIter it t i)(qt:s.heap.IsTuple t its)(qx:its[i]?=some x)
  (hQ:∀h',h'.IsTupleIter it t (i+1)→Heap.SameBut it s.heap h'→Q x { s with heap:=h' }):wpAny (model prog w) A (Builtin.SmallTypes.nextOf (.ref it)) Q E s:=by
 obtain⟨oi,qo,qc,qd⟩:=id qi
 obtain⟨ot,qot,_,nt,qdt⟩:=qt
 unfold Builtin.SmallTypes.nextOf
 refine wpAny_bind (wpAny_callSpecial?_slot (name:=Str.ofString "__next__") qi.typeIs F.slot_tuple_iterator_next (wpAny_call_entry F.slot_tuple_iterator_next qi.typeIs F.entry_tuple_iterator_next ?_ (F.args_tuple_iterator_next_1 _)))
 show wpAny _ _ (field (.ref it) 0 >>= _) _ _ s
 refine wpAny_bind (wpAny_field qo qd (x:=.ref t) rfl ?_)
 show wpAny _ _ (if (Value.ref t == Value.none)=true then _ else _) _ _ s;rw [if_neg (show ¬((Value.ref t == Value.none)=true)from Bool.false_ne_true)]
 show wpAny _ _ (field (.ref it) 1 >>= _) _ _ s
 refine wpAny_bind (wpAny_field qo qd (x:=.int i 0) rfl ?_)
 show wpAny _ _ (seqItems? (.ref t) >>= _) _ _ s;refine wpAny_bind (wpAny_seqItems qot qdt ?_)
 simp only [Int.toNat_natCast,qx]
 refine wpAny_bind (wpAny_setField qo qd (by simp) (wpAny_pure ⟨x,rfl,wpAny_pure (hQ _ ?_ (Heap.SameBut.update ..))⟩))
 exact⟨_,Heap.get?_update_self _ qo (Obj.isFreed_of_fields (Obj.data_mapFields qd _)),(Obj.cls_mapFields ..).trans qc,by rw [Obj.data_mapFields qd];simp [rawInt]⟩
theorem oQ{it t:Addr}{i:Nat}{its:Array Value}{Q:Value→Shared→Prop}(hh:A.handled=none)(qi:s.heap.IsTupleIter it t i)(qt:s.heap.IsTuple t its)(qx:its[i]?=none)
  (hE:∀h' e,Heap.ExtBut it s.heap h'→(∃o,h'.get? e=some o∧o.cls=.type "StopIteration")→E (.ref e) { s with heap:=h' }):wpAny (model prog w) A (Builtin.SmallTypes.nextOf (.ref it)) Q E s:=by
 obtain⟨oi,qo,qc,qd⟩:=id qi
 obtain⟨ot,qot,_,nt,qdt⟩:=qt
 unfold Builtin.SmallTypes.nextOf
 refine wpAny_bind (wpAny_callSpecial?_slot (name:=Str.ofString "__next__") qi.typeIs F.slot_tuple_iterator_next (wpAny_call_entry F.slot_tuple_iterator_next qi.typeIs F.entry_tuple_iterator_next ?_ (F.args_tuple_iterator_next_1 _)))
 show wpAny _ _ (field (.ref it) 0 >>= _) _ _ s
 refine wpAny_bind (wpAny_field qo qd (x:=.ref t) rfl ?_)
 show wpAny _ _ (if (Value.ref t == Value.none)=true then _ else _) _ _ s;rw [if_neg (show ¬((Value.ref t == Value.none)=true)from Bool.false_ne_true)]
 show wpAny _ _ (field (.ref it) 1 >>= _) _ _ s
 refine wpAny_bind (wpAny_field qo qd (x:=.int i 0) rfl ?_)
 show wpAny _ _ (seqItems? (.ref t) >>= _) _ _ s;refine wpAny_bind (wpAny_seqItems qot qdt ?_)
 simp only [Int.toNat_natCast,qx]
 refine wpAny_bind (wpAny_rule (wpAny_bind (wpAny_setField qo qd (by simp) ?_)))
 show wpAny _ _ (newExc (.type "StopIteration") [] >>= _) _ _ _;refine wpAny_bind ?_;simp only [newExc,newTuple]
 refine wpAny_bind (wpAny_newObj_type ?_ (by size_fits));refine wpAny_bind (m:=firstArgMember _ _) (wpAny_of_eq (a:=Value.none) (by first | rfl | (simp only [firstArgMember];rfl)) ?_)
 refine wpAny_newObj_type ?_ (by size_fits);simp only [raiseNew];refine wpAny_bind (wpAny_handled ?_)
 first | rw [show A.in1.handled=none from hh] | rw [hh]
 exact wpAny_bind (wpAny_pure (wpAny_throw (hE _ _ (((Heap.SameBut.update ..).extBut.push _).push _) ⟨_,Heap.get?_push_size _ rfl,rfl⟩)))
end
theorem draws_tuple{prog:Program}{w:World}{A:Around}(hh:A.handled=none)(it t:Addr)(hne:t≠it)(its:Array Value):
  Draws prog w A it [it,t] its.size (fun i v=>its[i]?=some v) (fun i h=>h.IsTupleIter it t i∧h.IsTuple t its) where
 live:=fun _ _ st=>let ⟨o,ho,_⟩:=st.1;⟨o,ho⟩
 frame:=fun _ _ _ st hk=>⟨st.1.at fun o e=>hk it (by simp) o e,let ⟨o,ho,r⟩:=st.2;⟨o,hk t (by simp) o ho,r⟩⟩
 item:=fun i s Q E hi st hQ=>m6 st.1 st.2 (x:=its[i]) (by simp [hi]) fun h' qi qs=>hQ _ h' s.toks (by simp [hi]) ⟨qi,st.2.extBut qs.extBut hne⟩ qs
 done:=fun s Q E st hE=>oQ hh st.1 st.2 (by simp) hE
structure ZAp(z TI TO i1 i2:Addr)(f1 f2:List Addr):Prop where
 a1:TI≠z
 a2:TO≠z
 a3:TI≠TO
 m1:i1∈f1
 m2:i2∈f2
 z1:z∉f1
 z2:z∉f2
 t1:TI∉f1
 t2:TI∉f2
 o1:TO∉f1
 o2:TO∉f2
 n1:i1∉f2
 n2:i2∉f1
section
variable {prog:Program} {w:World} {A:Around} {E:Value→Shared→Prop} {s:Shared} {z TI TO i1 i2:Addr} {f1 f2:List Addr} {n1 n2 k:Nat} {P1 P2:Nat→Value→Prop} {S1 S2:Nat→Heap→Prop} {a b:Value}
theorem sh{it c:Addr}{fp:List Addr}{n i:Nat}{P:Nat→Value→Prop}{St:Nat→Heap→Prop}{h h':Heap}(D:Draws prog w A it fp n P St)(st:St i h)(sb:Heap.SameBut c h h')(hc:c∉fp):St i h':=
 D.frame i h h' st fun d hd o e=>(sb.2 d fun q=>hc (q▸hd)).trans e
theorem tI{Q:Value→Shared→Prop}(D1:Draws prog w A i1 f1 n1 P1 S1)(D2:Draws prog w A i2 f2 n2 P2 S2)(ap:ZAp z TI TO i1 i2 f1 f2)(qz:IsZip s.heap z TI TO .none)(qI:IsPair s.heap TI (.ref i1) (.ref i2))(qO:IsPair s.heap TO a b)
  (st1:S1 k s.heap) (st2:S2 k s.heap) (k1:k < n1) (k2:k < n2)
  (hQ:∀x y h' tk,P1 k x→P2 k y→IsZip h' z TI TO (rawInt s.heap.objs.size)→IsPair h' TO x y→S1 (k+1) h'→S2 (k+1) h'→IsPair h' s.heap.objs.size x y→h'.objs.size=s.heap.objs.size+1→
   (∀c o,c≠z→c≠TO→c≠i1→c≠i2→s.heap.get? c=some o→h'.get? c=some o)→Q (.ref s.heap.objs.size) { s with heap:=h',toks:=tk }) :
  wpAny (model prog w) A (Builtin.«zip.__next__» ⟨[.ref z],[]⟩) (fun fin s'=>∃v,fin=.done (.ret v)∧Q v s') E s:=by
 have c1:i1≠z:=fun q=>ap.z1 (q▸ap.m1)
 have c2:i2≠z:=fun q=>ap.z2 (q▸ap.m2)
 have c3:TO≠i1:=fun q=>ap.o1 (q▸ap.m1)
 have c4:TO≠i2:=fun q=>ap.o2 (q▸ap.m2)
 show wpAny _ _ (field (.ref z) 2 >>= _) _ _ _;refine wpAny_bind (wpAny_field qz rfl (x:=.bool false) rfl ?_)
 show wpAny _ _ (field (.ref z) 3 >>= _) _ _ _;refine wpAny_bind (wpAny_field qz rfl (x:=.ref TI) rfl ?_)
 refine wpAny_bind (wpAny_seqItems qI rfl ?_)
 show wpAny _ _ (Builtin.SmallTypes.ownedTupleIsFree (.ref z) >>= _) _ _ _;refine wpAny_bind ?_;unfold Builtin.SmallTypes.ownedTupleIsFree
 refine wpAny_bind (wpAny_field qz rfl (x:=.none) rfl (wpAny_pure ?_));simp only [if_true]
 refine wpAny_bind (wpAny_rule ?_);refine wpAny_bind (wpAny_field qz rfl (x:=.ref TO) rfl ?_)
 refine wpAny_bind (wpAny_setField_rec qz (by simp) fun h₁ z₁ e₁=>?_)
 replace z₁:IsZip h₁ z TI TO .ellipsis:=z₁
 refine wpAny_bind ?_;simp only [List.zipIdx_cons,List.zipIdx_nil,List.forIn_cons,List.forIn_nil]
 refine wpAny_bind (wpAny_bind (wpAny_onRaise ?_));show wpAny _ _ (Builtin.SmallTypes.nextOf (.ref i1) >>= _) _ _ _
 refine wpAny_bind (D1.item k _ _ _ k1 (sh D1 st1 e₁ ap.z1) fun x h₂ tk₂ p1 u1 e₂=>wpAny_pure ?_)
 have o₂:IsPair h₂ TO a b:=e₂.extBut _ _ c3 (e₁.extBut _ _ ap.a2 qO)
 refine wpAny_bind (wpAny_seqItems o₂ rfl ?_);refine wpAny_bind (wpAny_updateSeq_pair o₂ fun h₃ o₃ e₃=>?_)
 replace o₃:IsPair h₃ TO x b:=o₃
 refine wpAny_bind (wpAny_letGo (wpAny_pure ?_));refine wpAny_bind (wpAny_bind (wpAny_onRaise ?_));show wpAny _ _ (Builtin.SmallTypes.nextOf (.ref i2) >>= _) _ _ _
 refine wpAny_bind (D2.item k _ _ _ k2 (sh D2 (sh D2 (sh D2 st2 e₁ ap.z2) e₂ ap.n1) e₃ ap.o2) fun y h₄ tk₄ p2 u2 e₄=>wpAny_pure ?_)
 have o₄:IsPair h₄ TO x b:=e₄.extBut _ _ c4 o₃
 refine wpAny_bind (wpAny_seqItems o₄ rfl ?_);refine wpAny_bind (wpAny_updateSeq_pair o₄ fun h₅ o₅ e₅=>?_)
 replace o₅:IsPair h₅ TO x y:=o₅
 refine wpAny_bind (wpAny_letGo (wpAny_pure (wpAny_pure ?_)));refine wpAny_bind (wpAny_seqItems o₅ rfl ?_);refine wpAny_bind (wpAny_newTuple ?_)
 have sz:h₅.objs.size=s.heap.objs.size:=by rw [e₅.1,e₄.1,e₃.1,e₂.1,e₁.1]
 have z₅:IsZip h₅ z TI TO .ellipsis:=e₅.extBut _ _ ap.a2.symm (e₄.extBut _ _ c2.symm (e₃.extBut _ _ ap.a2.symm (e₂.extBut _ _ c1.symm z₁)))
 have k₅:∀c o,c≠z→c≠TO→c≠i1→c≠i2→s.heap.get? c=some o→h₅.get? c=some o:=fun c o d1 d2 d3 d4 e=>e₅.extBut _ _ d2 (e₄.extBut _ _ d4 (e₃.extBut _ _ d2 (e₂.extBut _ _ d3 (e₁.extBut _ _ d1 e))))
 have u1₅:S1 (k+1) h₅:=sh D1 (sh D1 (sh D1 u1 e₃ ap.o1) e₄ ap.n2) e₅ ap.o1
 have u2₅:S2 (k+1) h₅:=sh D2 u2 e₅ ap.o2
 have zl:z < h₅.objs.size:=Heap.lt_size z₅
 show wpAny _ _ (Builtin.SmallTypes.ownedTupleHandOut (.ref z) (.ref h₅.objs.size) >>= _) _ _ _;refine wpAny_bind ?_;unfold Builtin.SmallTypes.ownedTupleHandOut
 have z₆:IsZip (h₅.push { cls:=.type "tuple",data:=.seq #[x,y] }) z TI TO .ellipsis:=Heap.get?_push_of_some _ z₅
 refine wpAny_bind (wpAny_setField_rec z₆ (by simp) fun h₇ z₇ e₇=>?_)
 replace z₇:IsZip h₇ z TI TO (rawInt h₅.objs.size):=z₇
 refine wpAny_setField_rec z₇ (by simp) fun h₈ z₈ e₈=>?_
 replace z₈:IsZip h₈ z TI TO (rawInt h₅.objs.size):=z₈
 have up:∀c o,c≠z→h₅.get? c=some o→h₈.get? c=some o:=fun c o d1 e=>e₈.extBut _ _ d1 (e₇.extBut _ _ d1 (Heap.get?_push_of_some _ e))
 have p₈:IsPair h₈ h₅.objs.size x y:=e₈.extBut _ _ (Nat.ne_of_gt zl) (e₇.extBut _ _ (Nat.ne_of_gt zl) (Heap.get?_push_size _ rfl))
 have s8:h₈.objs.size=h₅.objs.size+1:=by rw [e₈.1,e₇.1,Heap.size_push]
 rw [sz]at z₈ p₈ s8
 refine wpAny_pure ⟨_,rfl,?_⟩
 show Q (.ref h₅.objs.size) _;rw [sz]
 exact hQ x y h₈ _ p1 p2 z₈ (up _ _ ap.a2 o₅) (D1.frame _ _ _ u1₅ fun d hd o e=>up d o (fun q=>ap.z1 (q▸hd)) e) (D2.frame _ _ _ u2₅ fun d hd o e=>up d o (fun q=>ap.z2 (q▸hd)) e) p₈ s8 fun c o d1 d2 d3 d4 e=>up c o d1 (k₅ c o d1 d2 d3 d4 e)
theorem vx{Q:Fin→Shared→Prop}(D1:Draws prog w A i1 f1 n1 P1 S1)(D2:Draws prog w A i2 f2 n2 P2 S2)(ap:ZAp z TI TO i1 i2 f1 f2)(qz:IsZip s.heap z TI TO .none)(qI:IsPair s.heap TI (.ref i1) (.ref i2))(qO:IsPair s.heap TO a b)
  (st1:S1 k s.heap) (st2:S2 k s.heap) (kk:k=n1∨(k < n1∧k=n2))
  (hE:∀h' e tk,(∀c o,c≠z→c≠TO→c≠i1→c≠i2→s.heap.get? c=some o→h'.get? c=some o)→(∃o,h'.get? e=some o∧o.cls=.type "StopIteration")→E (.ref e) { s with heap:=h',toks:=tk }) :
  wpAny (model prog w) A (Builtin.«zip.__next__» ⟨[.ref z],[]⟩) Q E s:=by
 have c1:i1≠z:=fun q=>ap.z1 (q▸ap.m1)
 have c2:i2≠z:=fun q=>ap.z2 (q▸ap.m2)
 have c3:TO≠i1:=fun q=>ap.o1 (q▸ap.m1)
 have c4:TO≠i2:=fun q=>ap.o2 (q▸ap.m2)
 show wpAny _ _ (field (.ref z) 2 >>= _) _ _ _;refine wpAny_bind (wpAny_field qz rfl (x:=.bool false) rfl ?_)
 show wpAny _ _ (field (.ref z) 3 >>= _) _ _ _;refine wpAny_bind (wpAny_field qz rfl (x:=.ref TI) rfl ?_)
 refine wpAny_bind (wpAny_seqItems qI rfl ?_)
 show wpAny _ _ (Builtin.SmallTypes.ownedTupleIsFree (.ref z) >>= _) _ _ _;refine wpAny_bind ?_;unfold Builtin.SmallTypes.ownedTupleIsFree
 refine wpAny_bind (wpAny_field qz rfl (x:=.none) rfl (wpAny_pure ?_));simp only [if_true]
 refine wpAny_bind (wpAny_rule ?_);refine wpAny_bind (wpAny_field qz rfl (x:=.ref TO) rfl ?_)
 refine wpAny_bind (wpAny_setField_rec qz (by simp) fun h₁ z₁ e₁=>?_)
 replace z₁:IsZip h₁ z TI TO .ellipsis:=z₁
 refine wpAny_bind ?_;simp only [List.zipIdx_cons,List.zipIdx_nil,List.forIn_cons,List.forIn_nil]
 refine wpAny_bind (wpAny_bind (wpAny_onRaise ?_));show wpAny _ _ (Builtin.SmallTypes.nextOf (.ref i1) >>= _) _ _ _
 rcases kk with kk | ⟨k1,kk⟩
 ·subst kk
  refine wpAny_bind (D1.done _ _ _ (sh D1 st1 e₁ ap.z1) fun h₂ e e₂ he=>?_)
  obtain⟨oe,hoe,hce⟩:=he
  have z₂:IsZip h₂ z TI TO .ellipsis:=e₂ _ _ c1.symm z₁
  have ez:e≠z:=fun q=>by subst q;rw [z₂]at hoe;cases hoe;simp at hce
  exact wpAny_setField_rec z₂ (by simp) fun h₃ _ e₃=>hE h₃ e _ (fun c o d1 _ d3 _ q=>e₃.extBut _ _ d1 (e₂ _ _ d3 (e₁.extBut _ _ d1 q))) ⟨oe,e₃.extBut _ _ ez hoe,hce⟩
 ·subst kk
  refine wpAny_bind (D1.item k _ _ _ k1 (sh D1 st1 e₁ ap.z1) fun x h₂ tk₂ p1 u1 e₂=>wpAny_pure ?_)
  have o₂:IsPair h₂ TO a b:=e₂.extBut _ _ c3 (e₁.extBut _ _ ap.a2 qO)
  refine wpAny_bind (wpAny_seqItems o₂ rfl ?_);refine wpAny_bind (wpAny_updateSeq_pair o₂ fun h₃ o₃ e₃=>?_)
  refine wpAny_bind (wpAny_letGo (wpAny_pure ?_));refine wpAny_bind (wpAny_bind (wpAny_onRaise ?_));show wpAny _ _ (Builtin.SmallTypes.nextOf (.ref i2) >>= _) _ _ _
  refine wpAny_bind (D2.done _ _ _ (sh D2 (sh D2 (sh D2 st2 e₁ ap.z2) e₂ ap.n1) e₃ ap.o2) fun h₄ e e₄ he=>?_)
  obtain⟨oe,hoe,hce⟩:=he
  have z₄:IsZip h₄ z TI TO .ellipsis:=e₄ _ _ c2.symm (e₃.extBut _ _ ap.a2.symm (e₂.extBut _ _ c1.symm z₁))
  have ez:e≠z:=fun q=>by subst q;rw [z₄]at hoe;cases hoe;simp at hce
  exact wpAny_setField_rec z₄ (by simp) fun h₅ _ e₅=>hE h₅ e _ (fun c o d1 d2 d3 d4 q=>e₅.extBut _ _ d1 (e₄ _ _ d4 (e₃.extBut _ _ d2 (e₂.extBut _ _ d3 (e₁.extBut _ _ d1 q))))) ⟨oe,e₅.extBut _ _ ez hoe,hce⟩
theorem nextZip_item{Q:Option Value→Shared→Prop}(D1:Draws prog w A.in1 i1 f1 n1 P1 S1)(D2:Draws prog w A.in1 i2 f2 n2 P2 S2)(ap:ZAp z TI TO i1 i2 f1 f2)(qz:IsZip s.heap z TI TO .none)(qI:IsPair s.heap TI (.ref i1) (.ref i2))(qO:IsPair s.heap TO a b)
  (st1:S1 k s.heap) (st2:S2 k s.heap) (k1:k < n1) (k2:k < n2)
  (hQ:∀x y h' tk,P1 k x→P2 k y→IsZip h' z TI TO (rawInt s.heap.objs.size)→IsPair h' TO x y→S1 (k+1) h'→S2 (k+1) h'→IsPair h' s.heap.objs.size x y→h'.objs.size=s.heap.objs.size+1→
   (∀c o,c≠z→c≠TO→c≠i1→c≠i2→s.heap.get? c=some o→h'.get? c=some o)→Q (some (.ref s.heap.objs.size)) { s with heap:=h',toks:=tk }):wpAny (model prog w) A (pyNext (.ref z)) Q E s:=by
 have ty:s.TypeIs (.ref z) "zip":=⟨_,qz,rfl⟩
 unfold pyNext
 exact wpAny_bind (wpAny_attempt (wpAny_callSpecial?_slot (name:=Str.ofString "__next__") ty F.slot_zip_next (wpAny_call_entry F.slot_zip_next ty F.entry_zip_next
   (tI D1 D2 ap qz qI qO st1 st2 k1 k2 fun x y h' tk b1 b2 b3 b4 b5 b6 b7 b8 b9=>wpAny_pure (hQ x y h' tk b1 b2 b3 b4 b5 b6 b7 b8 b9)) (F.args_zip_next_1 _))))
theorem nextZip_end{Q:Option Value→Shared→Prop}(D1:Draws prog w A.in1 i1 f1 n1 P1 S1)(D2:Draws prog w A.in1 i2 f2 n2 P2 S2)(ap:ZAp z TI TO i1 i2 f1 f2)(qz:IsZip s.heap z TI TO .none)(qI:IsPair s.heap TI (.ref i1) (.ref i2))(qO:IsPair s.heap TO a b)
  (st1:S1 k s.heap) (st2:S2 k s.heap) (kk:k=n1∨(k < n1∧k=n2))
  (hQ:∀h' tk,(∀c o,c≠z→c≠TO→c≠i1→c≠i2→s.heap.get? c=some o→h'.get? c=some o)→Q none { s with heap:=h',toks:=tk }):wpAny (model prog w) A (pyNext (.ref z)) Q E s:=by
 have ty:s.TypeIs (.ref z) "zip":=⟨_,qz,rfl⟩
 unfold pyNext
 refine wpAny_bind (wpAny_attempt (wpAny_callSpecial?_slot (name:=Str.ofString "__next__") ty F.slot_zip_next (wpAny_call_entry F.slot_zip_next ty F.entry_zip_next (vx D1 D2 ap qz qI qO st1 st2 kk fun h' e tk hk he=>?_) (F.args_zip_next_1 _))))
 obtain⟨oe,hoe,hce⟩:=he
 exact wpAny_bind (wpAny_isInstance (T:="StopIteration") (b:=true) ⟨oe,hoe,hce⟩ isSubtype_stop (wpAny_pure (hQ _ _ hk)))
end
def itRec(l:Bool)(a:Addr):Obj:={ cls:=.type (if l then "list_iterator" else "tuple_iterator"),data:=.fields #[.ref a,.int 0 0] }
def IsSeq(l:Bool)(h:Heap)(a:Addr)(xs:Array Value):Prop:=if l=true then h.IsList a xs else h.IsTuple a xs
theorem IsSeq.push{l:Bool}{h:Heap}{a:Addr}{xs:Array Value}(q:IsSeq l h a xs)(o:Obj):IsSeq l (h.push o) a xs:=by
 cases l
 ·exact Heap.IsTuple.push (show h.IsTuple a xs from q) o
 ·exact Heap.IsList.push (show h.IsList a xs from q) o
theorem gQ{prog:Program}{w:World}{A:Around}{E:Value→Shared→Prop}{s:Shared}{l:Bool}{a:Addr}{xs:Array Value}{Q:Value→Shared→Prop}(q:IsSeq l s.heap a xs)(h:Q (.ref s.heap.objs.size) { s with heap:=s.heap.push (itRec l a) }):wpAny (model prog w) A (pyIter (.ref a)) Q E s:=by
 cases l
 ·exact wpAny_pyIter_tuple (show s.heap.IsTuple a xs from q) h
 ·exact wpAny_pyIter_list (show s.heap.IsList a xs from q) h
abbrev Ac(h:Heap)(l1:Bool)(a1:Addr):Heap:=h.push (itRec l1 a1)
abbrev Ad(h:Heap)(l1 l2:Bool)(a1 a2:Addr):Heap:=(Ac h l1 a1).push (itRec l2 a2)
abbrev Ae(h:Heap)(l1 l2:Bool)(a1 a2:Addr):Heap:=(Ad h l1 l2 a1 a2).push { cls:=.type "tuple",data:=.seq #[.ref h.objs.size,.ref (Ac h l1 a1).objs.size] }
abbrev Af(h:Heap)(l1 l2:Bool)(a1 a2:Addr):Heap:=(Ae h l1 l2 a1 a2).push { cls:=.type "tuple",data:=.seq #[.none,.none] }
abbrev yN(h:Heap)(l1 l2:Bool)(a1 a2:Addr):Heap:=(Af h l1 l2 a1 a2).push { cls:=.type "zip",data:=.fields #[.none,.bool false,.bool false,.ref (Ad h l1 l2 a1 a2).objs.size,.ref (Ae h l1 l2 a1 a2).objs.size] }
theorem sG(l1 l2:Bool)(a1 a2:Addr)(xs ys:Array Value):
  Meets (Builtin.«zip.__new__» ⟨[.type "zip",.ref a1,.ref a2],[]⟩) (fun _ R s=>IsSeq l1 s.heap a1 xs∧IsSeq l2 s.heap a2 ys∧R (.ok (.ret (.ref (Af s.heap l1 l2 a1 a2).objs.size))) { s with heap:=yN s.heap l1 l2 a1 a2 }):=
 .of_wp fun prog w A R s h=>by
  obtain⟨hp,g,d,tk,os⟩:=s;obtain⟨q1,q2,h⟩:=h
  have hsub:=sub_zip
  have u1:IsSeq l1 (Shared.heap ⟨hp,g,d,tk,os⟩) a1 xs:=q1
  have u2:IsSeq l2 (Shared.heap ⟨hp.push (itRec l1 a1),g,d,tk,os⟩) a2 ys:=IsSeq.push q2 _
  wp_walk using gQ u1,gQ u2
  exact⟨_,rfl,h⟩
section
variable {prog:Program} {w:World} {A:Around} {E:Value→Shared→Prop} {s:Shared}
theorem call_zip{l1 l2:Bool}{a1 a2:Addr}{xs ys:Array Value}{Q:Value→Shared→Prop}(q1:IsSeq l1 s.heap a1 xs)(q2:IsSeq l2 s.heap a2 ys)
  (h:∀h',IsZip h' (s.heap.objs.size+4) (s.heap.objs.size+2) (s.heap.objs.size+3) .none→IsPair h' (s.heap.objs.size+2) (.ref s.heap.objs.size) (.ref (s.heap.objs.size+1))→
   IsPair h' (s.heap.objs.size+3) .none .none→h'.get? s.heap.objs.size=some (itRec l1 a1)→h'.get? (s.heap.objs.size+1)=some (itRec l2 a2)→h'.objs.size=s.heap.objs.size+5→
   (∀c o,s.heap.get? c=some o→h'.get? c=some o)→Q (.ref (s.heap.objs.size+4)) { s with heap:=h' }):wpAny (model prog w) A (call (.type "zip") [.ref a1,.ref a2]) Q E s:=by
 refine callType_new F.called_zip (by decide) (F.typeCall_zip_2 _ _) (F.newCall_zip_2 _ _) (fun obj=>F.args_object_init_3 obj _ _) F.entry_zip_new (sG l1 l2 a1 a2 xs ys) ⟨q1,q2,?_⟩
 have e1:(Ac s.heap l1 a1).objs.size=s.heap.objs.size+1:=Heap.size_push ..
 have e2:(Ad s.heap l1 l2 a1 a2).objs.size=s.heap.objs.size+2:=by rw [Heap.size_push,e1]
 have e3:(Ae s.heap l1 l2 a1 a2).objs.size=s.heap.objs.size+3:=by rw [Heap.size_push,e2]
 have e4:(Af s.heap l1 l2 a1 a2).objs.size=s.heap.objs.size+4:=by rw [Heap.size_push,e3]
 have e5:(yN s.heap l1 l2 a1 a2).objs.size=s.heap.objs.size+5:=by rw [Heap.size_push,e4]
 have g5:(yN s.heap l1 l2 a1 a2).get? (Af s.heap l1 l2 a1 a2).objs.size=some _:=Heap.get?_push_size _ rfl
 have g4:(yN s.heap l1 l2 a1 a2).get? (Ae s.heap l1 l2 a1 a2).objs.size=some _:=Heap.get?_push_of_some _ (Heap.get?_push_size _ rfl)
 have g3:(yN s.heap l1 l2 a1 a2).get? (Ad s.heap l1 l2 a1 a2).objs.size=some _:=Heap.get?_push_of_some _ (Heap.get?_push_of_some _ (Heap.get?_push_size _ rfl))
 have g2:(yN s.heap l1 l2 a1 a2).get? (Ac s.heap l1 a1).objs.size=some (itRec l2 a2):=Heap.get?_push_of_some _ (Heap.get?_push_of_some _ (Heap.get?_push_of_some _ (Heap.get?_push_size _ rfl)))
 have g1:(yN s.heap l1 l2 a1 a2).get? s.heap.objs.size=some (itRec l1 a1):=Heap.get?_push_of_some _ (Heap.get?_push_of_some _ (Heap.get?_push_of_some _ (Heap.get?_push_of_some _ (Heap.get?_push_size _ rfl))))
 show _∧_
 rw [e2,e3,e4]at g5
 rw [e1,e2]at g3
 rw [e3]at g4
 rw [e1]at g2
 rw [e4]
 exact⟨⟨_,g5,rfl⟩,h _ g5 g3 g4 g1 g2 e5 fun c o q=>Heap.get?_push_of_some _ (Heap.get?_push_of_some _ (Heap.get?_push_of_some _ (Heap.get?_push_of_some _ (Heap.get?_push_of_some _ q))))⟩
end
end L3
namespace L2
open PySem PySem.Spec PyProof.Rows
def jx(K:PySem.W.Frag)(l:Bool)(H:Hp)(a:Addr)(xs:List V):Prop:=if l=true then aL K H a xs else cq K H a xs
def iR(l:Bool)(h:Heap)(it a:Addr)(i:Nat):Prop:=if l=true then h.IsListIter it a i else h.IsTupleIter it a i
theorem iR.at{l:Bool}{h h':Heap}{it a:Addr}{i:Nat}(x:iR l h it a i)(e:∀o,h.get? it=some o→h'.get? it=some o):iR l h' it a i:=by
 cases l
 ·exact Heap.IsTupleIter.at (show h.IsTupleIter it a i from x) e
 ·exact Heap.IsListIter.at (show h.IsListIter it a i from x) e
theorem iR.rec{l:Bool}{h:Heap}{it a:Addr}(e:h.get? it=some (L3.itRec l a)):iR l h it a 0:=by
 cases l
 ·exact⟨_,e,rfl,rfl⟩
 ·exact⟨_,e,rfl,rfl⟩
theorem iR.obj{l:Bool}{h:Heap}{it a:Addr}{i:Nat}(x:iR l h it a i):∃o,h.get? it=some o∧∀v,o.data≠.cell v:=by
 cases l
 ·obtain⟨o,e,_,d⟩:=(show h.IsTupleIter it a i from x)
  exact⟨o,e,fun v z=>by rw [d]at z;cases z⟩
 ·obtain⟨o,e,_,d⟩:=(show h.IsListIter it a i from x)
  exact⟨o,e,fun v z=>by rw [d]at z;cases z⟩
theorem ff{P:Program}{w:World}{A:Around}(hh:A.handled=none)(l:Bool)(it a:Addr)(hne:a≠it)(its:Array Value):
  Draws P w A it [it,a] its.size (fun i v=>its[i]?=some v) (fun i h=>iR l h it a i∧L3.IsSeq l h a its):=by
 cases l
 ·exact L3.draws_tuple hh it a hne its
 ·exact Draws.list hh it a hne its
theorem av.seqB{X:Cx}{pins:List (Addr×Obj)}{σ:St}{H:Hp}{s:Shared}{l:Bool}{a:Addr}{xs:List V}(I:av X pins σ H s)(h:jx X.K l H a xs):∃its:List Value,aA xs its∧L3.IsSeq l s.heap a its.toArray∧xs.length≤sizeLine:=by
 cases l
 ·obtain⟨its,r,p,z⟩:=I.tuple (show cq X.K H a xs from h)
  exact⟨its,r,p,z⟩
 ·obtain⟨its,r,p,z⟩:=I.list (show aL X.K H a xs from h)
  exact⟨its,r,p.isList,z⟩
theorem av.seqB_inj{X:Cx}{pins:List (Addr×Obj)}{σ:St}{H:Hp}{s:Shared}{l:Bool}{a:Addr}{xs ys:List V}(I:av X pins σ H s)(h:jx X.K l H a xs)(h':jx X.K l H a ys):xs=ys:=by
 cases l
 ·exact I.tuple_inj (show cq X.K H a xs from h) h'
 ·exact I.list_inj (show aL X.K H a xs from h) h'
theorem av.seqB_ne{X:Cx}{pins:List (Addr×Obj)}{σ:St}{H:Hp}{s:Shared}{l:Bool}{a b:Addr}{xs:List V}(I:av X pins σ H s)(h:jx X.K l H a xs)(f:jF X pins H b):a≠b:=by
 obtain⟨f0,_,_,f3,_,_⟩:=f
 have tr:∀{o:HO},Rd H a o→a≠b:=fun {o} r=>by
  rcases r with r | ⟨_,r⟩
  ·exact aj r f0
  ·exact aj r f0
 have kb:∀{o:Obj},X.K.lookup a=some o→a≠b:=fun {o} hk=>by
  have hb:=I.ok.mod.kin a o hk
  rcases f3 with z | z
  ·exact fun q=>I.ok.noex a o hb (q▸z)
  ·exact Nat.ne_of_lt (Nat.lt_of_lt_of_le (Heap.lt_size hb) (Nat.le_trans I.ok.bsz z))
 cases l
 ·rcases(show cq X.K H a xs from h)with h | ⟨o,_,_,hk,_⟩
  ·exact tr h
  ·exact kb hk
 ·rcases(show aL X.K H a xs from h)with h | ⟨o,_,_,hk,_⟩
  ·exact tr h
  ·exact kb hk
def Am(K:PySem.W.Frag)(l1 l2:Bool)(a1 a2:Addr):It:=
 ⟨fun i H=>∃xs ys x y,jx K l1 H a1 xs∧jx K l2 H a2 ys∧xs[i]?=some x∧ys[i]?=some y,
  fun i H v H'=>∃p x y,v=.ref p∧H p=none∧H'=upd H p (.tup [x,y])∧(∀xs,jx K l1 H a1 xs→xs[i]?=some x)∧∀ys,jx K l2 H a2 ys→ys[i]?=some y,
  fun i H=>∃xs ys,jx K l1 H a1 xs∧jx K l2 H a2 ys∧(i=xs.length∨(i < xs.length∧i=ys.length))⟩
theorem vv{P:Program}{w:World}{K:PySem.W.Frag}{elts:List Expr}{kt:Nat}{pt:Pos}(l1 l2:Bool)(a1 a2 z TI TO i1 i2:Addr)(nd:[z,TI,TO,i1,i2].Nodup):
  lH P w K (.Tuple elts kt pt) (Am K l1 l2 a1 a2) [z,TI,TO,i1,i2] z
   (fun i h=>IsZip h z TI TO .none∧IsPair h TI (.ref i1) (.ref i2)∧(∃a b,IsPair h TO a b)∧iR l1 h i1 a1 i∧iR l2 h i2 a2 i):=by
 have nd':(z≠TI∧z≠TO∧z≠i1∧z≠i2)∧(TI≠TO∧TI≠i1∧TI≠i2)∧(TO≠i1∧TO≠i2)∧i1≠i2:=by
  simpa [not_or]using nd
 obtain⟨⟨d1,d2,d3,d4⟩,⟨d5,d6,d7⟩,⟨d8,d9⟩,d10⟩:=nd'
 have zap:∀{X:Cx} {pins:List (Addr×Obj)} {σ:St} {H:Hp} {s:Shared} {xs ys:List V},av X pins σ H s→(∀b∈[z,TI,TO,i1,i2],jF X pins H b)→jx X.K l1 H a1 xs→jx X.K l2 H a2 ys→L3.ZAp z TI TO i1 i2 [i1,a1] [i2,a2]:=fun {X pins σ H s xs ys} I hf q1 q2=>by
  have n1:∀b∈[z,TI,TO,i1,i2],a1≠b:=fun b hb=>I.seqB_ne q1 (hf b hb)
  have n2:∀b∈[z,TI,TO,i1,i2],a2≠b:=fun b hb=>I.seqB_ne q2 (hf b hb)
  refine⟨d1.symm,d2.symm,d5,by simp,by simp,?_,?_,?_,?_,?_,?_,?_,?_⟩
  ·simp only [List.mem_cons,List.not_mem_nil,or_false,not_or];exact⟨d3,(n1 z (by simp)).symm⟩
  ·simp only [List.mem_cons,List.not_mem_nil,or_false,not_or];exact⟨d4,(n2 z (by simp)).symm⟩
  ·simp only [List.mem_cons,List.not_mem_nil,or_false,not_or];exact⟨d6,(n1 TI (by simp)).symm⟩
  ·simp only [List.mem_cons,List.not_mem_nil,or_false,not_or];exact⟨d7,(n2 TI (by simp)).symm⟩
  ·simp only [List.mem_cons,List.not_mem_nil,or_false,not_or];exact⟨d8,(n1 TO (by simp)).symm⟩
  ·simp only [List.mem_cons,List.not_mem_nil,or_false,not_or];exact⟨d9,(n2 TO (by simp)).symm⟩
  ·simp only [List.mem_cons,List.not_mem_nil,or_false,not_or];exact⟨d10,(n2 i1 (by simp)).symm⟩
  ·simp only [List.mem_cons,List.not_mem_nil,or_false,not_or];exact⟨d10.symm,(n1 i2 (by simp)).symm⟩
 refine⟨by simp,?_,?_,?_,?_,?_⟩
 ·rintro i h ⟨qz,qI,⟨a,b,qO⟩,u1,u2⟩ c hc
  have hc':c=z∨c=TI∨c=TO∨c=i1∨c=i2:=by simpa using hc
  rcases hc' with e | e | e | e | e
  ·subst e;exact⟨_,qz,fun v q=>by cases q⟩
  ·subst e;exact⟨_,qI,fun v q=>by cases q⟩
  ·subst e;exact⟨_,qO,fun v q=>by cases q⟩
  ·subst e;exact u1.obj
  ·subst e;exact u2.obj
 ·rintro i h h' ⟨qz,qI,⟨a,b,qO⟩,u1,u2⟩ k
  exact⟨k z (by simp) _ qz,k TI (by simp) _ qI,⟨a,b,k TO (by simp) _ qO⟩,u1.at fun o e=>k i1 (by simp) o e,u2.at fun o e=>k i2 (by simp) o e⟩
 ·rintro X hP hw hK hc i pins s σ H E I hf ⟨qz,qI,⟨a,b,qO⟩,u1,u2⟩ ⟨xs,ys,x,y,q1,q2,hx,hy⟩
  subst hP hw hK
  have hh:X.A.in1.handled=none:=I.ok.hd hc
  obtain⟨its1,r1,p1,z1⟩:=I.seqB q1
  obtain⟨its2,r2,p2,z2⟩:=I.seqB q2
  have D1:=ff (P:=X.prog) (w:=X.w) hh l1 i1 a1 (I.seqB_ne q1 (hf i1 (by simp))) its1.toArray
  have D2:=ff (P:=X.prog) (w:=X.w) hh l2 i2 a2 (I.seqB_ne q2 (hf i2 (by simp))) its2.toArray
  have lx:i < its1.toArray.size:=by
   have:=(List.getElem?_eq_some_iff.mp hx).1
   rw [List.size_toArray,←r1.length];exact this
  have ly:i < its2.toArray.size:=by
   have:=(List.getElem?_eq_some_iff.mp hy).1
   rw [List.size_toArray,←r2.length];exact this
  refine L3.nextZip_item D1 D2 (zap I hf q1 q2) qz qI qO ⟨u1,p1⟩ ⟨u2,p2⟩ lx ly fun v1 v2 h' tk e1 e2 z' o' s1' s2' pr sz kk=>?_
  obtain⟨w1,g1,rx⟩:=r1.get hx
  obtain⟨w2,g2,ry⟩:=r2.get hy
  have ev1:v1=w1:=by
   have:its1[i]?=some v1:=by simpa using e1
   rw [g1]at this;exact(Option.some.inj this).symm
  have ev2:v2=w2:=by
   have:its2[i]?=some v2:=by simpa using e2
   rw [g2]at this;exact(Option.some.inj this).symm
  subst ev1 ev2
  refine⟨_,rfl,wpAny_letOwnedTupleGo_zip (s:={ s with heap:=h',toks:=tk }) z' fun h2 z2' sb=>?_⟩
  have fz:s.heap.objs.size≠z:=Nat.ne_of_gt (Heap.lt_size qz)
  have Hn:H s.heap.objs.size=none:=I.hok.fresh (Nat.le_refl _)
  have kp:∀c o,c∉[z,TI,TO,i1,i2]→s.heap.get? c=some o→h2.get? c=some o:=fun c o hc e=>by
   have hc':c≠z∧c≠TI∧c≠TO∧c≠i1∧c≠i2:=by simpa [not_or]using hc
   exact(sb.2 c hc'.1).trans (kk c o hc'.1 hc'.2.2.1 hc'.2.2.2.1 hc'.2.2.2.2 e)
  have nf:∀{c:Addr} {u:HO},H c=some u→c∉[z,TI,TO,i1,i2]:=fun {c u} e hc=>by
   have:=(hf c hc).1
   rw [e]at this;cases this
  have pr2:h2.get? s.heap.objs.size=some { cls:=.type "tuple",data:=.seq #[v1,v2] }:=(sb.2 _ fz).trans pr
  have I2:av X pins σ (upd H s.heap.objs.size (.tup [x,y])) { s with heap:=h2,toks:=tk }:=by
   refine I.step (g':=s.gens) (d':=s.drawn) (ch:=[z,TI,TO,i1,i2]) (fun c hc=>⟨(hf c hc).2.2.2.1,(hf c hc).2.1,(hf c hc).2.2.2.2.1,(hf c hc).2.2.2.2.2⟩) (fun c o _ _ hc e _=>kp c o hc e) (fun c o _ _ hc e _=>⟨o.slots,kp c o hc e⟩)
    (fun c o _ e n=>by rw [ai (Nat.ne_of_lt (Heap.lt_size e))];exact n) (fun c o hc e=>⟨o,kp c o hc e⟩) (fun c us e=>by rw [ai (aj e Hn)];exact e) (fun c o u e=>by rw [ai (aj e Hn)];exact e)
    (fun c ps e=>⟨#[],by rw [ai (aj e Hn),e];simp⟩) (fun m hm=>?_) (fun c u e=>?_) I.bare
   ·obtain⟨o,es,ep,ho,r⟩:=hm
    exact⟨o,es,ep,kp _ o (fun q=>(hf _ q).2.1 rfl) ho,r⟩
   ·by_cases hcs:c=s.heap.objs.size
    ·subst hcs
     rw [ae]at e
     cases e
     exact⟨by rw [sizeLine_eq];show 2≤16777216;omega,[v1,v2],.cons rx (.cons ry .nil),_,pr2,rfl,_,rfl⟩
    ·rw [ai hcs]at e
     refine(I.hok c u e).stay (fun d o hd q=>kp d o ?_ q) (fun d q=>by rw [ai (aj q Hn)];exact q) fun d us q=>by rw [ai (aj q Hn)];exact q
     rcases hd with hd | hd
     ·rw [hd];exact nf e
     ·exact nf hd
  refine⟨.ref s.heap.objs.size,_,I2,rfl,⟨_,x,y,rfl,Hn,rfl,fun us hu=>by rw [I.seqB_inj hu q1];exact hx,fun us hu=>by rw [I.seqB_inj hu q2];exact hy⟩,⟨z2',?_,⟨v1,v2,?_⟩,?_,?_⟩,fun c hc=>?_⟩
  ·exact(sb.2 _ d1.symm).trans (kk TI _ d1.symm d5 d6 d7 qI)
  ·exact(sb.2 _ d2.symm).trans o'
  ·exact s1'.1.at fun o e=>(sb.2 _ d3.symm).trans e
  ·exact s2'.1.at fun o e=>(sb.2 _ d4.symm).trans e
  ·show upd H s.heap.objs.size (.tup [x,y]) c=none
   have lt:c < s.heap.objs.size:=by
    have hc':c=z∨c=TI∨c=TO∨c=i1∨c=i2:=by simpa using hc
    rcases hc' with e | e | e | e | e
    ·subst e;exact Heap.lt_size qz
    ·subst e;exact Heap.lt_size qI
    ·subst e;exact Heap.lt_size qO
    ·subst e;obtain⟨o,e,_⟩:=u1.obj;exact Heap.lt_size e
    ·subst e;obtain⟨o,e,_⟩:=u2.obj;exact Heap.lt_size e
   rw [ai (Nat.ne_of_lt lt)]
   exact(hf c hc).1
 ·rintro X hP hw hK hc i pins s σ H E I hf ⟨qz,qI,⟨a,b,qO⟩,u1,u2⟩ ⟨xs,ys,q1,q2,hend⟩
  subst hP hw hK
  have hh:X.A.in1.handled=none:=I.ok.hd hc
  obtain⟨its1,r1,p1,z1⟩:=I.seqB q1
  obtain⟨its2,r2,p2,z2⟩:=I.seqB q2
  have D1:=ff (P:=X.prog) (w:=X.w) hh l1 i1 a1 (I.seqB_ne q1 (hf i1 (by simp))) its1.toArray
  have D2:=ff (P:=X.prog) (w:=X.w) hh l2 i2 a2 (I.seqB_ne q2 (hf i2 (by simp))) its2.toArray
  have kk:i=its1.toArray.size∨(i < its1.toArray.size∧i=its2.toArray.size):=by
   rw [List.size_toArray,List.size_toArray,←r1.length,←r2.length];exact hend
  refine L3.nextZip_end D1 D2 (zap I hf q1 q2) qz qI qO ⟨u1,p1⟩ ⟨u2,p2⟩ kk fun h' tk k=>⟨rfl,?_⟩
  have nf:∀{c:Addr} {u:HO},H c=some u→c∉[z,TI,TO,i1,i2]:=fun {c u} e hc=>by
   have:=(hf c hc).1
   rw [e]at this;cases this
  have kp:∀c o,c∉[z,TI,TO,i1,i2]→s.heap.get? c=some o→h'.get? c=some o:=fun c o hc e=>by
   have hc':c≠z∧c≠TI∧c≠TO∧c≠i1∧c≠i2:=by simpa [not_or]using hc
   exact k c o hc'.1 hc'.2.2.1 hc'.2.2.2.1 hc'.2.2.2.2 e
  refine I.step (g':=s.gens) (d':=s.drawn) (ch:=[z,TI,TO,i1,i2]) (fun c hc=>⟨(hf c hc).2.2.2.1,(hf c hc).2.1,(hf c hc).2.2.2.2.1,(hf c hc).2.2.2.2.2⟩) (fun c o _ _ hc e _=>kp c o hc e) (fun c o _ _ hc e _=>⟨o.slots,kp c o hc e⟩)
    (fun c o _ e n=>n) (fun c o hc e=>⟨o,kp c o hc e⟩) (fun c us e=>e) (fun c o u e=>e) (fun c ps e=>⟨#[],by rw [e];simp⟩) (fun m hm=>?_) (fun c u e=>?_) I.bare
  ·obtain⟨o,es,ep,ho,r⟩:=hm
   exact⟨o,es,ep,kp _ o (fun q=>(hf _ q).2.1 rfl) ho,r⟩
  ·refine(I.hok c u e).stay (fun d o hd q=>kp d o ?_ q) (fun d q=>q) fun d us q=>q
   rcases hd with hd | hd
   ·rw [hd];exact nf e
   ·exact nf hd
 ·rintro A i s Q E ⟨qz,_⟩ h
  exact wpAny_pyIter_zip qz h
def jJ(K:PySem.W.Frag)(ta:TA):TI:=fun σ H R=>ta σ H fun vs H1=>∃l1 l2 a1 a2,vs=[.ref a1,.ref a2]∧(∃xs,jx K l1 H1 a1 xs)∧(∃ys,jx K l2 H1 a2 ys)∧R (Am K l1 l2 a1 a2) H1
theorem uU{X:Cx}{elts:List Expr}{kt:Nat}{pt:Pos}{a b:Expr}{ta:TA}{p pos:Pos}(hg:Gl X "zip")(hm:X.mg "zip"=none)(ha:PA X [a,b] ta)(hs:starEach [a,b] X.env=[(false,eval a X.env),(false,eval b X.env)]:=by rfl)(hs2:starEach [b] X.env=[(false,eval b X.env)]:=by rfl):
  PI X (.Tuple elts kt pt) (.Call (.Name "zip" p) [a,b] [] pos) (jJ X.K ta):=by
 intro pins s σ H R I h
 refine Call_ (dS I hg hm boot_zip (PyProof.Rows.callWith_type1 (cj (ha pos pins s σ H _ I h) fun us s1 ⟨vs,H1,I1,r1,q1⟩=>?_) (by rw [hs,hs2]) (by rw [hs2];rfl)))
 obtain⟨l1,l2,a1,a2,e,⟨xs,q1⟩,⟨ys,q2⟩,q⟩:=q1
 subst e
 obtain⟨u,u',rfl,e1,e2⟩:=rO r1
 cases e1
 cases e2
 obtain⟨its1,r1,p1,z1⟩:=I1.seqB q1
 obtain⟨its2,r2,p2,z2⟩:=I1.seqB q2
 refine L3.call_zip p1 p2 fun h' qz qI qO g1 g2 sz kp=>wpAny_pyIter_zip qz ?_
 refine⟨s1.heap.objs.size+4,[s1.heap.objs.size+4,s1.heap.objs.size+2,s1.heap.objs.size+3,s1.heap.objs.size,s1.heap.objs.size+1],_,_,H1,rfl,I1.kept (h':=h') (t':=s1.toks) kp,
  vv l1 l2 a1 a2 _ _ _ _ _ (by simp),⟨qz,qI,⟨_,_,qO⟩,iR.rec g1,iR.rec g2⟩,fun c hc=>?_,q⟩
 have hc':s1.heap.objs.size≤c:=by
  have:c=s1.heap.objs.size+4∨c=s1.heap.objs.size+2∨c=s1.heap.objs.size+3∨c=s1.heap.objs.size∨c=s1.heap.objs.size+1:=by simpa using hc
  rcases this with e | e | e | e | e<;>(rw [e];first | exact Nat.le_refl _ | exact Nat.le_add_right _ _)
 exact I1.fpOk hc' (I1.hok.fresh hc')
end L2
namespace L2
open PySem PySem.Spec PyProof.Rows
def Ite(K:PySem.W.Frag)(a:Addr):It:=
 ⟨fun i H=>∃xs x,aL K H a xs∧xs[i]?=some x,
  fun i H v H'=>∃p x,v=.ref p∧H p=none∧H'=upd H p (.tup [.int i,x])∧∀xs,aL K H a xs→xs[i]?=some x,
  fun i H=>∃xs,aL K H a xs∧i=xs.length⟩
def gN(K:PySem.W.Frag)(ta:TA):TI:=fun σ H R=>ta σ H fun vs H1=>∃a,vs=[.ref a]∧(∃xs,aL K H1 a xs)∧R (Ite K a) H1
end L2
namespace L2
open PySem PySem.W PySem.Spec PySem.Calls PyProof.Rows
def GB:Nat:=1048576
theorem i3:∀{ns:List Int},WData.weightAll (ns.map WData.int)≤2 ^ 20→∀x∈ns,x.natAbs < 2 ^ GB
 | [],_,_,h=>nomatch h
 | n::ns,hw,x,h=>by
  have e:WData.weightAll ((n::ns).map WData.int)=(if n == 0 then 0 else n.natAbs.log2+1)+1+WData.weightAll (ns.map WData.int):=by
   simp only [List.map_cons,WData.weightAll,WData.weight]
  rw [e]at hw
  rcases List.mem_cons.mp h with rfl | h
  ·by_cases h0:x=0
   ·subst h0;exact Nat.two_pow_pos _
   ·have hb:(x == 0)=false:=by simpa using h0
    rw [hb]at hw
    have hl:x.natAbs.log2 < GB:=by
     have:(2:Nat) ^ 20=GB:=by decide
     rw [←this]
     simp only [Bool.false_eq_true,if_false]at hw
     omega
    exact(Nat.log2_lt (by omega)).mp hl
  ·exact i3 (ns:=ns) (by omega) x h
theorem tw{ns:List Int}(h:WData.layableAll [WData.list (ns.map WData.int)]=true):∀x∈ns,x.natAbs < 2 ^ GB:=by
 have h1:=(layableW_iff.mp (layableW_arg h _ List.mem_cons_self)).2.2
 exact i3 (by simpa only [WData.weight]using h1)
theorem walk_ofB{l:PySem.W.OpenLaw}{n k:Nat}{q:Program}{loose:List Str}{XP:(Str→Option Value)→Heap→Prop}{YP:World→Heap→Prop}{d:DefRec}{K:Params→PySem.W.Frag}{CX:World→pJ}{sp:World→Sp}{x:Str}
  (hn:l.most=some n) (hn2:n≤sizeLine) (hdf:d.params.defaults=[]) (hr:dz k callerA)
  (hY:∀(w:World) (h:Heap),YP w h→(K w.params).In h)
  (F:∀(w:World) (mg:Str→Option Value) (fa:Addr) (h:Heap),(K w.params).In h→h.Ns mainGlobals mg→mg d.name=some (.ref fa)→
   ∃fd:FuncData,(∀(s:Shared) (u:Value),BindsTo s fd ⟨[u],[]⟩ [(x,u)])∧∀base:Heap,(K w.params).In base→base.Ns mainGlobals mg→bj l.prog w (K w.params) mg base (CX w) k fa fd [x] (sp w))
  (hsp:∀(w:World) (H:Hp) (a:Addr) (ns:List Int),ns.length≤n→(∀x∈ns,x.natAbs < 2 ^ GB)→vF H→aL (K w.params) H a (ns.map V.int)→sp w [.ref a] H (fun v _=>v=.bl true) fun _ _ _=>False)
  (hCX:∀(w:World) (H:Hp) (s:Shared) (e:Value) (s':Shared),CX w [] H s (fun _ _ _=>False) e s'→False) :
  PySem.W.WalkO q loose XP YP l.row.toRowW d [] (fun f vs=>PySem.call f vs):=by
 intro w s₀ s₁ mg mb G Y fa o pm cd doc dV kV ho hd hcd hD hmg hg args vals as hpre hlay hrd hwl hlo
 obtain rfl:dV=.none:=Dflts.none hD hdf
 obtain rfl:kV=.none:=Dflts.noKw hD
 obtain⟨a,vs,ns,rfl,rfl,hobj,hints,hlen⟩:=Att.script_of hn hpre hwl
 have KX:=hY w _ Y
 obtain⟨fd,hb,hF⟩:=F w mg fa _ KX G.T.g hmg
 refine enter_call (codeAny_mono (oM KX G.T.g G.T.b G.T.builtins G.T.nolimit hg hobj hints (Nat.le_trans hlen hn2) hr hF hb (fun H hO hS=>hsp w H a ns hlen (tw hlay) hO hS) fun H e s'=>hCX w H s₁ e s') fun r s' hq=>?_)
 obtain⟨rfl,h2,h3,h4⟩:=hq
 exact⟨.inl ⟨.bool true,.bool true,[],rfl,fun _=>rfl,.bool true,Att.post_true l _,fun _=>⟨List.Pairwise.nil,fun _ hm=>(nomatch hm)⟩⟩,h2,h3,h4⟩
structure ck(K:PySem.W.Frag)(x:Str)(st:Stmt)(f:Addr)(fd:FuncData):Prop where
 ns:PySem.W.nsIn K mainGlobals x=some (some (.ref f))
 fn:f9 K x x st f fd
theorem defAt_mk{K:PySem.W.Frag}{x:Str}{st:Stmt}{f:Addr}{oc:Value}{od an:Option Addr}{osl:Array (Option Value)}{kV doc pm cdv ct:Value}(a:PySem.W.nsIn K mainGlobals x=some (some (.ref f)))
  (l:K.lookup f=some ⟨oc,od,.func (PySem.W.fnOf x x (dI st) (dv st) (ar st) .none kV doc pm an cdv ct),osl⟩) (c:PySem.W.codeIn K cdv x=true) (k:PySem.W.keepIn K (.ref f)=true):∃f fd,ck K x st f fd:=
 ⟨f,_,a,mW l c k⟩
theorem ck.df{P:Program}{w:World}{K:PySem.W.Frag}{mg:Str→Option Value}{base h:Heap}{x:Str}{st:Stmt}{f:Addr}{fd:FuncData}{k:Nat}{ps:List Str}{sp:Sp}(A:ck K x st f fd)(X:K.In h)(G:h.Ns mainGlobals mg)
  (ok:bj P w K mg base fK k f fd ps sp) (b:eG K fd ps []):eC P w K mg base x k ps sp:=⟨f,fd,ok,PySem.W.mg_of X G A.ns,A.fn.kp,b⟩
end L2
namespace L2
open PySem PySem.Spec PyProof.Rows
def tS(g:TG)(tb:TS)(D:gD)(σ:St)(J:It)(H:Hp):Prop:=∃W:Nat→Nat→St→Hp→Prop,(∃m,W 0 m σ H)∧∀i m σ H,W i m σ H→
 (J.stop i H∧D.nx σ H)∨(J.go i H∧∃N:St→Hp→Prop,(∀σ' H',N σ' H'→∃m',m' < m∧W (i+1) m' σ' H')∧∀x H',J.yld i H x H'→g x σ H' fun σ2 H2=>tb { D with nx:=N,ct:=N,bk:=D.nx } σ2 H2)
theorem dw(wi:TI)(g:TG)(tb:TS)(D:gD)(σ:St)(H:Hp):zV wi g tb D σ H=wi σ H (fun J H1=>tS g tb D σ J H1):=rfl
def nZ(n:Nat)(js:List Nat)(g:TG)(tt:TT)(te:TE)(σ:St)(F:List V→Hp→Prop)(J:It)(H:Hp):Prop:=qQ J n js g tt te σ H F
theorem c6(n:Nat)(js:List Nat)(wi:TI)(g:TG)(tt:TT)(te:TE)(σ:St)(H:Hp)(Q:VK):
  vn n js wi g tt te σ H Q=wi σ H (fun J H1=>nZ n js g tt te σ (fun ys H2=>∀p,H2 p=none→Q (.ref p) (upd H2 p (.lst ys))) J H1):=rfl
section
variable {g:TG} {tb:TS} {D:gD} {σ:St} {H:Hp} {K:PySem.W.Frag} {a:Addr} {xs:List V}
theorem el(Pv:Nat→St→Hp→Prop)(h0:Pv 0 σ H)(hl:∀i σ H,i≤xs.length→Pv i σ H→aL K H a xs)
  (hs:∀i x σ H,xs[i]?=some x→Pv i σ H→g x σ H fun σ2 H2=>tb { D with nx:=Pv (i+1),ct:=Pv (i+1),bk:=D.nx } σ2 H2) (hd:∀σ H,Pv xs.length σ H→D.nx σ H):tS g tb D σ (vy K a) H:=ua Pv h0 hl hs hd
theorem gf{lo:Int}{n:Nat}(Pv:Nat→St→Hp→Prop)(h0:Pv 0 σ H)
  (hs:∀i σ H,i < n→Pv i σ H→g (.int (lo+i)) σ H fun σ2 H2=>tb { D with nx:=Pv (i+1),ct:=Pv (i+1),bk:=D.nx } σ2 H2) (hd:∀σ H,Pv n σ H→D.nx σ H):tS g tb D σ (rQ lo n) H:=sj Pv h0 hs hd
end
section
variable {n:Nat} {js:List Nat} {g:TG} {tt:TT} {te:TE} {σ:St} {H:Hp} {F:List V→Hp→Prop} {K:PySem.W.Frag} {a:Addr} {xs:List V}
theorem jz{lo:Int}{k:Nat}(Pv:Nat→List V→Hp→Prop)(hk:k≤sizeLine)(h0:Pv 0 [] H)(hn:∀i ys H,Pv i ys H→ys.length≤i)
  (hs:∀i ys H,i < k→Pv i ys H→fi n js g tt te σ (.int (lo+i)) ys H (Pv (i+1))) (hd:∀ys H,Pv k ys H→F ys H):nZ n js g tt te σ F (rQ lo k) H:=pW Pv hk h0 hn hs hd
theorem dB(Pv:Nat→List V→Hp→Prop)(hk:xs.length≤sizeLine)(h0:Pv 0 [] H)(hn:∀i ys H,Pv i ys H→ys.length≤i)(hl:∀i ys H,Pv i ys H→aL K H a xs)
  (hs:∀i x ys H,xs[i]?=some x→Pv i ys H→fi n js g tt te σ x ys H (Pv (i+1))) (hd:∀ys H,Pv xs.length ys H→F ys H):nZ n js g tt te σ F (vy K a) H:=sf Pv hk h0 hn hl hs hd
theorem r9{z:Str}(Pv:Nat→List V→Hp→Prop)(hk:z.length≤sizeLine)(h0:Pv 0 [] H)(hn:∀i ys H,Pv i ys H→ys.length≤i)
  (hs:∀i c ys H,z.cps.toList[i]?=some c→Pv i ys H→fi n js g tt te σ (.str ⟨#[c]⟩) ys H (Pv (i+1))) (hd:∀ys H,Pv z.length ys H→F ys H):nZ n js g tt te σ F (vE z) H:=t4 Pv hk h0 hn hs hd
theorem md{l1 l2:Bool}{a1 a2:Addr}{us vs:List V}(Pv:Nat→List V→Hp→Prop)(hk:us.length≤sizeLine)(he:us.length=vs.length)(h0:Pv 0 [] H)(hn:∀i ys H,Pv i ys H→ys.length≤i)(hl:∀i ys H,Pv i ys H→jx K l1 H a1 us∧jx K l2 H a2 vs)
  (hs:∀i x y ys H p,us[i]?=some x→vs[i]?=some y→Pv i ys H→H p=none→fi n js g tt te σ (.ref p) ys (upd H p (.tup [x,y])) (Pv (i+1))) (hd:∀ys H,Pv us.length ys H→F ys H):nZ n js g tt te σ F (Am K l1 l2 a1 a2) H:=by
 refine⟨fun i m ys H=>m=us.length - i∧i≤us.length∧Pv i ys H,⟨us.length,by simp,Nat.zero_le _,h0⟩,?_⟩
 rintro i m ys H ⟨rfl,hi,p⟩
 obtain⟨q1,q2⟩:=hl i ys H p
 by_cases hlt:i < us.length
 ·refine .inr ⟨⟨us,vs,us[i],vs[i],q1,q2,by simp [hlt],by simp [he▸hlt]⟩,Nat.lt_of_le_of_lt (hn i ys H p) (Nat.lt_of_lt_of_le hlt hk),Pv (i+1),fun σ' H' p'=>⟨us.length - (i+1),by omega,rfl,hlt,p'⟩,fun x H' y=>?_⟩
  obtain⟨pp,u,v,e,hp,e2,y1,y2⟩:=y
  subst e e2
  exact hs i u v ys H pp (y1 us q1) (y2 vs q2) p hp
 ·have e:i=us.length:=by omega
  subst e
  exact .inl ⟨⟨us,vs,q1,q2,.inl rfl⟩,hd ys H p⟩
end
theorem fj{CX:pJ}{P:Program}{w:World}{K:PySem.W.Frag}{mg:Str→Option Value}{base:Heap}{N:List Str}{qual:Str}{scope:Scope}{f:Addr}{cd:Value}{A:Around}{outer:List Env}{s:Shared}{H:Hp}{E:XK}:(pX CX P w K mg base N qual scope f cd A outer s H E).K=K:=rfl
theorem gJ{X:Cx}{scope:Scope}{own:List Str}{js:List Nat}{C:Addr}{s:Shared}{H:Hp}{ex:List Addr}{pn:List (Addr×Obj)}{E:Value→Shared→Prop}:(lM X scope own js C s H ex pn E).K=X.K:=rfl
theorem ao{H:Hp}{q:Addr}{o:HO}(h:H q=none):aq H (upd H q o):=fun b o' e=>by rw [ai (aj e h)];exact e
theorem aq.upd{H H1:Hp}{q:Addr}{o:HO}(s:aq H H1)(h:H1 q=none):aq H (upd H1 q o):=s.trans (ao h)
theorem aq.tup{K:PySem.W.Frag}{H H':Hp}{a:Addr}{xs:List V}(e:aq H H')(h:cq K H a xs):cq K H' a xs:=by
 rcases h with h | h
 ·rcases h with h | ⟨o,h⟩
  ·exact .inl (.inl (e _ _ h))
  ·exact .inl (.inr ⟨o,e _ _ h⟩)
 ·exact .inr h
end L2
namespace L2
open PySem PySem.Spec PyProof.Rows
theorem aY(z:Str):z.length=z.cps.toList.length:=by simp [Str.length]
theorem qC{z:Str}{i:Int}(h:0≤i):(Txt.slice z (some i) none).cps.toList=z.cps.toList.drop i.toNat:=by
 by_cases hi:i≤z.cps.toList.length
 ·rw [show Txt.slice z (some i) none=StrLaws.sliceText z (some i) none from rfl,StrLaws.sliceText_from ⟨h,hi⟩]
  show((z.cps.toList.drop i.toNat).take _)=_
  skip
  exact List.take_of_length_le (by rw [List.length_drop];omega)
 ·have e:Builtin.Str.strSliceIndices (some i) none 1 z.length=Builtin.Str.strSliceIndices (some (z.length:Int)) none 1 z.length:=sliceIdx_lo_beyond z.length (by rw [aY];omega)
  have e2:Txt.slice z (some i) none=Txt.slice z (some (z.length:Int)) none:=by unfold Txt.slice;rw [e]
  rw [e2,show Txt.slice z (some (z.length:Int)) none=StrLaws.sliceText z (some (z.length:Int)) none from rfl,StrLaws.sliceText_from ⟨by omega,by rw [aY];omega⟩]
  show((z.cps.toList.drop _).take _)=_
  rw [aY,Int.toNat_natCast,List.drop_length,List.take_nil,List.drop_eq_nil_of_le (by omega)]
theorem qG(z:Str)(c:Nat):Txt.startswith z ⟨#[c]⟩=decide (z.cps.toList.head?=some c):=by
 obtain⟨⟨l⟩⟩:=z
 unfold Txt.startswith
 rw [StrLaws.subAt_eq]
 cases l with
 | nil=>simp [Str.length]
 | cons a l=>
  simp [Str.length]
  rw [Bool.eq_iff_iff]
  simp
theorem jb(x y:Str):decide (x=y)=decide (x.cps.toList=y.cps.toList):=by
 by_cases h:x=y
 ·subst h;simp
 ·rw [decide_eq_false h]
  symm
  apply decide_eq_false
  intro e
  apply h
  obtain⟨⟨a⟩⟩:=x
  obtain⟨⟨b⟩⟩:=y
  simp at e
  subst e
  rfl
theorem r6(x y:Str):(x++y).cps.toList=x.cps.toList++y.cps.toList:=by
 show(x.cps++y.cps).toList=_
 rw [Array.toList_append]
theorem gH{α:Type}{xs:List α}{v:α}(h:xs.head?=some v):lD xs 0=some v:=by
 cases xs with
 | nil=>cases h
 | cons a l=>cases h;exact bq (j:=0) rfl
section
variable {X:Cx}
end
end L2
namespace L2
open PySem PySem.Spec PyProof.Rows
section
variable {X:Cx}
theorem yd(K:PySem.W.Frag)(h:X.K=K:=by rfl):dq X (binaryOp .Add) (eg K):=h▸opAdd
theorem zC(K:PySem.W.Frag)(h:X.K=K:=by rfl):dq X (compareOp .In) (u6 K):=h▸Av
theorem uN(K:PySem.W.Frag)(h:X.K=K:=by rfl):dq X (compareOp .NotIn) (il K):=h▸wD
theorem zS(K:PySem.W.Frag)(h:X.K=K:=by rfl):vz X (s9 K):=h▸slA
theorem dC(K:PySem.W.Frag)(h:X.K=K:=by rfl):tM X (rF K):=h▸ixA
theorem cu(K:PySem.W.Frag){tg l:Expr}{tl:TE}(hl:PE X l tl)(h:X.K=K:=by rfl):PI X tg l (rf (yX K) tl):=h▸yp hl
theorem aU(K:PySem.W.Frag)(h:X.K=K:=by rfl):bN X (.builtin "len") (fun xs H Q=>(∃z,xs=[.str z]∧z.length≤sizeLine∧Q (.int z.length) H)∨∃p ys,xs=[.ref p]∧(aL K H p ys∨cq K H p ys)∧Q (.int ys.length) H):=h▸rX
theorem iZ(K:PySem.W.Frag)(h:X.K=K:=by rfl):bN X (.builtin "isinstance") (fun xs H Q=>∃x n t b,xs=[x,.ty n]∧iV K H x t∧PySem.W.kitOne K t (.type n)=some b∧Q (.bl b) H):=h▸og
theorem ib(K:PySem.W.Frag)(hc:X.calm=true)(h:X.K=K:=by rfl):bN X (.builtin "all") (fun xs H Q=>∃(p:Addr) (bs:List Bool),xs=[.ref p]∧aL K H p (bs.map V.bl)∧Q (.bl (bs.all id)) H):=h▸rV hc
theorem fM(K:PySem.W.Frag)(h:X.K=K:=by rfl):bN X (.type "tuple") (fun xs H Q=>∃p ys,xs=[.ref p]∧((aL K H p ys∧∀l,H l=none→Q (.ref l) (upd H l (.tup ys)))∨(cq K H p ys∧Q (.ref p) H))):=h▸lK
theorem iB(K:PySem.W.Frag)(h:X.K=K:=by rfl):bN X (.type "list") (fun xs H Q=>∃p ys,xs=[.ref p]∧(aL K H p ys∨cq K H p ys)∧∀l,H l=none→Q (.ref l) (upd H l (.lst ys))):=h▸mU
theorem eE(K:PySem.W.Frag){es:List Expr}{k:Nat}{t:vJ}{n:Nat}{pos:Pos}(hc:X.calm=true)(h:y4 X es t)(hK:X.K=K:=by rfl)
  (hn:(assignEach es X.env).length=n:=by rfl) (hst:(assignEach es X.env).findIdx? (·.1)=none:=by rfl):PG X (.Tuple es k pos) (jg K n t):=hK▸yo hc h hn hst
theorem c5(K:PySem.W.Frag){o e:Expr}{es:List Expr}{to:TE}{t:TA}{name:Str}{apos cpos:Pos}{T id:String}{r:V→List V→Hp→VK→Prop}(pa:PlainAttrs T)(slot:Slot T name id)(hty:typeOf (.builtin id)=pure (.type "method_descriptor"))(hm:tU X id r)(ho:PE X o to)(ha:PA X (e::es) t)(hK:X.K=K:=by rfl)
  (hbase:attributeBase o name X.env (eval o X.env)=eval o X.env:=by rfl)
  (hfew:((backTo cpos (starEach (e::es) X.env)).all (fun x=>!x.1) && (backToKw cpos (keywordEach [] X.env)).all (fun x=>x.1.isSome)
   && decide ((e::es).length+([]:List Keyword).length+(if ([]:List Keyword).isEmpty then 0 else 1) < 30))=true:=by rfl)
  (hline:(apos.endLine == cpos.line)=true:=by rfl) (hs:starEach (e::es) X.env=(false,eval e X.env)::starEach es X.env:=by rfl) (hplain:(backTo cpos (starEach es X.env)).any (·.1)=false:=by rfl) :
  PE X (.Call (.Attribute o name apos) (e::es) [] cpos) (tE K T r to t):=hK▸zI pa slot hty hm ho ha hbase hfew hline hs hplain
def cV:Expr→Option V
 | .Constant (.int i) _ _=>some (.int i)
 | .Constant (.str x) _ _=>some (.str x)
 | .Constant (.bool b) _ _=>some (.bl b)
 | .Constant .none _ _=>some .non
 | _=>none
def tP(vs:List V):TA:=fun _ H Q=>Q vs H
theorem zJ{e:Expr}{v:V}(h:cV e=some v):PE X e (tC v):=by
 unfold cV at h
 split at h
 ·cases h;exact ah
 ·cases h;exact fv
 ·cases h;exact oX
 ·cases h;exact eS
 ·cases h
theorem xg{e:Expr}{es:List Expr}{v:V}(h:cV e=some v):starEach (e::es) X.env=(false,eval e X.env)::starEach es X.env:=by
 unfold cV at h
 split at h<;>first | rfl | cases h
theorem mw:∀{es:List Expr} {vs:List V},es.map cV=vs.map some→PA X es (tP vs)
 | [],[],_=>af
 | [],_::_,h=>by cases h
 | _::_,[],h=>by cases h
 | e::es,v::vs,h=>by
  have h1:cV e=some v:=(List.cons.inj h).1
  have h2:es.map cV=vs.map some:=(List.cons.inj h).2
  exact aa (zJ h1) (mw h2) (xg h1)
end
def Ax:Option V→(V→Prop)→Prop
 | some v,k=>k v
 | none,_=>False
def vd:St→Nat→(V→Prop)→Prop
 | [],_,_=>False
 | o::_,0,k=>Ax o k
 | _::σ,i+1,k=>vd σ i k
theorem aS{v:V}{σ:St}{k:V→Prop}:vd (some v::σ) 0 k=k v:=rfl
theorem aR{o:Option V}{σ:St}{i:Nat}{k:V→Prop}:vd (o::σ) (i+1) k=vd σ i k:=rfl
theorem j3{k:V→Prop}:∀{σ:St} {i:Nat},vd σ i k↔∃v,σ[i]?=some (some v)∧k v
 | [],i=>by simp [vd]
 | some v::σ,0=>by simp [vd,Ax]
 | none::σ,0=>by simp [vd,Ax]
 | o::σ,i+1=>by rw [aR,j3];simp
def j5(i:Nat):TE:=fun σ H Q=>vd σ i fun v=>Q v H
theorem yJ(i:Nat):j5 i=jw i:=by
 funext σ H Q
 exact propext j3
def vA:V→(Int→Prop)→Prop
 | .int i,k=>k i
 | _,_=>False
theorem aw{i:Int}{k:Int→Prop}:vA (.int i) k=k i:=rfl
theorem iY{v:V}{k:Int→Prop}:vA v k↔∃i,v=.int i∧k i:=by cases v<;>simp [vA]
def xp:V→(Bool→Prop)→Prop
 | .bl i,k=>k i
 | _,_=>False
theorem aD{i:Bool}{k:Bool→Prop}:xp (.bl i) k=k i:=rfl
theorem iX{v:V}{k:Bool→Prop}:xp v k↔∃i,v=.bl i∧k i:=by cases v<;>simp [xp]
def jM(g:Int→Int→V):R2:=fun x y H Q=>vA x fun i=>vA y fun j=>Q (g i j) H
def jI(C:Int→Int→Prop)(g:Int→Int→V):R2:=fun x y H Q=>vA x fun i=>vA y fun j=>C i j∧Q (g i j) H
def jU(g:Int→V):V→Hp→VK→Prop:=fun x H Q=>vA x fun i=>Q (g i) H
def cD(t:TE):TT:=fun σ H Q=>t σ H fun x H1=>xp x fun k=>Q k H1
def cC(t:TE):TO:=fun σ H Q=>t σ H fun x H1=>vA x fun i=>Q (some i) H1
def eQ(i:Nat)(te:TE)(ti:yQ):TS:=fun D σ H=>vd σ i fun x=>te σ H fun y H1=>ti x y H1 fun z H2=>D.nx (σ.set i (some z)) H2
def cA(ta tb:TE):TE:=fun σ H Q=>ta σ H fun x H1=>xp x fun c=>if c=true then tb σ H1 Q else Q (.bl false) H1
def eR(ta tb:TE):TE:=fun σ H Q=>ta σ H fun x H1=>xp x fun c=>if c=true then Q (.bl true) H1 else tb σ H1 Q
def cB(ta:TE):TE:=fun σ H Q=>ta σ H fun x H1=>xp x fun c=>Q (.bl (!c)) H1
theorem wc(i:Nat)(te:TE)(ti:yQ):eQ i te ti=iO i te ti:=by
 funext D σ H
 unfold eQ iO
 simp only [j3]
theorem um(ta tb:TE):cA ta tb=fE ta tb:=by
 funext σ H Q
 unfold cA fE
 simp only [iX]
theorem wj(ta tb:TE):eR ta tb=iP ta tb:=by
 funext σ H Q
 unfold eR iP
 simp only [iX]
theorem uu(ta:TE):cB ta=fH ta:=by
 funext σ H Q
 unfold cB fH
 simp only [iX]
theorem xV(g:Int→Int→V):jM g=jO g:=by
 funext x y H Q
 unfold jM jO
 simp only [iY,exists_and_left]
theorem zo(C:Int→Int→Prop)(g:Int→Int→V):jI C g=rI C g:=by
 funext x y H Q
 unfold jI rI
 simp only [iY,exists_and_left]
theorem zq(g:Int→V):jU g=rU g:=by
 funext x H Q
 unfold jU rU
 simp only [iY]
theorem uw(t:TE):cD t=e8 t:=by
 funext σ H Q
 unfold cD e8
 simp only [iX]
theorem uv(t:TE):cC t=fP t:=by
 funext σ H Q
 unfold cC fP
 simp only [iY]
def tN(r:R2):R2
 | .int i,.int j,H,Q=>Q (.bl (decide (i=j))) H
 | .str i,.str j,H,Q=>Q (.bl (decide (i=j))) H
 | x,y,H,Q=>r x y H Q
def tO(r:R2):R2
 | .int i,.int j,H,Q=>Q (.bl (!decide (i=j))) H
 | .str i,.str j,H,Q=>Q (.bl (!decide (i=j))) H
 | x,y,H,Q=>r x y H Q
def jL(r:R2):R2
 | .int i,.int j,H,Q=>Q (.int (i+j)) H
 | x,y,H,Q=>r x y H Q
def oJ(r:R2):R2
 | .int i,.int j,H,Q=>IntMulOk i j∧Q (.int (i * j)) H
 | x,y,H,Q=>r x y H Q
theorem aE{r:R2}{i j:Int}{H:Hp}{Q:VK}:tN r (.int i) (.int j) H Q=Q (.bl (decide (i=j))) H:=rfl
theorem aF{r:R2}{i j:Str}{H:Hp}{Q:VK}:tN r (.str i) (.str j) H Q=Q (.bl (decide (i=j))) H:=rfl
theorem aG{r:R2}{i j:Int}{H:Hp}{Q:VK}:tO r (.int i) (.int j) H Q=Q (.bl (!decide (i=j))) H:=rfl
theorem aH{r:R2}{i j:Str}{H:Hp}{Q:VK}:tO r (.str i) (.str j) H Q=Q (.bl (!decide (i=j))) H:=rfl
theorem ax{r:R2}{i j:Int}{H:Hp}{Q:VK}:jL r (.int i) (.int j) H Q=Q (.int (i+j)) H:=rfl
theorem ay{r:R2}{i j:Int}{H:Hp}{Q:VK}:oJ r (.int i) (.int j) H Q=(IntMulOk i j∧Q (.int (i * j)) H):=rfl
theorem uo{r:R2}(h1:∀i j H Q,r (.int i) (.int j) H Q↔Q (.bl (decide (i=j))) H)(h2:∀i j H Q,r (.str i) (.str j) H Q↔Q (.bl (decide (i=j))) H):tN r=r:=by
 funext x y H Q
 unfold tN
 split
 ·exact propext (h1 _ _ _ _).symm
 ·exact propext (h2 _ _ _ _).symm
 ·rfl
theorem ur{r:R2}(h1:∀i j H Q,r (.int i) (.int j) H Q↔Q (.bl (!decide (i=j))) H)(h2:∀i j H Q,r (.str i) (.str j) H Q↔Q (.bl (!decide (i=j))) H):tO r=r:=by
 funext x y H Q
 unfold tO
 split
 ·exact propext (h1 _ _ _ _).symm
 ·exact propext (h2 _ _ _ _).symm
 ·rfl
theorem rk{r:R2}(h1:∀i j H Q,r (.int i) (.int j) H Q↔Q (.int (i+j)) H):jL r=r:=by
 funext x y H Q
 unfold jL
 split
 ·exact propext (h1 _ _ _ _).symm
 ·rfl
theorem wg{r:R2}(h1:∀i j H Q,r (.int i) (.int j) H Q↔IntMulOk i j∧Q (.int (i * j)) H):oJ r=r:=by
 funext x y H Q
 unfold oJ
 split
 ·exact propext (h1 _ _ _ _).symm
 ·rfl
theorem xu:tN my=my:=uo (fun _ _ _ _=>rEq_ii) (fun _ _ _ _=>nF)
theorem xw:tO mz=mz:=ur (fun _ _ _ _=>nH) (fun _ _ _ _=>nI)
theorem uj(K:PySem.W.Frag):jL (eg K)=eg K:=rk fun _ _ _ _=>rAddA_ii
theorem zm{x y:V}{H:Hp}{Q:VK}:tN my x y H Q↔my x y H Q:=by rw [xu]
theorem zp{x y:V}{H:Hp}{Q:VK}:tO mz x y H Q↔mz x y H Q:=by rw [xw]
theorem v9{K:PySem.W.Frag}{x y:V}{H:Hp}{Q:VK}:jL (eg K) x y H Q↔eg K x y H Q:=by rw [uj]
section
variable {X:Cx}
theorem pr(i:Nat){x:Str}{pos:Pos}(hN:X.N[i]?=some x:=by rfl)(hv:z7 X.env.scope x:=by first | exact Or.inl rfl | exact Or.inr (Or.inl rfl) | exact Or.inr (Or.inr rfl))(hd:(x == ("__debug__":Str))=false:=by decide)
  (hcd:(x == ("__classdict__":Str))=false:=by decide):PE X (.Name x pos) (j5 i):=by
 rw [yJ]
 exact yn hN hv hd hcd
theorem o0{f:Value→Value→Sem Value}{g:Int→Int→V}(h:dq X f (jO g)):dq X f (jM g):=by rw [xV];exact h
theorem o1{f:Value→Value→Sem Value}{C:Int→Int→Prop}{g:Int→Int→V}(h:dq X f (rI C g)):dq X f (jI C g):=by rw [zo];exact h
theorem u1{f:Value→Sem Value}{g:Int→V}(h:zc X f (rU g)):zc X f (jU g):=by rw [zq];exact h
theorem uE:dq X (compareOp .Eq) (tN my):=by rw [xu];exact opEq
theorem Au:dq X (compareOp .NotEq) (tO mz):=by rw [xw];exact opNe
theorem eI(K:PySem.W.Frag)(h:X.K=K:=by rfl):dq X (binaryOp .Add) (jL (eg K)):=by rw [uj];exact yd K h
theorem eU{e:Expr}{t:TE}(h:PT X e (e8 t)):PT X e (cD t):=by rw [uw];exact h
theorem zN{st:Stmt}{i:Nat}{te:TE}{ti:yQ}(h:PS X st (iO i te ti)):PS X st (eQ i te ti):=by rw [wc];exact h
theorem uS{e:Expr}{ta tb:TE}(h:PE X e (fE ta tb)):PE X e (cA ta tb):=by rw [um];exact h
theorem xC{e:Expr}{ta tb:TE}(h:PE X e (iP ta tb)):PE X e (eR ta tb):=by rw [wj];exact h
theorem zK{e:Expr}{ta:TE}(h:PE X e (fH ta)):PE X e (cB ta):=by rw [uu];exact h
theorem zM{e:Expr}{t:TE}(h:PE X e t):PO X (some e) (cC t):=by rw [uv];exact wQ h
end
theorem ui{p:Prop}[d:Decidable p]{A B:Prop}:(if (!decide p)=true then A else B)=(if p then B else A):=by
 by_cases h:p<;>simp [h]
theorem uh{p:Prop}[d:Decidable p]{A B:Prop}:(if decide p=true then A else B)=(if p then A else B):=by
 by_cases h:p<;>simp [h]
theorem ba{t u:TS}{D:gD}{σ:St}{H:Hp}(C:St→Hp→Prop)(h2:∀σ H,C σ H→u D σ H)(h1:∀u':TS,(∀σ H,C σ H→u' D σ H)→du t u' D σ H):du t u D σ H:=h1 u h2
theorem eC.up{P:Program}{w:World}{K:PySem.W.Frag}{mg:Str→Option Value}{base:Heap}{x:Str}{j k:Nat}{ps:List Str}{sp:Sp}(d:eC P w K mg base x j ps sp)(h:j≤k):eC P w K mg base x k ps sp:=
 let ⟨f,fd,F,r⟩:=d.ex;⟨f,fd,F.mono h,r⟩
theorem const_mk{K:PySem.W.Frag}{x:Str}{v:V}{u:Value}(e:PySem.W.nsIn K mainGlobals x=some (some u))(r:aK v u):∃u,PySem.W.nsIn K mainGlobals x=some (some u)∧aK v u:=⟨u,e,r⟩
theorem xK{K:PySem.W.Frag}{b k:Bool}{H:Hp}:tV K (.bl b) H k↔k=b:=Iff.rfl
theorem zX{K:PySem.W.Frag}{z:Str}{H:Hp}:zW K "str" (.str z) H↔True:=⟨fun _=>trivial,fun _=>rfl⟩
theorem str_iff{x y:Str}:x=y↔x.cps.toList=y.cps.toList:=by
 constructor
 ·intro e;rw [e]
 ·intro e
  obtain⟨⟨a⟩⟩:=x
  obtain⟨⟨b⟩⟩:=y
  simp at e
  subst e
  rfl
end L2
namespace L2
open PySem PySem.Spec PyProof.Rows
open AutoSeq1 (wpAny_loadPart')
theorem jk:fillsNumberSlot (.type "tuple") "mul"=pure false:=
 PySem.fillsNumberSlot_seq (id:="tuple.__mul__") (r:=some (.builtin "tuple.__rmul__")) F.slot_tuple_mul.lookup (by decide +kernel) F.slot_tuple_rmul.lookup (by decide +kernel)
theorem nJ:seqRepeat? (.type "tuple")=pure (some (.builtin "tuple.__mul__")):=by
 unfold seqRepeat?
 rw [PySem.seqSlot_of (T:="tuple") (name:="__mul__") (id:="tuple.__mul__") F.slot_tuple_mul.lookup (by decide +kernel),PySem.seqSlot_of (T:="tuple") (name:="__rmul__") (id:="tuple.__rmul__") F.slot_tuple_rmul.lookup (by decide +kernel)]
 rfl
theorem ko(a:Int)(t:Tok)(l:Addr)(items:Array Value)(n:Nat)(dd:Option Addr)(sl:Array (Option Value)):
  Meets (Builtin.«int.__rmul__» ⟨[.int a t,.ref l],[]⟩) (fun _ R s=>s.heap.get? l=some { cls:=.type "tuple",dict:=dd,data:=.seq items n,slots:=sl }∧R (.ok (.ret Value.notImplemented)) s):=
 .of_wp fun prog w A R s h=>by obtain⟨hp,g,d,tk,os⟩:=s;obtain⟨hl,h⟩:=h;wp_walk;exact⟨_,rfl,h⟩
theorem qK(l:Addr)(items:Array Value)(n:Nat)(dd:Option Addr)(sl:Array (Option Value))(u:Tok):
  Meets (Builtin.«tuple.__mul__» ⟨[.ref l,.int 1 u],[]⟩) (fun _ R s=>s.heap.get? l=some { cls:=.type "tuple",dict:=dd,data:=.seq items n,slots:=sl }∧R (.ok (.ret (Value.ref l))) s):=
 .of_wp fun prog w A R s h=>by
  obtain⟨hp,g,d,tk,os⟩:=s;obtain⟨hl,h⟩:=h
  have hT:Shared.TypeIs ⟨hp,g,d,tk,os⟩ (.ref l) "tuple":=⟨_,hl,rfl⟩
  wp_walk using wpAny_loadPart' hl,wpAny_typeOf hT
  exact⟨_,rfl,h⟩
theorem ki{α:Type}(xs:Array α):∀(n:Nat) (acc:Array α),((List.replicate n xs).foldl (· ++ ·) acc).size=acc.size+n * xs.size
 | 0,acc=>by simp
 | n+1,acc=>by
  rw [List.replicate_succ,List.foldl_cons,ki xs n,Array.size_append,Nat.succ_mul]
  omega
theorem qL(l:Addr)(items:Array Value)(n:Nat)(dd:Option Addr)(sl:Array (Option Value))(x:Int)(u:Tok)(h1:1 < x)(h2:x < 1000000)(h0:items.isEmpty=false)(hz:items.size * x.toNat≤sizeLine):
  Meets (Builtin.«tuple.__mul__» ⟨[.ref l,.int x u],[]⟩) (fun _ R s=>s.heap.get? l=some { cls:=.type "tuple",dict:=dd,data:=.seq items n,slots:=sl }∧R (.ok (.ret (Value.ref s.heap.objs.size))) { s with heap:=s.heap.push { cls:=Value.type "tuple",data:=Data.seq ((List.replicate x.toNat items).foldl (· ++ ·) #[]) } }):=
 .of_wp fun prog w A R s h=>by
  obtain⟨hp,g,d,tk,os⟩:=s;obtain⟨hl,h⟩:=h
  have hT:Shared.TypeIs ⟨hp,g,d,tk,os⟩ (.ref l) "tuple":=⟨_,hl,rfl⟩
  wp_walk using wpAny_loadPart' hl,wpAny_typeOf hT
  refine wpAny_ite_false (by rw [decide_eq_false (show ¬x < -2 ^ 63 by omega),decide_eq_false (show ¬x≥2 ^ 63 by omega)];rfl) ?_
  wp_walk using wpAny_loadPart' hl,wpAny_typeOf hT
  refine wpAny_ite_false (by rw [h0];simp;omega) ?_
  refine wpAny_ite_false (by rw [h0];simp;omega) ?_
  have e:(items.size:Int) * x=((items.size * x.toNat:Nat):Int):=by rw [Int.natCast_mul,Int.toNat_of_nonneg (by omega)]
  have hs:sizeLine=16777216:=sizeLine_eq
  refine wpAny_ite_false (decide_eq_false (by rw [e];omega)) ?_
  have hm:¬((items.size:Int) * x > (sizeLine:Int)):=by rw [e];exact_mod_cast Nat.not_lt.mpr hz
  refine wpAny_ite_false (by unfold Builtin.Tuple.tupleTooMany;exact decide_eq_false (fun z=>hm (of_decide_eq_true z))) ?_
  have hf:(List.foldl (fun x1 x2=>x1++x2) #[] (List.replicate x.toNat items)).size≤sizeLine:=by
   rw [ki,Array.size_empty,Nat.zero_add,Nat.mul_comm];exact hz
  wp_walk using wpAny_loadPart' hl,wpAny_typeOf hT
  refine wpAny_ite_false (decide_eq_false (Nat.not_lt.mpr hf)) ?_
  wp_walk
  exact⟨_,rfl,h⟩
def rJ(K:PySem.W.Frag):R2:=fun x y H Q=>∃l k xs,x=.ref l∧y=.int k∧cq K H l xs∧1≤k∧k < 1000000∧xs≠[]∧xs.length * k.toNat≤sizeLine∧
 (k=1→Q (.ref l) H)∧∀p,H p=none→Q (.ref p) (upd H p (.tup (List.replicate k.toNat xs).flatten))
section
variable {X:Cx}
theorem wI:dq X (binaryOp .Mult) (rJ X.K):=by
 intro pins s σ H x y v u Q I rx ry h
 obtain⟨l,k,xs,rfl,rfl,hH,h1,h2,hx,hz,q1,q⟩:=h
 cases rx
 obtain⟨t,rfl⟩:=ry
 obtain⟨its,r,p,hl⟩:=I.tuple hH
 obtain⟨⟨cls,dd,data,sl⟩,ho,hc,n,hd⟩:=id p
 simp only at hc hd
 subst hc hd
 have hlen:its.toArray.size * k.toNat≤sizeLine:=by rw [List.size_toArray,←r.length];exact hz
 refine wpAny_binaryOp_repeat_ref (T:="tuple") (U:="int") (by decide) ⟨_,ho,rfl⟩ (fun s'=>typeIs_int s' k t) jk F.fills_int_mul F.slot_int_rmul nJ F.slot_int_index.lookup
  (call_meets F.slot_int_rmul (typeIs_int s k t) F.entry_int_rmul (F.args_int_rmul_2 _ _) (ko k t l its.toArray n dd sl) ⟨ho,rfl,⟨_,ho,rfl⟩,?_⟩)
 by_cases hk:k=1
 ·subst hk
  exact call_meets F.slot_tuple_mul ⟨_,ho,rfl⟩ F.entry_tuple_mul (F.args_tuple_mul_2 _ _) (qK l its.toArray n dd sl t) ⟨ho,.ref l,H,I,rfl,q1 rfl⟩
 ·have hne:its.toArray.isEmpty=false:=by
   cases its with
   | nil=>exact absurd (r.nil_iff.mp rfl) hx
   | cons a b=>rfl
  refine call_meets F.slot_tuple_mul ⟨_,ho,rfl⟩ F.entry_tuple_mul (F.args_tuple_mul_2 _ _) (qL l its.toArray n dd sl k t (by omega) h2 hne hlen) ⟨ho,?_⟩
  have hnew:List.foldl (fun x1 x2=>x1++x2) #[] (List.replicate k.toNat its.toArray)=(List.replicate k.toNat its).flatten.toArray:=by
   have:=jf its k.toNat []
   rw [List.nil_append]at this
   exact this
  refine⟨.ref s.heap.objs.size,_,I.laid (t':=s.toks) (o:=.tup (List.replicate k.toNat xs).flatten) (fun b ob q=>Heap.get?_push_of_some _ q) (Nat.le_refl _) ?_,rfl,q _ (I.hok.fresh (Nat.le_refl _))⟩
  rw [hnew]
  exact⟨by rw [mY,Nat.mul_comm];exact hz,_,r.rep k.toNat,IsTup.new _ _⟩
def e7(K:PySem.W.Frag):R2:=fun x y H Q=>jD x y H Q∨rJ K x y H Q
theorem yh(K:PySem.W.Frag)(h:X.K=K:=by rfl):dq X (binaryOp .Mult) (e7 K):=h▸opMul.or wI
theorem rMulB_ii{K:PySem.W.Frag}{i j:Int}{H:Hp}{Q:VK}:e7 K (.int i) (.int j) H Q↔IntMulOk i j∧Q (.int (i * j)) H:=by
 simp [e7,pk,rJ]
theorem u7{K:PySem.W.Frag}{z:Str}{j:Int}{H:Hp}{Q:VK}:e7 K (.str z) (.int j) H Q↔(-1000000≤j∧j≤1000000∧z.length≤16)∧Q (.str (i7 z j)) H:=by
 simp [e7,pw,rJ]
theorem uq(K:PySem.W.Frag):oJ (e7 K)=e7 K:=wg fun _ _ _ _=>rMulB_ii
theorem we{K:PySem.W.Frag}{x y:V}{H:Hp}{Q:VK}:oJ (e7 K) x y H Q↔e7 K x y H Q:=by rw [uq]
theorem lO(K:PySem.W.Frag)(h:X.K=K:=by rfl):dq X (binaryOp .Mult) (oJ (e7 K)):=by rw [uq];exact yh K h
theorem w5{K:PySem.W.Frag}{l:Addr}{k:Int}{xs:List V}{H:Hp}{Q:VK}(h:H l=some (.lst xs))(h1:-(2 ^ 63)≤k)(h2:k < 2 ^ 63)(hz:xs.length * k.toNat≤sizeLine)
  (q:∀p,H p=none→Q (.ref p) (upd H p (.lst (List.replicate k.toNat xs).flatten))):e7 K (.ref l) (.int k) H Q:=.inl (.inr (.inr ⟨l,k,xs,rfl,rfl,h,h1,h2,hz,q⟩))
end
end L2
namespace L2
open PySem PySem.Spec PyProof.Rows
def jv(c:Nat):List Nat→List (List Nat)
 | []=>[[]]
 | a::l=>if a=c then []::jv c l else match jv c l with
  | []=>[[a]]
  | p::r=>(a::p)::r
theorem qF(c:Nat):∀l,jv c l≠[]
 | []=>by simp [jv]
 | a::l=>by
  simp only [jv]
  split
  ·simp
  ·split<;>simp
theorem rM(c:Nat):∀l,(jv c l).length≤l.length+1
 | []=>by simp [jv]
 | a::l=>by
  have h:=rM c l
  simp only [jv]
  split
  ·simp;omega
  ·split
   ·simp
   ·rename_i p r e
    rw [e]at h
    simp at h ⊢
    omega
def eT(c:Nat):List Nat→Nat→List Nat
 | [],_=>[]
 | b::l,i=>if b=c then i::eT c l (i+1)else eT c l (i+1)
theorem kC(x:Str)(c:Nat)(lim:Nat):∀(l:List Nat) (i:Nat) (acc:Array Nat) (fr:Nat),x.cps.toList.drop i=l→acc.size≤i→fr≤i→x.length < lim→
  (forIn (List.range' i (l.length+1)) (acc,fr) (StrLaws.occBody x ⟨#[c]⟩ x.length lim)).run.fst.toList=acc.toList++eT c l i
 | [],i,acc,fr,hl,ha,hf,hm=>by
  have hi:x.length≤i:=by
   rw [aY]
   exact List.drop_eq_nil_iff.mp hl
  show(forIn [i] (acc,fr) _:Id _).run.fst.toList=_
  rw [List.forIn_cons]
  unfold StrLaws.occBody
  rw [if_neg (by intro h;have:=h.1.2;have e1:(⟨#[c]⟩:Str).length=1:=rfl;rw [e1]at this;omega)]
  show acc.toList=_
  simp [eT]
 | b::l,i,acc,fr,hl,ha,hf,hm=>by
  have hb:x.cps.toList[i]?=some b:=by
   have:(x.cps.toList.drop i)[0]?=some b:=by rw [hl];rfl
   rwa [List.getElem?_drop,Nat.add_zero]at this
  have hi:i < x.length:=by
   rw [aY]
   obtain⟨h,_⟩:=List.getElem?_eq_some_iff.mp hb
   exact h
  have hd:x.cps.toList.drop (i+1)=l:=by
   rw [←List.drop_drop,hl];rfl
  have e1:(⟨#[c]⟩:Str).length=1:=rfl
  show(forIn (i::List.range' (i+1) (l.length+1)) (acc,fr) _:Id _).run.fst.toList=_
  rw [List.forIn_cons]
  unfold StrLaws.occBody
  by_cases hc:b=c
  ·rw [if_pos ⟨⟨⟨by show acc.size < lim;omega,hf⟩,by rw [e1];omega⟩,((StrLaws.subAt_one x c i).mpr (by rw [hb,hc])).2⟩]
   show(forIn (List.range' (i+1) (l.length+1)) (acc.push i,i+1) (StrLaws.occBody x ⟨#[c]⟩ x.length lim):Id _).run.fst.toList=_
   rw [kC x c lim l (i+1) _ _ hd (by rw [Array.size_push];omega) (Nat.le_refl _) hm]
   simp [eT,hc]
  ·rw [if_neg (fun h=>hc (by have:=(StrLaws.subAt_one x c i).mp ⟨h.1.2,h.2⟩;rw [hb]at this;exact Option.some.inj this))]
   show(forIn (List.range' (i+1) (l.length+1)) (acc,fr) (StrLaws.occBody x ⟨#[c]⟩ x.length lim):Id _).run.fst.toList=_
   rw [kC x c lim l (i+1) _ _ hd (by omega) (by omega) hm]
   simp [eT,hc]
theorem wy(x:Str)(c:Nat):Builtin.Str.occurrences x ⟨#[c]⟩ 0 x.length (x.length+1)=eT c x.cps.toList 0:=by
 rw [StrLaws.occ_eq]
 have e:x.length+1 - 0=x.cps.toList.length+1:=by rw [aY];rfl
 rw [e]
 have h:=kC x c (x.length+1) x.cps.toList 0 #[] 0 rfl (Nat.le_refl _) (Nat.le_refl _) (Nat.lt_succ_self _)
 rw [h]
 rfl
theorem iE(x:Str)(c:Nat):∀(l:List Nat) (a j:Nat),a≤j→x.cps.toList.drop j=l→j≤x.length→
  (StrLaws.partsFrom x 1 a (eT c l j)).map (fun z=>z.cps.toList)=match jv c l with
   | []=>[]
   | p::r=>((x.cps.toList.drop a).take (j - a)++p)::r
 | [],a,j,haj,hl,hj=>by
  have hj':x.length≤j:=by rw [aY];exact List.drop_eq_nil_iff.mp hl
  have e:j=x.length:=by omega
  subst e
  simp [eT,jv,StrLaws.partsFrom,StrLaws.strSub_toList]
 | b::l,a,j,haj,hl,hj=>by
  have hb:x.cps.toList[j]?=some b:=by
   have:(x.cps.toList.drop j)[0]?=some b:=by rw [hl];rfl
   rwa [List.getElem?_drop,Nat.add_zero]at this
  have hi:j < x.length:=by
   rw [aY]
   obtain⟨h,_⟩:=List.getElem?_eq_some_iff.mp hb
   exact h
  have hd:x.cps.toList.drop (j+1)=l:=by
   rw [←List.drop_drop,hl];rfl
  by_cases hc:b=c
  ·have ih:=iE x c l (j+1) (j+1) (Nat.le_refl _) hd hi
   simp only [eT,hc,if_true,StrLaws.partsFrom,List.map_cons,jv,List.append_nil]
   rw [ih]
   cases hs:jv c l with
   | nil=>exact absurd hs (qF c l)
   | cons p r=>simp [StrLaws.strSub_toList]
  ·have ih:=iE x c l a (j+1) (by omega) hd hi
   simp only [eT,hc,if_false,jv]
   rw [ih]
   cases hs:jv c l with
   | nil=>exact absurd hs (qF c l)
   | cons p r=>
    have ht:(x.cps.toList.drop a).take (j+1 - a)=(x.cps.toList.drop a).take (j - a)++[b]:=by
     have e1:j+1 - a=(j - a)+1:=by omega
     rw [e1,List.take_add_one,List.getElem?_drop]
     have e2:a+(j - a)=j:=by omega
     rw [e2,hb];rfl
    simp [ht]
theorem vm(c:Nat):∀{l:List Nat},eT c l 0=[]→jv c l=[l]:=by
 have key:∀(l:List Nat) (i:Nat),eT c l i=[]→jv c l=[l]:=by
  intro l
  induction l with
  | nil=>intro i _;rfl
  | cons a l ih=>
   intro i h
   simp only [eT]at h
   split at h
   ·cases h
   ·rename_i hc
    simp only [jv,hc,if_false]
    rw [ih _ h]
 intro l h
 exact key l 0 h
theorem hX(x:Str){c:Nat}(hc:c < 256):(Txt.split x ⟨#[c]⟩).map (fun z=>z.cps.toList)=jv c x.cps.toList:=by
 unfold Txt.split
 have e1:(⟨#[c]⟩:Str).length=1:=rfl
 have ek:Builtin.Str.strKind ⟨#[c]⟩=1:=by simp [Builtin.Str.strKind,hc]
 have ek2:1≤Builtin.Str.strKind x:=by unfold Builtin.Str.strKind;split<;>(try split)<;>omega
 rw [e1,ek,decide_eq_false (show ¬Builtin.Str.strKind x < 1 by omega),Bool.or_false,wy]
 split
 ·rename_i h
  have h:x.length < 1:=by simpa using h
  have:x.cps.toList=[]:=by
   rw [aY]at h
   exact List.length_eq_zero_iff.mp (by omega)
  rw [List.map_cons,List.map_nil,this];rfl
 ·split
  ·rename_i h
   have h:eT c x.cps.toList 0=[]:=by simpa using h
   rw [vm c h];rfl
  ·rw [StrLaws.partsBetween_eq,iE x c x.cps.toList 0 0 (Nat.le_refl _) rfl (Nat.zero_le _)]
   cases hs:jv c x.cps.toList with
   | nil=>exact absurd hs (qF c _)
   | cons p r=>simp
end L2
namespace L2
open PySem PySem.Spec PyProof.Rows
theorem mM:∀(tk:Nat) (xs:List Str),aA (xs.map V.str) (strsFrom tk xs)
 | _,[]=>.nil
 | tk,x::r=>.cons ⟨tk,rfl⟩ (mM (tk+1) r)
theorem mI:∀{xs:List Str} {us:List Value},aA (xs.map V.str) us→StrsAre us xs
 | [],_,.nil=>.nil
 | x::r,_,.cons ⟨t,e⟩ q=>by subst e;exact .cons x t (mI q)
section
variable {X:Cx}
theorem oP:tU X "str.split" (fun x xs H Q=>∃z c,x=.str z∧xs=[.str ⟨#[c]⟩]∧c < 256∧z.length < sizeLine∧∀p,H p=none→Q (.ref p) (upd H p (.lst ((Txt.split z ⟨#[c]⟩).map V.str)))):=by
 intro pins s σ H x xs v us Q I rx r h
 obtain⟨z,c,rfl,rfl,hc,hz,q⟩:=h
 obtain⟨t,rfl⟩:=rx
 obtain⟨u,rfl,t',rfl⟩:=eM r
 have hs:sizeLine=16777216:=sizeLine_eq
 have hlen:(Txt.split z ⟨#[c]⟩).length≤sizeLine:=by
  have h1:(Txt.split z ⟨#[c]⟩).length=(jv c z.cps.toList).length:=by rw [←hX z hc,List.length_map]
  have h2:=rM c z.cps.toList
  rw [←aY]at h2
  omega
 have fin:∀(its:List Value) (tk:Nat),aA ((Txt.split z ⟨#[c]⟩).map V.str) its→EP X pins σ Q (.ref s.heap.objs.size) { s with toks:=tk,heap:=s.heap.push { cls:=.type "list",data:=.seq its.toArray } }:=fun its tk rv=>
  ⟨.ref s.heap.objs.size,_,I.laid (t':=tk) (o:=.lst ((Txt.split z ⟨#[c]⟩).map V.str)) (fun b ob q=>Heap.get?_push_of_some _ q) (Nat.le_refl _) ⟨by rw [List.length_map];exact hlen,its,0,rv,Heap.get?_push_size _ rfl⟩,rfl,q _ (I.hok.fresh (Nat.le_refl _))⟩
 cases h1:(decide (z.length < (⟨#[c]⟩:Str).length) || decide (Builtin.Str.strKind z < Builtin.Str.strKind ⟨#[c]⟩))with
 | true=>
  have e:Txt.split z ⟨#[c]⟩=[z]:=by unfold Txt.split;rw [if_pos h1]
  rw [e]at fin
  exact call_meets F.slot_str_split (typeIs_str _ _ _) F.entry_str_split (F.args_str_split_2 _ _) (meets_str_split_cannot_occur z ⟨#[c]⟩ t t' h1) (fin _ s.toks (.cons ⟨t,rfl⟩ .nil))
 | false=>
  cases hf:(Builtin.Str.occurrences z ⟨#[c]⟩ 0 z.length (z.length+1)).isEmpty with
  | true=>
   have e:Txt.split z ⟨#[c]⟩=[z]:=by unfold Txt.split;rw [if_neg (by rw [h1];exact Bool.false_ne_true),if_pos hf]
   rw [e]at fin
   exact call_meets F.slot_str_split (typeIs_str _ _ _) F.entry_str_split (F.args_str_split_2 _ _) (meets_str_split_not_found z ⟨#[c]⟩ t t' h1 rfl hf) (fin _ s.toks (.cons ⟨t,rfl⟩ .nil))
  | false=>
   have e:Txt.split z ⟨#[c]⟩=Builtin.Str.partsBetween z (Builtin.Str.occurrences z ⟨#[c]⟩ 0 z.length (z.length+1)) (⟨#[c]⟩:Str).length:=by
    unfold Txt.split;rw [if_neg (by rw [h1];exact Bool.false_ne_true),if_neg (by rw [hf];exact Bool.false_ne_true)]
   rw [e]at fin hlen
   exact call_meets F.slot_str_split (typeIs_str _ _ _) F.entry_str_split (F.args_str_split_2 _ _) (meets_str_split_sep z ⟨#[c]⟩ t t' h1 rfl hf (Nat.le_of_lt hz) hlen) (fin _ _ (mM _ _))
theorem wo:tU X "str.join" (fun x xs H Q=>∃z p ys,x=.str z∧xs=[.ref p]∧aL X.K H p (ys.map V.str)∧(ys.map (·.length)).sum+ys.length * z.length≤16777216∧Q (.str (Txt.join z ys)) H):=by
 intro pins s σ H x xs v us Q I rx r h
 obtain⟨z,p,ys,rfl,rfl,hq,hok,q⟩:=h
 obtain⟨t,rfl⟩:=rx
 obtain⟨u,rfl,ru⟩:=eM r
 cases ru
 obtain⟨its,rv,pl,hz⟩:=I.list hq
 exact join_list pl.isList (mI rv) hok fun t' k=>⟨.str _,H,I.tok _,⟨t',rfl⟩,q⟩
theorem uA(K:PySem.W.Frag)(h:X.K=K:=by rfl):tU X "str.join" (fun x xs H Q=>∃z p ys,x=.str z∧xs=[.ref p]∧aL K H p (ys.map V.str)∧(ys.map (·.length)).sum+ys.length * z.length≤16777216∧Q (.str (Txt.join z ys)) H):=h▸wo
def xP:List V→List V→Bool
 | [],[]=>true
 | x::xs,y::ys=>vB x y && xP xs ys
 | _,_=>false
def nE(K:PySem.W.Frag):R2:=fun x y H Q=>my x y H Q∨∃a b xs ys,x=.ref a∧y=.ref b∧cq K H a xs∧cq K H b ys∧xs.all fO=true∧ys.all fO=true∧Q (.bl (xP xs ys)) H
def nG(K:PySem.W.Frag):R2:=fun x y H Q=>mz x y H Q∨∃a b xs ys,x=.ref a∧y=.ref b∧cq K H a xs∧cq K H b ys∧xs.all fO=true∧ys.all fO=true∧Q (.bl (!xP xs ys)) H
end
theorem wX{K:PySem.W.Frag}{i j:Int}{H:Hp}{Q:VK}:nE K (.int i) (.int j) H Q↔Q (.bl (decide (i=j))) H:=by simp [nE,rEq_ii]
theorem w8{K:PySem.W.Frag}{i j:Int}{H:Hp}{Q:VK}:nG K (.int i) (.int j) H Q↔Q (.bl (!decide (i=j))) H:=by simp [nG,nH]
theorem wY{K:PySem.W.Frag}{i j:Str}{H:Hp}{Q:VK}:nE K (.str i) (.str j) H Q↔Q (.bl (decide (i=j))) H:=by simp [nE,nF]
theorem w9{K:PySem.W.Frag}{i j:Str}{H:Hp}{Q:VK}:nG K (.str i) (.str j) H Q↔Q (.bl (!decide (i=j))) H:=by simp [nG,nI]
theorem wW{K:PySem.W.Frag}{i j:Bool}{H:Hp}{Q:VK}:nE K (.bl i) (.bl j) H Q↔Q (.bl (decide (i=j))) H:=by simp [nE,u5]
theorem w6{K:PySem.W.Frag}{i j:Bool}{H:Hp}{Q:VK}:nG K (.bl i) (.bl j) H Q↔Q (.bl (!decide (i=j))) H:=by simp [nG,u9]
end L2
namespace L2
open PySem PySem.Spec PyProof.Rows
def ox(l:List Nat):Bool:=l.all fun c=>decide (c∈[48,49,50,51,52,53,54,55,56,57])
def fU(w:List Nat):List Nat:=if w.head?=some 45 then w.tail else w
def oG(w:List Nat):Bool:=decide (1≤(fU w).length) && (decide ((fU w).length≤40) && (ox (fU w) && (decide ((fU w).head?≠some 48) || decide (w=[48]))))
theorem p7(w:List Nat):oG w=(if fU w=[]∨40 < (fU w).length then false else if ox (fU w)=false then false else(decide ((fU w).head?≠some 48) || decide (w=[48]))):=by
 unfold oG
 split
 ·rename_i h
  rcases h with h | h
  ·rw [h];rfl
  ·have:¬(fU w).length≤40:=by omega
   simp [this]
 ·rename_i h
  have h1:1≤(fU w).length:=by
   cases e:fU w with
   | nil=>exact absurd (Or.inl e) h
   | cons a b=>simp
  have h2:(fU w).length≤40:=by
   have:¬40 < (fU w).length:=fun z=>h (Or.inr z)
   omega
  simp only [h1,h2,decide_true,Bool.true_and]
  split
  ·rename_i h3;rw [h3];rfl
  ·rename_i h3
   have h3:ox (fU w)=true:=by simpa using h3
   rw [h3];rfl
def i4(n:Int):List Nat:=(Str.ofString (toString n)).cps.toList
def dg(m:Nat):List Nat:=(Nat.toDigits 10 m).map Char.toNat
theorem i5(m:Nat):i4 (m:Int)=dg m:=PySem.W.KIN.signs_num m
theorem i6(k:Nat):i4 (-((k+1:Nat):Int))=45::dg (k+1):=by
 have e:toString (-((k+1:Nat):Int))="-" ++ toString (k+1):=rfl
 have h:=PySem.W.KIN.signs_num (k+1)
 unfold i4 dg
 rw [←h,e]
 have e2:toString (((k+1:Nat):Nat):Int)=toString (k+1):=rfl
 rw [e2]
 simp only [PyProof.Rows.signs_ofString,String.toList_append]
 rfl
theorem je(m:Nat):∀c∈dg m,48≤c∧c≤57:=by
 intro c hc
 obtain⟨ch,hch,e⟩:=List.mem_map.mp hc
 have r:=PyProof.Rows.digit_range (Nat.isDigit_of_mem_toDigits (by decide) (by decide) hch)
 rw [←e]
 exact r
theorem ou(m:Nat):dg m≠[]:=by
 intro e
 have h:=toDigits_len_ge 10 m
 rw [List.map_eq_nil_iff.mp e]at h
 exact absurd h (by decide)
theorem ow{m:Nat}(h:m < 10):dg m=[m+48]:=by
 unfold dg
 rw [Nat.toDigits_of_lt_base h]
 have:∀m,m < 10→(Nat.digitChar m).toNat=m+48:=by decide
 show [(Nat.digitChar m).toNat]=_
 rw [this m h]
theorem xO{m:Nat}(h:¬m < 10):dg m=dg (m / 10)++[m % 10+48]:=by
 have hm:m % 10 < 10:=Nat.mod_lt m (by decide)
 have t:Nat.toDigits 10 (m / 10)++Nat.toDigits 10 (m % 10)=Nat.toDigits 10 (10 * (m / 10)+m % 10):=Nat.toDigits_append_toDigits (by decide) (by omega) hm
 rw [Nat.div_add_mod]at t
 rw [←ow hm]
 unfold dg
 rw [←t,List.map_append]
theorem vS(m:Nat)(h0:0 < m):(dg m).head?≠some 48:=by
 induction m using Nat.strongRecOn with
 | _ m ih=>
  by_cases h:m < 10
  ·rw [ow h]
   simp
   omega
  ·rw [xO h]
   have:=ih (m / 10) (by omega) (by omega)
   cases hd:dg (m / 10)with
   | nil=>exact absurd hd (ou _)
   | cons a l=>rw [hd]at this;exact this
theorem pY{k m:Nat}(hk:1≤k)(hm:m < 10 ^ k):(dg m).length≤k:=by
 unfold dg
 rw [List.length_map]
 exact digits10_le hk hm
theorem kB(n:Int):∀c∈i4 n,c=45∨(48≤c∧c≤57):=by
 intro c hc
 rcases Int.lt_or_le n 0 with h | h
 ·obtain⟨k,rfl⟩:∃k:Nat,n = -((k+1:Nat):Int):=⟨n.natAbs - 1,by omega⟩
  rw [i6]at hc
  rcases List.mem_cons.mp hc with e | e
  ·exact .inl e
  ·exact .inr (je _ c e)
 ·obtain⟨m,rfl⟩:=Int.eq_ofNat_of_zero_le h
  rw [i5]at hc
  exact .inr (je _ c hc)
theorem vT(m:Nat):ox (dg m)=true:=by
 unfold ox
 rw [List.all_eq_true]
 intro c hc
 obtain⟨h1,h2⟩:=je m c hc
 have:c=48∨c=49∨c=50∨c=51∨c=52∨c=53∨c=54∨c=55∨c=56∨c=57:=by omega
 simpa using this
theorem si(n:Int):fU (i4 n)=dg n.natAbs:=by
 rcases Int.lt_or_le n 0 with h | h
 ·obtain⟨k,rfl⟩:∃k:Nat,n = -((k+1:Nat):Int):=⟨n.natAbs - 1,by omega⟩
  rw [i6]
  have e:(-((k+1:Nat):Int)).natAbs=k+1:=by omega
  rw [e]
  rfl
 ·obtain⟨m,rfl⟩:=Int.eq_ofNat_of_zero_le h
  rw [i5]
  unfold fU
  rw [if_neg]
  ·rfl
  ·intro e
   cases hd:dg m with
   | nil=>exact absurd hd (ou _)
   | cons a l=>
    rw [hd]at e
    have:a=45:=by simpa using e
    have:=je m a (by rw [hd];exact List.mem_cons_self)
    omega
theorem sv{n:Int}(h:n.natAbs < 10 ^ 40):oG (i4 n)=true:=by
 have hl:(dg n.natAbs).length≤40:=pY (by decide) h
 have hl0:1≤(dg n.natAbs).length:=by
  cases hd:dg n.natAbs with
  | nil=>exact absurd hd (ou _)
  | cons a l=>simp
 unfold oG
 rw [si,vT,decide_eq_true hl,decide_eq_true hl0]
 by_cases h0:n=0
 ·subst h0
  decide +kernel
 ·rw [decide_eq_true (vS n.natAbs (by omega))]
  rfl
theorem kA{n:Int}{k:Nat}(hk:1≤k)(h:n.natAbs < 10 ^ k):(i4 n).length≤k+1:=by
 rcases Int.lt_or_le n 0 with h1 | h1
 ·obtain⟨j,rfl⟩:∃k:Nat,n = -((k+1:Nat):Int):=⟨n.natAbs - 1,by omega⟩
  have e:(-((j+1:Nat):Int)).natAbs=j+1:=by omega
  rw [e]at h
  rw [i6,List.length_cons]
  have:=pY hk h
  omega
 ·obtain⟨m,rfl⟩:=Int.eq_ofNat_of_zero_le h1
  rw [i5]
  have:=pY hk (show m < 10 ^ k from h)
  omega
theorem rg{n:Int}(h:n.natAbs < 10 ^ 600):intText? (Str.ofString (toString n))=some n:=by
 have hl:=kA (by decide) h
 have hl2:(Str.ofString (toString n)).length≤4300:=by rw [aY];exact Nat.le_trans hl (by decide)
 rcases Int.lt_or_le n 0 with h1 | h1
 ·obtain⟨k,rfl⟩:∃k:Nat,n = -((k+1:Nat):Int):=⟨n.natAbs - 1,by omega⟩
  rw [PySem.intText_neg (cs:=dg (k+1)) (i6 k) (je _) (ou _) hl2]
  have:=PySem.W.KIN.val_back (k+1)
  unfold dg
  rw [this]
 ·obtain⟨m,rfl⟩:=Int.eq_ofNat_of_zero_le h1
  have e:(Str.ofString (toString ((m:Nat):Int))).cps.toList=dg m:=i5 m
  rw [PySem.intText_digits (by rw [e];exact je _) (by rw [e];exact ou _) hl2,e]
  have:=PySem.W.KIN.val_back m
  unfold dg
  rw [this]
def cZ(c:Nat):List (List Nat)→List Nat
 | []=>[]
 | p::r=>p++(r.map (c::·)).flatten
theorem mh(c:Nat):∀(l:List Str) (a:Array Nat),(l.foldl (fun acc p=>acc++(⟨#[c]⟩:Str).cps++p.cps) a).toList=a.toList++(l.map (fun p=>c::p.cps.toList)).flatten
 | [],a=>by simp
 | p::l,a=>by
  rw [List.foldl_cons,mh c l]
  simp
theorem kv(c:Nat)(ys:List Str):(Txt.join ⟨#[c]⟩ ys).cps.toList=cZ c (ys.map fun z=>z.cps.toList):=by
 unfold Txt.join Builtin.Str.glued
 cases ys with
 | nil=>rfl
 | cons p r=>
  show(r.foldl (fun acc p=>acc++(⟨#[c]⟩:Str).cps++p.cps) p.cps).toList=_
  rw [mh]
  simp [cZ,Function.comp_def]
theorem rL(c:Nat):∀(p:List Nat) (l:List Nat),c∉p→jv c (p++c::l)=p::jv c l
 | [],l,_=>by simp [jv]
 | a::p,l,h=>by
  have h1:a≠c:=fun e=>h (by rw [e];exact List.mem_cons_self)
  have h2:c∉p:=fun e=>h (List.mem_cons_of_mem _ e)
  rw [List.cons_append]
  simp only [jv,h1,if_false]
  rw [rL c p l h2]
theorem pE(c:Nat):∀(p:List Nat),c∉p→jv c p=[p]
 | [],_=>rfl
 | a::p,h=>by
  have h1:a≠c:=fun e=>h (by rw [e];exact List.mem_cons_self)
  have h2:c∉p:=fun e=>h (List.mem_cons_of_mem _ e)
  simp only [jv,h1,if_false]
  rw [pE c p h2]
theorem kY(c:Nat):∀(ps:List (List Nat)),ps≠[]→(∀p∈ps,c∉p)→jv c (cZ c ps)=ps
 | [],h,_=>absurd rfl h
 | [p],_,h=>by
  simp [cZ]
  exact pE c p (h p List.mem_cons_self)
 | p::q::r,_,h=>by
  have ih:=kY c (q::r) (by simp) (fun x hx=>h x (List.mem_cons_of_mem _ hx))
  have e:cZ c (p::q::r)=p++c::cZ c (q::r):=by simp [cZ]
  rw [e,rL c p _ (h p List.mem_cons_self),ih]
end L2
namespace L3
open PySem PySem.Spec PyProof.Rows
theorem gR(l:Bool)(a:Addr)(xs:Array Value):
  Meets (Builtin.«enumerate.__new__» ⟨[.type "enumerate",.ref a],[]⟩) (fun _ R s=>IsSeq l s.heap a xs∧
   R (.ok (.ret (.ref (s.heap.push (itRec l a)).objs.size))) { s with heap:=(s.heap.push (itRec l a)).push { cls:=.type "enumerate",data:=.fields #[.none,.bool false,.ref s.heap.objs.size,rawInt 0,.none,.none] } }):=
 .of_wp fun prog w A R s h=>by
  obtain⟨hp,g,d,tk,os⟩:=s;obtain⟨q1,h⟩:=h
  have hsub:=sub_enumerate
  have u1:IsSeq l (Shared.heap ⟨hp,g,d,tk,os⟩) a xs:=q1
  have tl:∃o,hp.get? a=some o:=by
   cases l
   ·obtain⟨o,e,_⟩:=(show hp.IsTuple a xs from q1);exact⟨o,e⟩
   ·obtain⟨o,e,_⟩:=(show hp.IsList a xs from q1);exact⟨o,e⟩
  obtain⟨ob,hl⟩:=tl
  obtain⟨c,dct,dt,sl⟩:=ob
  wp_walk using AutoSeq1.wpAny_loadPart' hl
  refine wpAny_stack_any fun st=>wpAny_pure ?_
  split
  ·rename_i c _ _ _ _ _
   cases(c == Value.type "enumerate")
   ·wp_walk using AutoSeq1.wpAny_loadPart' hl,gQ u1
    exact⟨_,rfl,h⟩
   ·wp_walk using AutoSeq1.wpAny_loadPart' hl,gQ u1
    exact⟨_,rfl,h⟩
  ·wp_walk using AutoSeq1.wpAny_loadPart' hl,gQ u1
   exact⟨_,rfl,h⟩
section
variable {prog:Program} {w:World} {A:Around} {E:Value→Shared→Prop} {s:Shared}
theorem call_enumerateB{l:Bool}{a:Addr}{xs:Array Value}{Q:Value→Shared→Prop}(hL:IsSeq l s.heap a xs)
  (h:∀h',IsEnum h' (s.heap.objs.size+1) s.heap.objs.size 0 .none→h'.get? s.heap.objs.size=some (itRec l a)→h'.objs.size=s.heap.objs.size+2→
   (∀b o,s.heap.get? b=some o→h'.get? b=some o)→Q (.ref (s.heap.objs.size+1)) { s with heap:=h' }) :
  wpAny (model prog w) A (call (.type "enumerate") [.ref a]) Q E s:=by
 refine callType_new F.called_enumerate (by decide) (F.typeCall_enumerate_1 _) (F.newCall_enumerate_1 _) (fun obj=>F.args_object_init_2 obj _) F.entry_enumerate_new
  (gR l a xs) ⟨hL,?_⟩
 have hz:(s.heap.push (itRec l a)).objs.size=s.heap.objs.size+1:=Heap.size_push ..
 show _∧_
 rw [hz]
 have he:IsEnum ((s.heap.push (itRec l a)).push
   { cls:=.type "enumerate",data:=.fields #[.none,.bool false,.ref s.heap.objs.size,rawInt 0,.none,.none] }) (s.heap.objs.size+1) s.heap.objs.size 0 .none:=by
  have:=Heap.get?_push_size (s.heap.push (itRec l a))
   (o:={ cls:=.type "enumerate",data:=.fields #[.none,.bool false,.ref s.heap.objs.size,rawInt 0,.none,.none] }) rfl
  rw [hz]at this;exact this
 refine⟨⟨_,he,rfl⟩,h _ he (Heap.get?_push_of_some _ (Heap.get?_push_size _ rfl)) (by rw [Heap.size_push,hz]) fun b o x=>Heap.get?_push_of_some _ (Heap.get?_push_of_some _ x)⟩
end
end L3
namespace L2
open PySem PySem.Spec PyProof.Rows
def Aj(K:PySem.W.Frag)(l:Bool)(a:Addr):It:=
 ⟨fun i H=>∃xs x,jx K l H a xs∧xs[i]?=some x,
  fun i H v H'=>∃p x,v=.ref p∧H p=none∧H'=upd H p (.tup [.int i,x])∧∀xs,jx K l H a xs→xs[i]?=some x,
  fun i H=>∃xs,jx K l H a xs∧i=xs.length⟩
theorem qM{P:Program}{w:World}{K:PySem.W.Frag}{elts:List Expr}{kt:Nat}{pt:Pos}(l:Bool)(a z it:Addr)(nd:z≠it):
  lH P w K (.Tuple elts kt pt) (Aj K l a) [z,it] z (fun i h=>(∃old,IsEnum h z it ((i:Nat):Int) old)∧iR l h it a i):=by
 refine⟨by simp,?_,?_,?_,?_,?_⟩
 ·rintro i h ⟨⟨old,qz⟩,u⟩ c hc
  have hc':c=z∨c=it:=by simpa using hc
  rcases hc' with e | e
  ·subst e;exact⟨_,qz,fun v q=>by cases q⟩
  ·subst e
   exact u.obj
 ·rintro i h h' ⟨⟨old,qz⟩,u⟩ k
  exact⟨⟨old,k z (by simp) _ qz⟩,u.at fun o e=>k it (by simp) o e⟩
 ·rintro X hP hw hK hc i pins s σ H E I hf ⟨⟨old,qz⟩,u⟩ ⟨xs,x,q1,hx⟩
  subst hP hw hK
  have hh:X.A.in1.handled=none:=I.ok.hd hc
  obtain⟨its,r1,p1,z1⟩:=I.seqB q1
  have na:a≠it:=I.seqB_ne q1 (hf it (by simp))
  have nz:a≠z:=I.seqB_ne q1 (hf z (by simp))
  have lx:i < its.toArray.size:=by
   have:=(List.getElem?_eq_some_iff.mp hx).1
   rw [List.size_toArray,←r1.length];exact this
  have hef:z∉[it,a]:=by
   simp only [List.mem_cons,List.not_mem_nil,or_false,not_or]
   exact⟨nd,nz.symm⟩
  refine wpAny_pyNext_enum_itemD (ff (P:=X.prog) (w:=X.w) hh l it a na its.toArray) qz ⟨u,p1⟩ lx nd hef fun v h' tk ev z' s' pr sz kk=>?_
  obtain⟨w1,g1,rx⟩:=r1.get hx
  have ev1:v=w1:=by
   have:its[i]?=some v:=by simpa using ev
   rw [g1]at this;exact(Option.some.inj this).symm
  subst ev1
  refine⟨_,rfl,wpAny_letOwnedTupleGo_enum (s:={ s with heap:=h',toks:=tk+1 }) z' fun h2 z2 sb=>?_⟩
  have fz:s.heap.objs.size≠z:=Nat.ne_of_gt (Heap.lt_size qz)
  have Hn:H s.heap.objs.size=none:=I.hok.fresh (Nat.le_refl _)
  have kp:∀c o,c∉[z,it]→s.heap.get? c=some o→h2.get? c=some o:=fun c o hc e=>by
   have hc':c≠z∧c≠it:=by simpa [not_or]using hc
   exact(sb.2 c hc'.1).trans (kk c o hc'.1 hc'.2 e)
  have nf:∀{c:Addr} {u:HO},H c=some u→c∉[z,it]:=fun {c u} e hc=>by
   have:=(hf c hc).1
   rw [e]at this;cases this
  have pr2:h2.get? s.heap.objs.size=some { cls:=.type "tuple",data:=.seq #[.int i tk,v] }:=(sb.2 _ fz).trans pr
  have I2:av X pins σ (upd H s.heap.objs.size (.tup [.int i,x])) { s with heap:=h2,toks:=tk+1 }:=by
   refine I.step (g':=s.gens) (d':=s.drawn) (ch:=[z,it]) (fun c hc=>⟨(hf c hc).2.2.2.1,(hf c hc).2.1,(hf c hc).2.2.2.2.1,(hf c hc).2.2.2.2.2⟩) (fun c o _ _ hc e _=>kp c o hc e) (fun c o _ _ hc e _=>⟨o.slots,kp c o hc e⟩)
    (fun c o _ e n=>by rw [ai (Nat.ne_of_lt (Heap.lt_size e))];exact n) (fun c o hc e=>⟨o,kp c o hc e⟩) (fun c us e=>by rw [ai (aj e Hn)];exact e) (fun c o u e=>by rw [ai (aj e Hn)];exact e)
    (fun c ps e=>⟨#[],by rw [ai (aj e Hn),e];simp⟩) (fun m hm=>?_) (fun c u e=>?_) I.bare
   ·obtain⟨o,es,ep,ho,r⟩:=hm
    exact⟨o,es,ep,kp _ o (fun q=>(hf _ q).2.1 rfl) ho,r⟩
   ·by_cases hcs:c=s.heap.objs.size
    ·subst hcs
     rw [ae]at e
     cases e
     exact⟨by rw [sizeLine_eq];show 2≤16777216;omega,[.int i tk,v],.cons ⟨_,rfl⟩ (.cons rx .nil),_,pr2,rfl,_,rfl⟩
    ·rw [ai hcs]at e
     refine(I.hok c u e).stay (fun d o hd q=>kp d o ?_ q) (fun d q=>by rw [ai (aj q Hn)];exact q) fun d us q=>by rw [ai (aj q Hn)];exact q
     rcases hd with hd | hd
     ·rw [hd];exact nf e
     ·exact nf hd
  refine⟨.ref s.heap.objs.size,_,I2,rfl,⟨_,x,rfl,Hn,rfl,fun us hu=>by rw [I.seqB_inj hu q1];exact hx⟩,⟨⟨v,?_⟩,?_⟩,fun c hc=>?_⟩
  ·have e:(((i+1:Nat)):Int)=(i:Int)+1:=by omega
   rw [e];exact z2
  ·exact s'.1.at fun o e=>(sb.2 _ nd.symm).trans e
  ·show upd H s.heap.objs.size (.tup [.int i,x]) c=none
   have lt:c < s.heap.objs.size:=by
    have hc':c=z∨c=it:=by simpa using hc
    rcases hc' with e | e
    ·subst e;exact Heap.lt_size qz
    ·subst e;obtain⟨o,e,_⟩:=u.obj;exact Heap.lt_size e
   rw [ai (Nat.ne_of_lt lt)]
   exact(hf c hc).1
 ·rintro X hP hw hK hc i pins s σ H E I hf ⟨⟨old,qz⟩,u⟩ ⟨xs,q1,hend⟩
  subst hP hw hK
  have hh:X.A.in1.handled=none:=I.ok.hd hc
  obtain⟨its,r1,p1,z1⟩:=I.seqB q1
  have na:a≠it:=I.seqB_ne q1 (hf it (by simp))
  have ei:i=its.toArray.size:=by rw [List.size_toArray,←r1.length];exact hend
  subst ei
  obtain⟨f0,f1,f2,f3,f4,f5⟩:=hf it (by simp)
  exact wpAny_pyNext_enum_endD (ff (P:=X.prog) (w:=X.w) hh l it a na its.toArray) qz ⟨u,p1⟩ fun h' k=>⟨rfl,I.turned (t':=s.toks) (fun b o hb e=>k b o hb e) f0 f1 f3 f4 f5⟩
 ·rintro A i s Q E ⟨⟨old,qz⟩,_⟩ h
  exact wpAny_pyIter_enum qz h
def eO(K:PySem.W.Frag)(ta:TA):TI:=fun σ H R=>ta σ H fun vs H1=>∃a,vs=[.ref a]∧∃l,(∃xs,jx K l H1 a xs)∧R (Aj K l a) H1
theorem pb{X:Cx}{elts:List Expr}{kt:Nat}{pt:Pos}{a:Expr}{ta:TA}{p pos:Pos}(hg:Gl X "enumerate")(hm:X.mg "enumerate"=none)(ha:PA X [a] ta)(hs:starEach [a] X.env=[(false,eval a X.env)]:=by rfl):
  PI X (.Tuple elts kt pt) (.Call (.Name "enumerate" p) [a] [] pos) (eO X.K ta):=by
 intro pins s σ H R I h
 refine Call_ (dS I hg hm boot_enumerate (PyProof.Rows.callWith_type1 (cj (ha pos pins s σ H _ I h) fun us s1 ⟨vs,H1,I1,r1,q1⟩=>?_) hs rfl))
 obtain⟨a1,e,l,⟨xs,q1⟩,q⟩:=q1
 subst e
 obtain⟨u,rfl,e1⟩:=eM r1
 cases e1
 obtain⟨its1,r1,p1,z1⟩:=I1.seqB q1
 refine L3.call_enumerateB p1 fun h' qz qI sz kp=>wpAny_pyIter_enum qz ?_
 refine⟨s1.heap.objs.size+1,[s1.heap.objs.size+1,s1.heap.objs.size],_,_,H1,rfl,I1.kept (h':=h') (t':=s1.toks) kp,qM l a1 _ _ (Nat.succ_ne_self _),⟨⟨_,qz⟩,iR.rec qI⟩,fun c hc=>?_,q⟩
 have hc':s1.heap.objs.size≤c:=by
  have:c=s1.heap.objs.size+1∨c=s1.heap.objs.size:=by simpa using hc
  rcases this with e | e<;>(rw [e];first | exact Nat.le_refl _ | exact Nat.le_add_right _ _)
 exact I1.fpOk hc' (I1.hok.fresh hc')
theorem ky{g:TG}{tb:TS}{D:gD}{σ:St}{H:Hp}{K:PySem.W.Frag}{l:Bool}{a:Addr}{us:List V}(Pv:Nat→St→Hp→Prop)(h0:Pv 0 σ H)(hl:∀i σ H,i≤us.length→Pv i σ H→jx K l H a us)
  (hs:∀i x σ H p,us[i]?=some x→Pv i σ H→H p=none→g (.ref p) σ (upd H p (.tup [.int i,x])) fun σ2 H2=>tb { D with nx:=Pv (i+1),ct:=Pv (i+1),bk:=D.nx } σ2 H2) (hd:∀σ H,Pv us.length σ H→D.nx σ H):tS g tb D σ (Aj K l a) H:=by
 refine⟨fun i m σ H=>m=us.length - i∧i≤us.length∧Pv i σ H,⟨us.length,by simp,Nat.zero_le _,h0⟩,?_⟩
 rintro i m σ H ⟨rfl,hi,p⟩
 have q1:=hl i σ H hi p
 by_cases hlt:i < us.length
 ·refine .inr ⟨⟨us,us[i],q1,by simp [hlt]⟩,Pv (i+1),fun σ' H' p'=>⟨us.length - (i+1),by omega,rfl,hlt,p'⟩,fun x H' y=>?_⟩
  obtain⟨pp,u,e,hp,e2,y1⟩:=y
  subst e e2
  exact hs i u σ H pp (y1 us q1) p hp
 ·have e:i=us.length:=by omega
  subst e
  exact .inl ⟨⟨us,q1,rfl⟩,hd σ H p⟩
structure yZ(K:PySem.W.Frag)(x qual:Str)(st:Stmt)(f:Addr)(fd:FuncData)(T:Addr):Prop where
 ex:∃(oc:Value) (od:Option Addr) (kV doc pm:Value) (an:Option Addr) (cdv ct:Value) (osl:Array (Option Value)),
  fd=PySem.W.fnOf x qual (dI st) (dv st) (ar st) (.ref T) kV doc pm an cdv ct∧K.lookup f=some ⟨oc,od,.func fd,osl⟩∧PySem.W.codeIn K cdv qual=true
 kp:PySem.W.keepIn K (.ref f)=true
section
variable {P:Program} {w:World} {K:PySem.W.Frag} {mg:Str→Option Value} {base:Heap}
end
section
variable {X:Cx} {k:Nat} {ps:List Str} {sp:Sp} {x:Str} {p pos:Pos} {e:Expr} {es:List Expr} {t:TA} {dvs:List V}
end
theorem yZ.binds{K:PySem.W.Frag}{x qual:Str}{st:Stmt}{f T:Addr}{fd:FuncData}{ps:List Str}(F:yZ K x qual st f fd T){o:Obj}{u:Value}{n:Nat}(t:K.lookup T=some o)(d:o.data=.seq #[u] n)
  (h:∀(kV doc pm:Value) (an:Option Addr) (cdv ct:Value) (us:List Value),us.length=ps.length→
   ∃k:Option (Array Value)→Sem (List (Str×Value)),bindArgs (PySem.W.fnOf x qual (dI st) (dv st) (ar st) (.ref T) kV doc pm an cdv ct) ⟨us,[]⟩=seqItems? (.ref T) >>= k∧k (some #[u])=pure (ps.zip us)):eG K fd ps []:=by
 obtain⟨oc,od,kV,doc,pm,an,cdv,ct,osl,rfl,lk,hcd⟩:=F.ex
 intro s us X hl
 rw [List.append_nil]at hl ⊢
 obtain⟨k,h1,h2⟩:=h kV doc pm an cdv ct us hl
 exact BindsTo.of_defaults (T:=T) rfl (X _ _ t) d h1 h2
end L2
namespace L2
open PySem PySem.Spec PyProof.Rows
def n0(K:PySem.W.Frag)(H:Hp):Nat→V→V→Bool→Prop
 | 0,x,y,b=>(fO x=true∧fO y=true∧b=vB x y)∨∃a,x=.ref a∧y=.ref a∧b=true
 | n+1,x,y,b=>n0 K H 0 x y b∨∃(a c:Addr) (l:Bool) (xs ys:List V) (e:Nat→Bool),x=.ref a∧y=.ref c∧a≠c∧jx K l H a xs∧jx K l H c ys∧
   (∀j x y,xs[j]?=some x→ys[j]?=some y→n0 K H n x y (e j))∧b=((List.range (min xs.length ys.length)).all e && xs.length == ys.length)
theorem n0.same{K:PySem.W.Frag}{H:Hp}{n:Nat}{a:Addr}:n0 K H n (.ref a) (.ref a) true:=by
 cases n
 ·unfold n0;exact .inr ⟨a,rfl,rfl,rfl⟩
 ·unfold n0;refine .inl ?_;unfold n0;exact .inr ⟨a,rfl,rfl,rfl⟩
section
variable {X:Cx} {pins:List (Addr×Obj)} {σ:St} {H:Hp} {s:Shared}
theorem f7{xs:List V}{us:List Value}(r:aA xs us){j:Nat}(h:j < us.toArray.size):∃x,xs[j]?=some x∧aK x us.toArray[j]:=by
 have l1:=r.length
 simp only [List.size_toArray]at h
 have hx:j < xs.length:=by omega
 obtain⟨u,e1,r1⟩:=aA.get r (i:=j) (x:=xs[j]) (by simp [hx])
 have g1:us.toArray[j]=u:=by simpa [h]using e1
 exact⟨xs[j],by simp [hx],by rw [g1];exact r1⟩
theorem vb{A:Around}{l:Bool}{a c:Addr}{xs ys:List V}{us vs:List Value}{e:Nat→Bool}(rx:aA xs us)(ry:aA ys vs)(p1:L3.IsSeq l s.heap a us.toArray)(p2:L3.IsSeq l s.heap c vs.toArray)(hu:A.units < cLine)
  (he:∀j (h1:j < us.toArray.size) (h2:j < vs.toArray.size),SeqAt.EqAt A.in1 s us.toArray[j] vs.toArray[j] (e j)):SeqAt.RcAt A s (.ref a) (.ref c) ((List.range (min xs.length ys.length)).all e && xs.length == ys.length):=by
 have s1:us.toArray.size=xs.length:=by rw [List.size_toArray,rx.length]
 have s2:vs.toArray.size=ys.length:=by rw [List.size_toArray,ry.length]
 cases l
 ·have:=SeqAt.RcAt.tuples (show s.heap.IsTuple a us.toArray from p1) (show s.heap.IsTuple c vs.toArray from p2) hu he
  rw [s1,s2]at this
  exact this
 ·by_cases hl:xs.length=ys.length
  ·have:=SeqAt.RcAt.lists (show s.heap.IsList a us.toArray from p1) (show s.heap.IsList c vs.toArray from p2) (by rw [s1,s2,hl]) hu he
   rw [s1]at this
   rw [hl,Nat.min_self,beq_self_eq_true,Bool.and_true,←hl]
   exact this
  ·have:=SeqAt.RcAt.lists_lengths (show s.heap.IsList a us.toArray from p1) (show s.heap.IsList c vs.toArray from p2) (by rw [s1,s2];simpa using hl) hu
   rw [show(xs.length == ys.length)=false by simpa using hl,Bool.and_false]
   exact this
theorem vc{A:Around}{l:Bool}{a c:Addr}{xs ys:List V}{us vs:List Value}{e:Nat→Bool}(rx:aA xs us)(ry:aA ys vs)(p1:L3.IsSeq l s.heap a us.toArray)(p2:L3.IsSeq l s.heap c vs.toArray)(hu:A.units < cLine)
  (he:∀j (h1:j < us.toArray.size) (h2:j < vs.toArray.size),SeqAt.EqAt A.in1 s us.toArray[j] vs.toArray[j] (e j)):SeqAt.RcNeAt A s (.ref a) (.ref c) (!((List.range (min xs.length ys.length)).all e && xs.length == ys.length)):=by
 have s1:us.toArray.size=xs.length:=by rw [List.size_toArray,rx.length]
 have s2:vs.toArray.size=ys.length:=by rw [List.size_toArray,ry.length]
 cases l
 ·have:=SeqAt.RcNeAt.tuples (show s.heap.IsTuple a us.toArray from p1) (show s.heap.IsTuple c vs.toArray from p2) hu he
  rw [s1,s2]at this
  exact this
 ·by_cases hl:xs.length=ys.length
  ·have:=SeqAt.RcNeAt.lists (show s.heap.IsList a us.toArray from p1) (show s.heap.IsList c vs.toArray from p2) (by rw [s1,s2,hl]) hu he
   rw [s1]at this
   rw [hl,Nat.min_self,beq_self_eq_true,Bool.and_true,←hl]
   exact this
  ·have:=SeqAt.RcNeAt.lists_lengths (show s.heap.IsList a us.toArray from p1) (show s.heap.IsList c vs.toArray from p2) (by rw [s1,s2];simpa using hl) hu
   rw [show(xs.length == ys.length)=false by simpa using hl,Bool.and_false]
   exact this
theorem n0.at(I:av X pins σ H s):∀{n:Nat} {A:Around} {x y:V} {u v:Value} {b:Bool},A.units+n < cLine→aK x u→aK y v→n0 X.K H n x y b→SeqAt.EqAt A s u v b:=by
 have z0:∀{A:Around} {x y:V} {u v:Value} {b:Bool},aK x u→aK y v→n0 X.K H 0 x y b→SeqAt.EqAt A s u v b:=by
  intro A x y u v b rx ry h
  unfold n0 at h
  rcases h with⟨fx,fy,rfl⟩ | ⟨a,rfl,rfl,rfl⟩
  ·exact t8 rx ry fx fy
  ·cases rx;cases ry;exact SeqAt.EqAt.same _
 intro n
 induction n with
 | zero=>intro A x y u v b _ rx ry h;exact z0 rx ry h
 | succ n ih=>
  intro A x y u v b hu rx ry h
  unfold n0 at h
  rcases h with h | ⟨a,c,l,xs,ys,e,rfl,rfl,ne,h1,h2,he,rfl⟩
  ·exact z0 rx ry h
  ·cases rx;cases ry
   obtain⟨us,r1,p1,_⟩:=I.seqB h1
   obtain⟨vs,r2,p2,_⟩:=I.seqB h2
   refine SeqAt.EqAt.of_refs ne (vb r1 r2 p1 p2 (by omega) fun j j1 j2=>?_)
   obtain⟨x,ex,rx⟩:=f7 r1 j1
   obtain⟨y,ey,ry⟩:=f7 r2 j2
   exact ih (A:=A.in1) (by show A.units+1+n < cLine;omega) rx ry (he j x y ex ey)
def xn(K:PySem.W.Frag)(H:Hp)(n:Nat)(x y:V)(b:Bool):Prop:=∃(a c:Addr) (l:Bool) (xs ys:List V) (e:Nat→Bool),x=.ref a∧y=.ref c∧jx K l H a xs∧jx K l H c ys∧
 (∀j x y,xs[j]?=some x→ys[j]?=some y→n0 K H n x y (e j))∧b=((List.range (min xs.length ys.length)).all e && xs.length == ys.length)
theorem yi(n:Nat)(hu:X.A.units+n+1 < cLine):dq X (compareOp .Eq) (fun x y H Q=>∃b,xn X.K H n x y b∧Q (.bl b) H):=by
 intro pins s σ H x y v u Q I rx ry h
 obtain⟨b,⟨a,c,l,xs,ys,e,rfl,rfl,h1,h2,he,rfl⟩,q⟩:=h
 cases rx;cases ry
 obtain⟨us,r1,p1,_⟩:=I.seqB h1
 obtain⟨vs,r2,p2,_⟩:=I.seqB h2
 refine vb (A:=X.A) r1 r2 p1 p2 (by omega) (fun j j1 j2=>?_) X.prog X.w X.xe _ (aN I q rfl)
 obtain⟨x,ex,rx⟩:=f7 r1 j1
 obtain⟨y,ey,ry⟩:=f7 r2 j2
 exact n0.at I (A:=X.A.in1) (by show X.A.units+1+n < cLine;omega) rx ry (he j x y ex ey)
theorem yj(n:Nat)(hu:X.A.units+n+1 < cLine):dq X (compareOp .NotEq) (fun x y H Q=>∃b,xn X.K H n x y b∧Q (.bl (!b)) H):=by
 intro pins s σ H x y v u Q I rx ry h
 obtain⟨b,⟨a,c,l,xs,ys,e,rfl,rfl,h1,h2,he,rfl⟩,q⟩:=h
 cases rx;cases ry
 obtain⟨us,r1,p1,_⟩:=I.seqB h1
 obtain⟨vs,r2,p2,_⟩:=I.seqB h2
 refine vc (A:=X.A) r1 r2 p1 p2 (by omega) (fun j j1 j2=>?_) X.prog X.w X.xe _ (aN I q rfl)
 obtain⟨x,ex,rx⟩:=f7 r1 j1
 obtain⟨y,ey,ry⟩:=f7 r2 j2
 exact n0.at I (A:=X.A.in1) (by show X.A.units+1+n < cLine;omega) rx ry (he j x y ex ey)
def iF(K:PySem.W.Frag):R2:=fun x y H Q=>my x y H Q∨∃b,xn K H 4 x y b∧Q (.bl b) H
def iG(K:PySem.W.Frag):R2:=fun x y H Q=>mz x y H Q∨∃b,xn K H 4 x y b∧Q (.bl (!b)) H
theorem zj{A:Around}{k:Nat}(hr:dz k A):A.units+4+1 < cLine:=Nat.lt_of_le_of_lt (Nat.add_le_add_left (by decide:5≤64) _) hr.units
theorem zx(K:PySem.W.Frag)(hu:X.A.units+4+1 < cLine)(h:X.K=K:=by rfl):dq X (compareOp .Eq) (iF K):=h▸opEq.or (yi 4 hu)
theorem zE(K:PySem.W.Frag)(hu:X.A.units+4+1 < cLine)(h:X.K=K:=by rfl):dq X (compareOp .NotEq) (iG K):=h▸opNe.or (yj 4 hu)
end
theorem rEqC_ii{K:PySem.W.Frag}{i j:Int}{H:Hp}{Q:VK}:iF K (.int i) (.int j) H Q↔Q (.bl (decide (i=j))) H:=by simp [iF,rEq_ii,xn]
theorem rG{K:PySem.W.Frag}{i j:Int}{H:Hp}{Q:VK}:iG K (.int i) (.int j) H Q↔Q (.bl (!decide (i=j))) H:=by simp [iG,nH,xn]
theorem rE{K:PySem.W.Frag}{i j:Str}{H:Hp}{Q:VK}:iF K (.str i) (.str j) H Q↔Q (.bl (decide (i=j))) H:=by simp [iF,nF,xn]
theorem rH{K:PySem.W.Frag}{i j:Str}{H:Hp}{Q:VK}:iG K (.str i) (.str j) H Q↔Q (.bl (!decide (i=j))) H:=by simp [iG,nI,xn]
theorem xt(K:PySem.W.Frag):tN (iF K)=iF K:=uo (fun _ _ _ _=>rEqC_ii) (fun _ _ _ _=>rE)
theorem xv(K:PySem.W.Frag):tO (iG K)=iG K:=ur (fun _ _ _ _=>rG) (fun _ _ _ _=>rH)
theorem xU{K:PySem.W.Frag}{x y:V}{H:Hp}{Q:VK}:tN (iF K) x y H Q↔iF K x y H Q:=by rw [xt]
theorem xW{K:PySem.W.Frag}{x y:V}{H:Hp}{Q:VK}:tO (iG K) x y H Q↔iG K x y H Q:=by rw [xv]
theorem yb{X:Cx}(K:PySem.W.Frag)(hu:X.A.units+4+1 < cLine)(h:X.K=K:=by rfl):dq X (compareOp .Eq) (tN (iF K)):=by rw [xt];exact zx K hu h
theorem zt{X:Cx}(K:PySem.W.Frag)(hu:X.A.units+4+1 < cLine)(h:X.K=K:=by rfl):dq X (compareOp .NotEq) (tO (iG K)):=by rw [xv];exact zE K hu h
end L2
namespace L2
open PySem PySem.Spec PyProof.Rows
structure Ai(P:Program)(w:World)(K:PySem.W.Frag)(mg:Str→Option Value)(base:Heap)(k:Nat)(f:Addr)(ps:List Str)(sp:Sp):Prop where
 ex:∃fd:FuncData,bj P w K mg base fK k f fd ps sp∧PySem.W.keepIn K (.ref f)=true∧eG K fd ps []
structure cK(P:Program)(w:World)(K:PySem.W.Frag)(mg:Str→Option Value)(base:Heap)(C:Addr)(m:Str)(k:Nat)(ps:List Str)(sp:Sp):Prop where
 cl:tJ K C
 ex:∃(f:Addr) (fd:FuncData),xI K C m f∧bj P w K mg base fK k f fd ps sp∧eG K fd ps []
structure xk(K:PySem.W.Frag)(C:Addr)(m:Str)(f:Addr):Prop where
 rd:PySem.W.readsIn K C (.type "type")=true
 at_:PySem.W.findCls K (.ref C) (.type "type") m=some (.val (.ref f))
 ga:PySem.W.specialIn K (.ref C) "__getattribute__"=some (some (.builtin "type.__getattribute__"))
 kp:PySem.W.keepIn K (.ref f)=true
structure pL(P:Program)(w:World)(K:PySem.W.Frag)(mg:Str→Option Value)(base:Heap)(x m:Str)(k:Nat)(ps:List Str)(sp:Sp):Prop where
 ex:∃(C f:Addr) (fd:FuncData),mg x=some (.ref C)∧xk K C m f∧bj P w K mg base fK k f fd ps sp∧eG K fd ps []
structure mQ(P:Program)(w:World)(K:PySem.W.Frag)(mg:Str→Option Value)(base:Heap)(x:Str)(C:Addr)(k:Nat)(ps:List Str)(sp:Sp):Prop where
 ex:∃(f:Addr) (fd:FuncData),Mk K C f∧bj P w K mg base fK k f fd ps sp∧mg x=some (.ref C)∧eG K fd ps []
section
variable {P:Program} {w:World} {K:PySem.W.Frag} {mg:Str→Option Value} {base:Heap} {j k:Nat} {ps:List Str} {sp:Sp} {x m:Str} {C f:Addr}
theorem cK.up(d:cK P w K mg base C m j ps sp)(h:j≤k):cK P w K mg base C m k ps sp:=let ⟨f,fd,a,F,c⟩:=d.ex;⟨d.cl,f,fd,a,F.mono h,c⟩
theorem pL.up(d:pL P w K mg base x m j ps sp)(h:j≤k):pL P w K mg base x m k ps sp:=let ⟨C,f,fd,a,b,F,c⟩:=d.ex;⟨C,f,fd,a,b,F.mono h,c⟩
theorem mQ.up(d:mQ P w K mg base x C j ps sp)(h:j≤k):mQ P w K mg base x C k ps sp:=let ⟨f,fd,a,F,b,c⟩:=d.ex;⟨f,fd,a,F.mono h,b,c⟩
end
def eA(P:Program)(w:World)(K:PySem.W.Frag)(mg:Str→Option Value)(base:Heap)(k:Nat)(m:Str)(ta:TE)(t:TA):TE:=fun σ H Q=>ta σ H fun x H1=>∃(a C dx:Addr) (fs:List (Str×V)) (ps:List Str) (sp:Sp),
 x=.ref a∧H1 a=some (.ins C dx fs)∧fs.lookup m=none∧cK P w K mg base C m k ps sp∧t σ H1 fun vs H2=>sp (x::vs) H2 Q E0
def fF(P:Program)(w:World)(K:PySem.W.Frag)(mg:Str→Option Value)(base:Heap)(k:Nat)(tf:TE)(t:TA):TE:=fun σ H Q=>tf σ H fun x H1=>∃(f:Addr) (ps:List Str) (sp:Sp),
 x=.ref f∧Ai P w K mg base k f ps sp∧t σ H1 fun vs H2=>sp vs H2 Q E0
section
variable {X:Cx} {k:Nat} {f C:Addr} {fd:FuncData} {ps:List Str} {sp:Sp} {x m:Str} {p pos apos:Pos} {e o:Expr} {es:List Expr} {ta:TE} {t:TA}
theorem gW(P:Program)(w:World)(K:PySem.W.Frag)(mg:Str→Option Value)(base:Heap){pl:Sem Bool}(hr:dz k X.A)(he:PE X o ta)(ha:PA X (e::es) t)(e1:X.prog=P:=by rfl)(e2:X.w=w:=by rfl)(e3:X.K=K:=by rfl)(e4:X.mg=mg:=by rfl)(e5:X.base=base:=by rfl)
  (hst:starEach (e::es) X.env=(false,eval e X.env)::starEach es X.env:=by rfl) (hpl:(backTo pos (starEach es X.env)).any (·.1)=false:=by rfl)
  (ht:eval (.Call (.Attribute o m apos) (e::es) [] pos) X.env=(do
   let ov ←eval o X.env
   standAt apos.atName
   let (f,first) ←holding [ov] (getMethod ov m pl)
   callWith pos f first (backTo pos (starEach (e::es) X.env)) (backToKw pos (keywordEach [] X.env))):=by rfl) :
  PE X (.Call (.Attribute o m apos) (e::es) [] pos) (eA P w K mg base k m ta t):=by
 subst e1 e2 e3 e4 e5
 intro pins s σ H Q I h
 refine PySem.W.methodCall_KW (pl:=pl) (cj (he pins s σ H _ I h) fun u s1 ⟨x,H1,I1,rx,a,C,dx,fs,ps,sp,ex,ea,l,M,q⟩=>?_) ht
 subst ex
 obtain rfl:u=Value.ref a:=rx
 obtain⟨f,fd,hm,F,hb⟩:=M.ex
 refine kn I1 ea M.cl hm l ?_
 refine PySem.W.callWith_K (first:=[.ref a]) (h₀:=X.base) I.ok.mod.kin hm.kp (cj (ha pos pins s1 σ H1 _ I1 q) fun us s2 ⟨vs,H2,I2,r,q2⟩=>⟨I2.kIn,?_⟩) hst hpl
 exact nL (us:=.ref a::us) (vs:=.ref a::vs) (dvs:=[]) (E:=E0) F hr hb .nil oW I2 (.cons rfl r) (by rw [List.append_nil];exact q2)
theorem ij(P:Program)(w:World)(K:PySem.W.Frag)(mg:Str→Option Value)(base:Heap){pl:Sem Bool}(hr:dz k X.A)(he:PE X o ta)(e1:X.prog=P:=by rfl)(e2:X.w=w:=by rfl)(e3:X.K=K:=by rfl)(e4:X.mg=mg:=by rfl)(e5:X.base=base:=by rfl)
  (ht:eval (.Call (.Attribute o m apos) [] [] pos) X.env=(do
   let ov ←eval o X.env
   standAt apos.atName
   let (f,first) ←holding [ov] (getMethod ov m pl)
   callWith pos f first (backTo pos (starEach [] X.env)) (backToKw pos (keywordEach [] X.env))):=by rfl) :
  PE X (.Call (.Attribute o m apos) [] [] pos) (eA P w K mg base k m ta fe):=by
 subst e1 e2 e3 e4 e5
 intro pins s σ H Q I h
 refine PySem.W.methodCall_KW (pl:=pl) (cj (he pins s σ H _ I h) fun u s1 ⟨x,H1,I1,rx,a,C,dx,fs,ps,sp,ex,ea,l,M,q⟩=>?_) ht
 subst ex
 obtain rfl:u=Value.ref a:=rx
 obtain⟨f,fd,hm,F,hb⟩:=M.ex
 refine kn I1 ea M.cl hm l ?_
 exact PySem.W.callWith_K0 (first:=[.ref a]) I1.kIn hm.kp (nL (us:=[.ref a]) (vs:=[.ref a]) (dvs:=[]) (E:=E0) F hr hb .nil oW I1 (.cons rfl .nil) q)
theorem uQ{pl:Sem Bool}(d:pL X.prog X.w X.K X.mg X.base x m k ps sp)(hr:dz k X.A)(hg:Gl X x)(ha:PA X (e::es) t)(hdb:(x == ("__debug__":Str))=false:=by decide)
  (hst:starEach (e::es) X.env=(false,eval e X.env)::starEach es X.env:=by rfl) (hpl:(backTo pos (starEach es X.env)).any (·.1)=false:=by rfl)
  (ht:eval (.Call (.Attribute (.Name x p) m apos) (e::es) [] pos) X.env=(do
   let ov ←eval (.Name x p) X.env
   standAt apos.atName
   let (f,first) ←holding [ov] (getMethod ov m pl)
   callWith pos f first (backTo pos (starEach (e::es) X.env)) (backToKw pos (keywordEach [] X.env))):=by rfl) :
  PE X (.Call (.Attribute (.Name x p) m apos) (e::es) [] pos) (cE sp [] E0 t):=by
 obtain⟨C,f,fd,hm,c,F,hb⟩:=d.ex
 intro pins s σ H Q I h
 refine PySem.W.methodCall_KW (pl:=pl) (jY I hg hm ?_ hdb) ht
 refine PySem.W.method_cls I.kIn c.ga (PySem.W.cls_value I.kIn c.rd c.at_ rfl ?_)
 have I1:=I.tok (s.toks+1)
 refine PySem.W.callWith_K (first:=[]) (h₀:=X.base) I.ok.mod.kin c.kp (cj (ha pos pins _ σ H _ I1 h) fun us s2 ⟨vs,H2,I2,r,q2⟩=>⟨I2.kIn,?_⟩) hst hpl
 exact nL (us:=us) (vs:=vs) F hr hb .nil oW I2 r q2
theorem xD(d:mQ X.prog X.w X.K X.mg X.base x C k ps sp)(hr:dz (k+1) X.A)(hg:Gl X x)(ha:PA X (e::es) t)(hdb:(x == ("__debug__":Str))=false:=by decide)
  (he:starEach (e::es) X.env=(false,eval e X.env)::starEach es X.env:=by rfl) (hpl:(backTo pos (starEach es X.env)).any (·.1)=false:=by rfl) :
  PE X (.Call (.Name x p) (e::es) [] pos) (fZ C sp [] E0 t):=
 let ⟨_,_,M,F,hm,hb⟩:=d.ex;wL M F hr hg hm hb .nil oW ha hdb he hpl
end
def za(K:PySem.W.Frag)(a:Addr)(D:List (Str×V)):Prop:=(a == sysModules)=false∧∃o es ep,K.lookup a=some o∧o.ExactDict∧o.data=.dict es ep∧KTD.Rows aK es.toList D
section
variable {prog:Program} {w:World} {A:Around} {E:Value→Shared→Prop} {s:Shared} {K:PySem.W.Frag} {a:Addr} {D:List (Str×V)} {k:Str} {tk:Tok}
theorem za.typeIs(X:K.In s.heap)(T:za K a D):s.TypeIs (.ref a) "dict":=let ⟨_,o,_,_,ho,hc,_⟩:=T;⟨o,X _ _ ho,hc.1⟩
end
section
variable {X:Cx}
end
end L2
namespace L2
open PySem PySem.Spec PyProof.Rows
theorem aZ{a b:String}:(Str.ofString a=Str.ofString b)↔a=b:=by
 constructor
 ·intro h
  rw [Str.ofString_eq_toList,Str.ofString_eq_toList]at h
  have h1:(a.toList.map Char.toNat)=(b.toList.map Char.toNat):=by
   have:=congrArg (fun s:Str=>s.cps.toList) h
   simpa using this
  have h2:a.toList=b.toList:=by
   refine List.map_inj_right (f:=Char.toNat) (fun x y e=>?_) |>.mp h1
   exact Char.toNat_inj.mp e
  exact String.toList_inj.mp h2
 ·intro h;rw [h]
def zu:Option Int→V
 | none=>.non
 | some i=>.int i
structure bh where
 size:Int
 start:Int
 after:Int→Option (List Int)→List Int→Option Int
 closes:Int→Option (List Int)→Bool
def BV(K:PySem.W.Frag)(H:Hp)(nv:Nat)(b:Option (List Int))(x:V):Prop:=(b=none∧x=.non)∨∃a us,b=some us∧x=.ref a∧cq K H a (us.map V.int)∧us.length=nv
theorem BV.same{K:PySem.W.Frag}{H H':Hp}{nv:Nat}{b:Option (List Int)}{x:V}(s:aq H H')(h:BV K H nv b x):BV K H' nv b x:=by
 rcases h with h | ⟨a,us,h1,h2,h3,h4⟩
 ·exact .inl h
 ·exact .inr ⟨a,us,h1,h2,s.tup h3,h4⟩
abbrev y8:=Addr→Hp→Prop
def zT(RI:y8)(v:V):Sp:=fun vs H Q _=>∃r,vs=[.ref r]∧RI r H∧Q v H
def xf(K:PySem.W.Frag)(nv:Nat)(RI:y8)(S:bh)(G:Int→Prop):Sp:=fun vs H Q _=>∃r m x c b us,vs=[.ref r,.int m,x,.ref c]∧RI r H∧G m∧BV K H nv b x∧cq K H c (us.map V.int)∧us.length=nv∧Q (zu (S.after m b us)) H
def vi(K:PySem.W.Frag)(nv:Nat)(RI:y8)(S:bh)(G:Int→Prop):Sp:=fun vs H Q _=>∃r m x b,vs=[.ref r,.int m,x]∧RI r H∧G m∧BV K H nv b x∧Q (.bl (S.closes m b)) H
structure vI(P:Program)(w:World)(K:PySem.W.Frag)(mg:Str→Option Value)(base:Heap)(k:Nat)(nv:Nat)(C:Addr)(S:bh)(RI:y8)(G:Int→Prop):Prop where
 mono:∀r H H',aq H H'→RI r H→RI r H'
 ins:∀r H,RI r H→∃dx fs,H r=some (.ins C dx fs)∧fs.lookup (Str.ofString "size")=none∧fs.lookup (Str.ofString "start")=none∧fs.lookup (Str.ofString "after")=none∧fs.lookup (Str.ofString "closes")=none∧fs.lookup (Str.ofString "shown")=none
 g0:G S.start
 gS:∀m b us m',G m→S.after m b us=some m'→G m'
 size:cK P w K mg base C "size" k ["self"] (zT RI (.int S.size))
 start:cK P w K mg base C "start" k ["self"] (zT RI (.int S.start))
 after:cK P w K mg base C "after" k ["self","memory","before","column"] (xf K nv RI S G)
 closes:cK P w K mg base C "closes" k ["self","memory","last"] (vi K nv RI S G)
def qS(S:bh)(m:Int)(b:Option (List Int))(i:Nat):List (List Int)→Option Nat
 | []=>if S.closes m b=true then none else some i
 | c::cs=>match S.after m b c with
  | none=>some i
  | some m'=>qS S m' (some c) (i+1) cs
def brk(S:bh)(cols:List (List Int)):Option Int:=(qS S S.start none 0 cols).map fun(n:Nat)=>(n:Int)
def xG(K:PySem.W.Frag)(H:Hp)(l:Addr)(nv:Nat)(cols:List (List Int)):Prop:=∃ps:List Addr,aL K H l (ps.map V.ref)∧ps.length=cols.length∧∀(i:Nat) (p:Addr) (us:List Int),ps[i]?=some p→cols[i]?=some us→cq K H p (us.map V.int)∧us.length=nv
structure gF(z kind:Str)(ns:List Int):Prop where
 cs:z.cps.toList=cZ 32 (kind.cps.toList::ns.map i4)
 nb:∀n∈ns,n.natAbs < 10 ^ 40
 nl:ns.length≤20
 ks:32∉kind.cps.toList
 kl:kind.length≤20
 k0:kind.cps.toList≠[]
theorem m7(n:Int):32∉i4 n:=fun h=>by
 have:=kB n 32 h
 omega
theorem xh{x y:Str}(h:x.cps.toList=y.cps.toList):x=y:=by
 have:=jb x y
 rw [decide_eq_true h]at this
 exact of_decide_eq_true this
theorem eD:∀{xs ys:List Str},xs.map (fun z=>z.cps.toList)=ys.map (fun z=>z.cps.toList)→xs=ys
 | [],[],_=>rfl
 | [],_::_,h=>by simp at h
 | _::_,[],h=>by simp at h
 | x::xs,y::ys,h=>by
  rw [List.map_cons,List.map_cons]at h
  injection h with h1 h2
  rw [xh h1,eD h2]
def fu(n:Int):Str:=Str.ofString (toString n)
theorem gF.split{z kind:Str}{ns:List Int}(R:gF z kind ns):Txt.split z ⟨#[32]⟩=kind::ns.map fu:=by
 refine eD ?_
 rw [hX z (by decide),R.cs,kY 32 _ (by simp) (fun p hp=>?_),List.map_cons,List.map_map]
 ·rfl
 ·rcases List.mem_cons.mp hp with rfl | hp
  ·exact R.ks
  ·obtain⟨n,_,rfl⟩:=List.mem_map.mp hp
   exact m7 n
theorem ji(c:Nat):∀(ps:List (List Nat)) (m:Nat),(∀p∈ps,p.length≤m)→(cZ c ps).length≤ps.length * (m+1)
 | [],_,_=>by simp [cZ]
 | p::ps,m,h=>by
  have h1:=h p (by simp)
  have h2:=ji c ps m (fun q hq=>h q (by simp [hq]))
  have h3:(cZ c (p::ps)).length≤p.length+1+(cZ c ps).length:=by
   cases ps with
   | nil=>simp [cZ]
   | cons q ps=>
    simp [cZ,List.length_append]
    omega
  rw [List.length_cons,Nat.succ_mul]
  omega
theorem gF.len{z kind:Str}{ns:List Int}(R:gF z kind ns):z.length≤10000:=by
 rw [aY,R.cs]
 have h:=ji 32 (kind.cps.toList::ns.map i4) 60 (fun p hp=>by
  rcases List.mem_cons.mp hp with rfl | hp
  ·have:=R.kl;rw [aY]at this;omega
  ·obtain⟨n,hn,rfl⟩:=List.mem_map.mp hp
   have:=kA (n:=n) (k:=40) (by decide) (R.nb n hn)
   omega)
 have:=R.nl
 simp only [List.length_cons,List.length_map]at h
 omega
theorem gF.head{z kind:Str}{ns:List Int}(R:gF z kind ns):z.cps.toList.head?=kind.cps.toList.head?:=by
 rw [R.cs]
 cases e:kind.cps.toList with
 | nil=>exact absurd e R.k0
 | cons a l=>
  cases ns with
  | nil=>simp [cZ]
  | cons n ns=>simp [cZ]
end L2
namespace L2
open PySem PySem.Spec PyProof.Rows
theorem oY{X:Cx}{e:Expr}:PE X e (fun _ _ _=>False):=fun _ _ _ _ _ _ h=>h.elim
theorem sg(xs:List V)(k:Nat):mV xs (some (k:Int)) none=xs.drop k:=by
 unfold mV
 rw [HT.sIx_nat,HT.sIx_none]
 by_cases h:k≤xs.length
 ·rw [Nat.min_eq_left h,List.take_of_length_le (by rw [List.length_drop];omega)]
 ·rw [Nat.min_eq_right (by omega),List.drop_of_length_le (Nat.le_refl _),List.drop_of_length_le (by omega),List.take_nil]
theorem oE(i:Int):∀D:List Int,zk (.int i) (D.map V.int)=decide (i∈D)
 | []=>rfl
 | d::D=>by
  have ih:=oE i D
  have e:zk (.int i) ((d::D).map V.int)=((d == i) || zk (.int i) (D.map V.int)):=rfl
  rw [e,ih,Bool.eq_iff_iff,Bool.or_eq_true,beq_iff_eq,decide_eq_true_eq,decide_eq_true_eq,List.mem_cons]
  exact⟨fun h=>h.imp Eq.symm id,fun h=>h.imp Eq.symm id⟩
theorem aL.at_ins{K:PySem.W.Frag}{H:Hp}{q x C dx:Addr}{fs:List (Str×V)}{xs:List V}{o:HO}(h:aL K H q xs)(hx:H x=some (.ins C dx fs)):aL K (upd H x o) q xs:=by
 rcases h with(h | ⟨u,h⟩) | h
 ·exact .inl (.inl (by rw [ai (fW h hx (by intro z;cases z))];exact h))
 ·exact .inl (.inr ⟨u,by rw [ai (fW h hx (by intro z;cases z))];exact h⟩)
 ·exact .inr h
theorem pG{H:Hp}{x l:Addr}{A L B:HO}:upd (upd (upd H x A) l L) x B=upd (upd H l L) x B:=by
 funext b
 unfold upd
 by_cases h:b=x
 ·rw [if_pos h,if_pos h]
 ·rw [if_neg h,if_neg h,if_neg h]
end L2
namespace L2
open PySem PySem.Spec PyProof.Rows
structure iz(K:PySem.W.Frag)(C:Addr)(m qual:Str)(st:Stmt)(f:Addr)(fd:FuncData):Prop where
 me:xI K C m f
 fn:f9 K m qual st f fd
theorem methAt_mk{K:PySem.W.Frag}{C:Addr}{m qual:Str}{st:Stmt}{f:Addr}{oc:Value}{od an:Option Addr}{osl:Array (Option Value)}{kV doc pm cdv ct:Value}(a:PySem.W.findIn K (.ref C) m=some (some (.ref f)))(i:PySem.W.isFn K (.ref f)=true)
  (l:K.lookup f=some ⟨oc,od,.func (PySem.W.fnOf m qual (dI st) (dv st) (ar st) .none kV doc pm an cdv ct),osl⟩) (c:PySem.W.codeIn K cdv qual=true) (k:PySem.W.keepIn K (.ref f)=true):∃f fd,iz K C m qual st f fd:=
 ⟨f,_,⟨a,i,k⟩,mW l c k⟩
theorem iz.ok{P:Program}{w:World}{K:PySem.W.Frag}{mg:Str→Option Value}{base:Heap}{C:Addr}{m qual:Str}{st:Stmt}{f:Addr}{fd:FuncData}{k:Nat}{ps:List Str}{sp:Sp}(A:iz K C m qual st f fd)(cl:tJ K C)(ok:bj P w K mg base fK k f fd ps sp)(b:eG K fd ps []):cK P w K mg base C m k ps sp:=⟨cl,f,fd,A.me,ok,b⟩
structure jV(K:PySem.W.Frag)(x m qual:Str)(st:Stmt)(C f:Addr)(fd:FuncData):Prop where
 ns:PySem.W.nsIn K mainGlobals x=some (some (.ref C))
 cm:xk K C m f
 fn:f9 K m qual st f fd
theorem cmethAt_mk{K:PySem.W.Frag}{C:Addr}{x m qual:Str}{st:Stmt}{f:Addr}{oc:Value}{od an:Option Addr}{osl:Array (Option Value)}{kV doc pm cdv ct:Value}(n:PySem.W.nsIn K mainGlobals x=some (some (.ref C)))(r:PySem.W.readsIn K C (.type "type")=true)(a:PySem.W.findCls K (.ref C) (.type "type") m=some (.val (.ref f)))
  (g:PySem.W.specialIn K (.ref C) "__getattribute__"=some (some (.builtin "type.__getattribute__")))
  (l:K.lookup f=some ⟨oc,od,.func (PySem.W.fnOf m qual (dI st) (dv st) (ar st) .none kV doc pm an cdv ct),osl⟩) (c:PySem.W.codeIn K cdv qual=true) (k:PySem.W.keepIn K (.ref f)=true):∃C f fd,jV K x m qual st C f fd:=
 ⟨C,f,_,n,⟨r,a,g,k⟩,mW l c k⟩
theorem jV.df{P:Program}{w:World}{K:PySem.W.Frag}{mg:Str→Option Value}{base h:Heap}{x m qual:Str}{st:Stmt}{C f:Addr}{fd:FuncData}{k:Nat}{ps:List Str}{sp:Sp}(A:jV K x m qual st C f fd)(X:K.In h)(G:h.Ns mainGlobals mg)(ok:bj P w K mg base fK k f fd ps sp)(b:eG K fd ps []):pL P w K mg base x m k ps sp:=
 ⟨C,f,fd,PySem.W.mg_of X G A.ns,A.cm,ok,b⟩
structure tT(K:PySem.W.Frag)(x qual:Str)(st:Stmt)(C f:Addr)(fd:FuncData):Prop where
 ns:PySem.W.nsIn K mainGlobals x=some (some (.ref C))
 mm:Mk K C f
 fn:f9 K "__init__" qual st f fd
theorem mkAt_mk{K:PySem.W.Frag}{C:Addr}{x qual:Str}{st:Stmt}{f:Addr}{oc:Value}{od an:Option Addr}{osl:Array (Option Value)}{kV doc pm cdv ct:Value}(n:PySem.W.nsIn K mainGlobals x=some (some (.ref C)))(mk:PySem.W.makesIn K C=true)(a:PySem.W.findIn K (.ref C) "__init__"=some (some (.ref f)))(i:PySem.W.isFn K (.ref f)=true)(kc:PySem.W.keepIn K (.ref C)=true)
  (l:K.lookup f=some ⟨oc,od,.func (PySem.W.fnOf "__init__" qual (dI st) (dv st) (ar st) .none kV doc pm an cdv ct),osl⟩) (c:PySem.W.codeIn K cdv qual=true) (k:PySem.W.keepIn K (.ref f)=true):∃f fd,tT K x qual st C f fd:=
 ⟨f,_,n,⟨mk,a,i,kc⟩,mW l c k⟩
theorem tT.df{P:Program}{w:World}{K:PySem.W.Frag}{mg:Str→Option Value}{base h:Heap}{x qual:Str}{st:Stmt}{C f:Addr}{fd:FuncData}{k:Nat}{ps:List Str}{sp:Sp}(A:tT K x qual st C f fd)(X:K.In h)(G:h.Ns mainGlobals mg)(ok:bj P w K mg base fK k f fd ps sp)(b:eG K fd ps []):mQ P w K mg base x C k ps sp:=
 ⟨f,fd,A.mm,ok,PySem.W.mg_of X G A.ns,b⟩
theorem sD(c:Nat)(a b:List Nat)(ps:List (List Nat)):cZ c (a::b::ps)=a++c::cZ c (b::ps):=by simp [cZ]
theorem oU{n:Int}(h:n.natAbs < 10 ^ 40):(fu n).length≤41:=by
 rw [aY]
 exact kA (n:=n) (k:=40) (by decide) h
end L2
namespace L2
open PySem PySem.Spec PyProof.Rows
section
variable {X:Cx}
theorem lJ:bN X (.type "str") (fun xs H Q=>∃z,xs=[.str z]∧Q (.str z) H):=by
 intro pins s σ H xs us Q I r h
 obtain⟨z,rfl,q⟩:=h
 obtain⟨u,rfl,ru⟩:=eM r
 obtain⟨t,rfl⟩:=ru
 exact P.str_of_str ⟨.str z,H,I,⟨t,rfl⟩,q⟩
def qu:List V→Hp→VK→Prop:=fun xs H Q=>(∃i,xs=[.int i]∧i.natAbs.log2 < 1920∧Q (.str (fu i)) H)∨∃z,xs=[.str z]∧Q (.str z) H
theorem l8:bN X (.type "str") qu:=call_str_int.or lJ
end
theorem yC{i:Int}{H:Hp}{Q:VK}:qu [.int i] H Q↔i.natAbs.log2 < 1920∧Q (.str (fu i)) H:=by simp [qu]
theorem yD{z:Str}{H:Hp}{Q:VK}:qu [.str z] H Q↔Q (.str z) H:=by simp [qu]
end L2
namespace L3
open PySem PySem.Spec PyProof.Rows
section
variable {prog:Program} {w:World} {A:Around} {E:Value→Shared→Prop} {s:Shared}
end
end L3
namespace L2
open PySem PySem.Spec PyProof.Rows
def km(K:PySem.W.Frag)(n:Nat)(t:vJ):TG:=fun v σ H Q=>∃a l xs,v=.ref a∧jx K l H a xs∧xs.length=n∧t xs σ H Q
theorem pz{K:PySem.W.Frag}{H:Hp}{a:Addr}{i:Int}{D:List Int}{Q:VK}(h:aL K H a (D.map V.int))(q:Q (.bl (!decide (i∈D))) H):il K (.int i) (.ref a) H Q:=by
 refine .inr ⟨a,_,rfl,.inl h,rfl,?_,?_⟩
 ·rw [List.all_map];exact List.all_eq_true.mpr fun _ _=>rfl
 ·rw [oE];exact q
theorem rT{α:Type}{xs:List α}{v:α}{n:Nat}(hl:xs.length=n+1)(h:xs[n]?=some v):lD xs (-1)=some v:=by
 unfold lD v8
 rw [if_neg (by decide),if_pos (by omega),hl]
 show xs[((-1:Int)+((n+1:Nat):Int)).toNat]?=some v
 rw [show((-1:Int)+((n+1:Nat):Int)).toNat=n by omega]
 exact h
end L2
namespace L2
open PySem PySem.Spec PyProof.Rows
section
variable {X:Cx} {e st:Expr} {te:TE} {p2 pos:Pos}
def ll(K:PySem.W.Frag)(te ts:TE):TE:=fun σ H Q=>te σ H fun x H1=>ts σ H1 fun y H2=>y=.int (-1)∧∃a xs,x=.ref a∧aL K H2 a xs∧∀p,H2 p=none→Q (.ref p) (upd H2 p (.lst xs.reverse))
end
end L2
namespace L2
open PySem PySem.Spec PyProof.Rows
def fm(B:Nat→Bool)(i:Nat):Nat→Option Nat
 | 0=>none
 | k+1=>if B i=true then some i else fm B (i+1) k
theorem oA(B:Nat→Bool):∀(k i:Nat),fm B i (k+1)=match fm B i k with | some j=>some j | none=>if B (i+k)=true then some (i+k)else none
 | 0,i=>by simp [fm]
 | k+1,i=>by
  have ih:=oA B k (i+1)
  rw [fm,ih]
  by_cases hb:B i=true
  ·simp [fm,hb]
  ·rw [if_neg hb]
   simp only [fm]
   rw [if_neg hb,show i+1+k=i+(k+1)by omega]
def kG(cols:List (List Int)):Nat→Option (List Int)
 | 0=>none
 | i+1=>cols[i]?
structure Walks(S:bh)(cols:List (List Int))(mem:Nat→Int)(B:Nat→Bool):Prop where
 m0:S.start=mem 0
 st:∀(i:Nat) (us:List Int),cols[i]?=some us→S.after (mem i) (kG cols i) us=if B i=true then none else some (mem (i+1))
theorem Walks.go{S:bh}{cols:List (List Int)}{mem:Nat→Int}{B:Nat→Bool}(h:Walks S cols mem B):∀(k i:Nat),i+k=cols.length→qS S (mem i) (kG cols i) i (cols.drop i)=match fm B i k with | some j=>some j | none=>if S.closes (mem cols.length) (kG cols cols.length)=true then none else some cols.length
 | 0,i,e=>by
  have e':i=cols.length:=by omega
  subst e'
  rw [List.drop_length]
  rfl
 | k+1,i,e=>by
  have hi:i < cols.length:=by omega
  rw [List.drop_eq_getElem_cons hi]
  simp only [qS,fm]
  rw [h.st i cols[i] (List.getElem?_eq_getElem hi)]
  by_cases hb:B i=true
  ·rw [if_pos hb,if_pos hb]
  ·rw [if_neg hb,if_neg hb]
   have:=h.go k (i+1) (by omega)
   rw [show kG cols (i+1)=some cols[i]from List.getElem?_eq_getElem hi]at this
   exact this
def zh(B:Nat→Bool)(n:Nat)(cl:Bool):Option Int:=match fm B 0 n with | some j=>some (j:Int) | none=>if cl=true then none else some (n:Int)
theorem Walks.brk{S:bh}{cols:List (List Int)}{mem:Nat→Int}{B:Nat→Bool}(h:Walks S cols mem B):brk S cols=zh B cols.length (S.closes (mem cols.length) (kG cols cols.length)):=by
 have:=h.go cols.length 0 (by omega)
 unfold L2.brk zh
 rw [h.m0]
 rw [show kG cols 0=none from rfl,List.drop_zero]at this
 rw [this]
 cases fm B 0 cols.length with
 | some j=>rfl
 | none=>
  simp only
  by_cases hc:S.closes (mem cols.length) (kG cols cols.length)=true
  ·rw [if_pos hc,if_pos hc];rfl
  ·rw [if_neg hc,if_neg hc];rfl
theorem ve{x kind:Str}{a b:Int}(hx:x.cps.toList=kind.cps.toList++[32])(na:a.natAbs < 10 ^ 40)(nb:b.natAbs < 10 ^ 40)(ks:32∉kind.cps.toList)(kl:kind.length≤20)(k0:kind.cps.toList≠[]):gF (x++fu a++Str.ofString " " ++ fu b) kind [a,b]:=by
 refine⟨?_,fun n hn=>?_,by simp,ks,kl,k0⟩
 ·have e32:(Str.ofString " ").cps.toList=[32]:=by decide +kernel
  have ea:∀u v:Str,(u++v).cps.toList=u.cps.toList++v.cps.toList:=fun u v=>by
   show(u.cps++v.cps).toList=_
   rw [Array.toList_append]
  rw [ea,ea,ea,hx,e32]
  simp only [List.map_cons,List.map_nil,cZ]
  simp
  rfl
 ·rcases List.mem_cons.mp hn with rfl | hn
  ·exact na
  ·rw [List.mem_singleton.mp hn];exact nb
def mP(H:Hp)(nv:Nat)(ps:List Addr)(cols:List (List Int)):Prop:=ps.length=cols.length∧∀(i:Nat) (p:Addr) (us:List Int),ps[i]?=some p→cols[i]?=some us→H p=some (.tup (us.map V.int))∧us.length=nv
theorem mP.at{K:PySem.W.Frag}{H:Hp}{nv:Nat}{ps:List Addr}{cols:List (List Int)}(h:mP H nv ps cols):∀(i:Nat) (p:Addr) (us:List Int),ps[i]?=some p→cols[i]?=some us→cq K H p (us.map V.int)∧us.length=nv:=fun i p us e1 e2=>⟨cq.of (h.2 i p us e1 e2).1,(h.2 i p us e1 e2).2⟩
theorem mP.line{K:PySem.W.Frag}{H:Hp}{nv:Nat}{ps:List Addr}{cols:List (List Int)}{l:Addr}(h:mP H nv ps cols)(hl:H l=some (.lst (ps.map V.ref))):xG K H l nv cols:=⟨ps,aL.of hl,h.1,h.at⟩
end L2
namespace L3
open PySem PySem.Spec PyProof.Rows L2 HT
section
variable {prog:Program} {w:World} {A:Around} {E:Value→Shared→Prop} {s:Shared}
theorem cat_tup0{t b:Addr}{ws:List Value}{Q:Value→Shared→Prop}(ht:IsTup s.heap t (List.toArray []))(hb:IsTup s.heap b ws.toArray)
  (h1:Q (.ref b) s):wpAny (model prog w) A (binaryOp .Add (.ref t) (.ref b)) Q E s:=by
 obtain⟨⟨cls,dd,data,sl⟩,ho,hc,n,hd⟩:=id ht
 obtain⟨⟨cls2,dd2,data2,sl2⟩,ho2,hc2,n2,hd2⟩:=id hb
 simp only at hc hd hc2 hd2
 subst hc hd hc2 hd2
 exact concat_meets ⟨_,ho,rfl⟩ ⟨_,ho2,rfl⟩ noFill_tuple_add seq_tuple_add PySem.F.slot_tuple_add PySem.F.entry_tuple_add (PySem.F.args_tuple_add_2 _ _)
   (tuple_addW0 t b #[] ws.toArray n n2 dd dd2 sl sl2 (by simp)) ⟨ho,ho2,h1⟩
end
end L3
namespace L2
open PySem PySem.Spec PyProof.Rows
section
variable {X:Cx}
def u4(K:PySem.W.Frag):R2:=fun x y H Q=>∃a b ys,x=.ref a∧y=.ref b∧cq K H a []∧cq K H b ys∧Q (.ref b) H
theorem wF:dq X (binaryOp .Add) (u4 X.K):=by
 intro pins s σ H x y v u Q I rx ry h
 obtain⟨a,b,ys,rfl,rfl,ha,hb,q⟩:=h
 cases rx
 cases ry
 obtain⟨its,r1,p1,_⟩:=I.tuple ha
 obtain⟨its2,r2,p2,_⟩:=I.tuple hb
 cases r1
 exact L3.cat_tup0 p1 p2 ⟨.ref b,H,I,rfl,q⟩
def gw(K:PySem.W.Frag):R2:=fun x y H Q=>eg K x y H Q∨u4 K x y H Q
theorem ye(K:PySem.W.Frag)(h:X.K=K:=by rfl):dq X (binaryOp .Add) (gw K):=by
 subst h
 exact opAdd.or wF
end
theorem pj{K:PySem.W.Frag}{i j:Int}{H:Hp}{Q:VK}:gw K (.int i) (.int j) H Q↔Q (.int (i+j)) H:=by
 simp [gw,rAddA_ii,u4]
theorem uk(K:PySem.W.Frag):jL (gw K)=gw K:=rk fun _ _ _ _=>pj
theorem wb{K:PySem.W.Frag}{x y:V}{H:Hp}{Q:VK}:jL (gw K) x y H Q↔gw K x y H Q:=by rw [uk]
theorem xA{X:Cx}(K:PySem.W.Frag)(h:X.K=K:=by rfl):dq X (binaryOp .Add) (jL (gw K)):=by rw [uk];exact ye K h
theorem u0{K:PySem.W.Frag}{a b:Addr}{xs ys:List V}{H:Hp}{Q:VK}(ha:H a=some (.tup xs))(hb:H b=some (.tup ys))(hz:xs.length+ys.length≤sizeLine)(q:∀p H',aq H H'→H' p=some (.tup (xs++ys))→Q (.ref p) H'):gw K (.ref a) (.ref b) H Q:=by
 by_cases hx:xs=[]
 ·subst hx
  exact .inr ⟨a,b,ys,rfl,rfl,cq.of ha,cq.of hb,q b H (aq.refl H) hb⟩
 ·refine .inl (.inr (.inr (.inr ⟨a,b,xs,ys,rfl,rfl,cq.of ha,cq.of hb,hx,hz,fun e=>?_,fun _ p hp=>q p _ (ao hp) ae⟩)))
  subst e
  exact q a H (aq.refl H) (by rw [List.append_nil];exact ha)
end L2
namespace L2
open PySem PySem.Spec PyProof.Rows
def Itd(lo:Int)(n:Nat):It:=⟨fun i _=>i < n,fun i H x H'=>H'=H∧x=.int (lo - i),fun i _=>n≤i⟩
section
variable {X:Cx} {tg:Expr}
def gO(ta:TA):TI:=fun σ H R=>ta σ H fun vs H1=>∃i j:Int,vs=[.int i,.int j,.int (-1)]∧(-(2 ^ 62)≤i∧i < 2 ^ 62∧-(2 ^ 62)≤j∧j < 2 ^ 62)∧R (Itd i (i - j).toNat) H1
end
theorem iy:∀{ns:List Int} {us:List Value},aA (ns.map V.int) us→∃ps:List (Int×Tok),us=ps.map (fun p=>Value.int p.1 p.2)∧ps.map (·.1)=ns
 | [],_,.nil=>⟨[],rfl,rfl⟩
 | n::ns,_,.cons r t=>by
  obtain⟨ps,e1,e2⟩:=iy t
  obtain⟨tk,rfl⟩:=r
  exact⟨(n,tk)::ps,by rw [e1];rfl,by rw [←e2];rfl⟩
end L2
namespace L2
open PySem PySem.Spec PyProof.Rows
def fT(c:Nat):Nat→List Nat→List (List Nat)
 | 0,l=>[l]
 | _+1,[]=>[[]]
 | n+1,a::l=>if a=c then []::fT c n l else match fT c (n+1) l with
  | []=>[[a]]
  | p::r=>(a::p)::r
theorem nX(c:Nat):∀n l,fT c n l≠[]
 | 0,l=>by simp [fT]
 | n+1,[]=>by simp [fT]
 | n+1,a::l=>by
  simp only [fT]
  split
  ·simp
  ·split<;>simp
theorem gU(x:Str)(c:Nat):∀(l:List Nat) (n a j:Nat),a≤j→x.cps.toList.drop j=l→j≤x.length→
  (StrLaws.partsFrom x 1 a ((eT c l j).take n)).map (fun z=>z.cps.toList)=match fT c n l with
   | []=>[]
   | p::r=>((x.cps.toList.drop a).take (j - a)++p)::r
 | l,0,a,j,haj,hl,hj=>by
  simp only [List.take_zero,fT,StrLaws.partsFrom,List.map_cons,List.map_nil,StrLaws.strSub_toList]
  congr 1
  rw [List.take_of_length_le (by rw [List.length_drop,aY];omega)]
  have:=List.take_append_drop (j - a) (x.cps.toList.drop a)
  rw [List.drop_drop,show a+(j - a)=j by omega,hl]at this
  exact this.symm
 | [],n+1,a,j,haj,hl,hj=>by
  have hj':x.length≤j:=by rw [aY];exact List.drop_eq_nil_iff.mp hl
  have e:j=x.length:=by omega
  subst e
  simp [eT,fT,StrLaws.partsFrom,StrLaws.strSub_toList]
 | b::l,n+1,a,j,haj,hl,hj=>by
  have hb:x.cps.toList[j]?=some b:=by
   have:(x.cps.toList.drop j)[0]?=some b:=by rw [hl];rfl
   rwa [List.getElem?_drop,Nat.add_zero]at this
  have hi:j < x.length:=by
   rw [aY]
   obtain⟨h,_⟩:=List.getElem?_eq_some_iff.mp hb
   exact h
  have hd:x.cps.toList.drop (j+1)=l:=by
   rw [←List.drop_drop,hl];rfl
  by_cases hc:b=c
  ·have ih:=gU x c l n (j+1) (j+1) (Nat.le_refl _) hd hi
   simp only [eT,hc,if_true,List.take_succ_cons,StrLaws.partsFrom,List.map_cons,fT,List.append_nil]
   rw [ih]
   cases hs:fT c n l with
   | nil=>exact absurd hs (nX c n l)
   | cons p r=>simp [StrLaws.strSub_toList]
  ·have ih:=gU x c l (n+1) a (j+1) (by omega) hd hi
   simp only [eT,hc,if_false,fT]
   rw [ih]
   cases hs:fT c (n+1) l with
   | nil=>exact absurd hs (nX c (n+1) l)
   | cons p r=>
    have ht:(x.cps.toList.drop a).take (j+1 - a)=(x.cps.toList.drop a).take (j - a)++[b]:=by
     have e1:j+1 - a=(j - a)+1:=by omega
     rw [e1,List.take_add_one,List.getElem?_drop]
     have e2:a+(j - a)=j:=by omega
     rw [e2,hb];rfl
    simp [ht]
theorem ja(c n:Nat)(rest:List Nat):∀(p:List Nat),c∉p→fT c (n+1) (p++c::rest)=p::fT c n rest
 | [],_=>by simp [fT]
 | a::p,h=>by
  have h1:¬a=c:=fun e=>h (by simp [e])
  have ih:=ja c n rest p (fun e=>h (by simp [e]))
  show fT c (n+1) (a::(p++c::rest))=_
  simp only [fT,h1,if_false]
  rw [ih]
theorem pd(c:Nat)(rest:List Nat):∀(p:List Nat) (i:Nat),eT c (p++c::rest) i≠[]
 | [],i=>by simp [eT]
 | a::p,i=>by
  show eT c (a::(p++c::rest)) i≠[]
  simp only [eT]
  split
  ·simp
  ·exact pd c rest p (i+1)
def qg(z:Str)(c k:Nat):List Str:=Builtin.Str.partsBetween z ((eT c z.cps.toList 0).take k) 1
theorem nj(z:Str)(c k:Nat):(qg z c k).map (fun y=>y.cps.toList)=fT c k z.cps.toList:=by
 unfold qg
 rw [StrLaws.partsBetween_eq,gU z c z.cps.toList k 0 0 (Nat.le_refl _) rfl (Nat.zero_le _)]
 cases hs:fT c k z.cps.toList with
 | nil=>exact absurd hs (nX c k _)
 | cons p r=>simp
end L2
namespace L2
open PySem PySem.Spec PyProof.Rows
structure vH(z rest:Str)(t u:Int):Prop where
 cs:z.cps.toList=(Str.ofString "every").cps.toList++32::(i4 t++32::(i4 u++32::rest.cps.toList))
 tb:t.natAbs < 10 ^ 40
 ub:u.natAbs < 10 ^ 40
 rl:rest.length≤10000
theorem vH.split{z rest:Str}{t u:Int}(R:vH z rest t u):qg z 32 3=[Str.ofString "every",fu t,fu u,rest]:=by
 refine eD ?_
 rw [nj,R.cs,ja 32 2 _ _ (by decide +kernel),ja 32 1 _ _ (m7 t),ja 32 0 _ _ (m7 u)]
 simp only [fT,List.map_cons,List.map_nil]
 rfl
theorem vH.pos{z rest:Str}{t u:Int}(R:vH z rest t u):eT 32 z.cps.toList 0≠[]:=by
 rw [R.cs]
 exact pd 32 _ _ 0
end L2
namespace L2
open PySem PySem.Spec PyProof.Rows
section
variable {X:Cx} {tg:Expr}
end
end L2
namespace L2
open PySem PySem.Spec PyProof.Rows
theorem cb{k:V→Prop}{σ:L2.St}{i:Nat}:(vd σ i k)=(∃v,σ[i]?=some (some v)∧k v):=propext j3
theorem bP{v:V}{k:Int→Prop}:(vA v k)=(∃i,v=V.int i∧k i):=propext iY
theorem bO{v:V}{k:Bool→Prop}:(xp v k)=(∃i,v=V.bl i∧k i):=propext iX
theorem dJ{x y:V}{H:Hp}{Q:VK}:(tN my x y H Q)=(my x y H Q):=propext zm
theorem dP{x y:V}{H:Hp}{Q:VK}:(tO mz x y H Q)=(mz x y H Q):=propext zp
theorem bJ{K:W.Frag}{x y:V}{H:Hp}{Q:VK}:(jL (eg K) x y H Q)=(eg K x y H Q):=propext v9
theorem bK{K:W.Frag}{x y:V}{H:Hp}{Q:VK}:(oJ (e7 K) x y H Q)=(e7 K x y H Q):=propext we
theorem cM{K:W.Frag}{x y:V}{H:Hp}{Q:VK}:(tN (iF K) x y H Q)=(iF K x y H Q):=propext xU
theorem cN{K:W.Frag}{x y:V}{H:Hp}{Q:VK}:(tO (iG K) x y H Q)=(iG K x y H Q):=propext xW
theorem bQ{K:W.Frag}{x y:V}{H:Hp}{Q:VK}:(jL (gw K) x y H Q)=(gw K x y H Q):=propext wb
theorem bC{K:W.Frag}{i j:Int}{H:Hp}{Q:VK}:(eg K (V.int i) (V.int j) H Q)=(Q (V.int (i+j)) H):=propext rAddA_ii
theorem bD{K:W.Frag}{i j:Int}{H:Hp}{Q:VK}:(gw K (V.int i) (V.int j) H Q)=(Q (V.int (i+j)) H):=propext pj
theorem br{K:W.Frag}{i j:Str}{H:Hp}{Q:VK}:(eg K (V.str i) (V.str j) H Q)=(i.length+j.length≤sizeLine∧Q (V.str (i++j)) H):=propext uZ
theorem bE{i j:Int}{H:Hp}{Q:VK}:(jD (V.int i) (V.int j) H Q)=(IntMulOk i j∧Q (V.int (i * j)) H):=propext pk
theorem bF{z:Str}{j:Int}{H:Hp}{Q:VK}:(jD (V.str z) (V.int j) H Q)=((-1000000≤j∧j≤1000000∧z.length≤16)∧Q (V.str (i7 z j)) H):=propext pw
theorem bG{K:W.Frag}{i j:Int}{H:Hp}{Q:VK}:(e7 K (V.int i) (V.int j) H Q)=(IntMulOk i j∧Q (V.int (i * j)) H):=propext rMulB_ii
theorem bt{K:W.Frag}{z:Str}{j:Int}{H:Hp}{Q:VK}:(e7 K (V.str z) (V.int j) H Q)=((-1000000≤j∧j≤1000000∧z.length≤16)∧Q (V.str (i7 z j)) H):=propext u7
theorem cW{K:W.Frag}{z:Str}{lo hi:Option Int}{H:Hp}{Q:VK}:(s9 K (V.str z) lo hi H Q)=(z.length≤sizeLine∧Q (V.str (Txt.slice z lo hi)) H):=propext yy
theorem dQ{K:W.Frag}{z:Str}{i:Int}{H:Hp}{Q:VK}:(rF K (V.str z) (V.int i) H Q)=(z.length≤sizeLine∧∃c,lD z.cps.toList i=some c∧Q (V.str { cps:=#[c] }) H):=propext zQ
theorem cP{i j:Int}{H:Hp}{Q:VK}:(my (V.int i) (V.int j) H Q)=(Q (V.bl (decide (i=j))) H):=propext rEq_ii
theorem cT{i j:Int}{H:Hp}{Q:VK}:(mz (V.int i) (V.int j) H Q)=(Q (V.bl !decide (i=j)) H):=propext nH
theorem cQ{i j:Str}{H:Hp}{Q:VK}:(my (V.str i) (V.str j) H Q)=(Q (V.bl (decide (i=j))) H):=propext nF
theorem bS{K:W.Frag}{i j:Int}{H:Hp}{Q:VK}:(nE K (V.int i) (V.int j) H Q)=(Q (V.bl (decide (i=j))) H):=propext wX
theorem bX{K:W.Frag}{i j:Int}{H:Hp}{Q:VK}:(nG K (V.int i) (V.int j) H Q)=(Q (V.bl !decide (i=j)) H):=propext w8
theorem bT{K:W.Frag}{i j:Str}{H:Hp}{Q:VK}:(nE K (V.str i) (V.str j) H Q)=(Q (V.bl (decide (i=j))) H):=propext wY
theorem bY{K:W.Frag}{i j:Str}{H:Hp}{Q:VK}:(nG K (V.str i) (V.str j) H Q)=(Q (V.bl !decide (i=j)) H):=propext w9
theorem bR{K:W.Frag}{i j:Bool}{H:Hp}{Q:VK}:(nE K (V.bl i) (V.bl j) H Q)=(Q (V.bl (decide (i=j))) H):=propext wW
theorem bW{K:W.Frag}{i j:Bool}{H:Hp}{Q:VK}:(nG K (V.bl i) (V.bl j) H Q)=(Q (V.bl !decide (i=j)) H):=propext w6
theorem cU{i j:Str}{H:Hp}{Q:VK}:(mz (V.str i) (V.str j) H Q)=(Q (V.bl !decide (i=j)) H):=propext nI
theorem cO{i j:Bool}{H:Hp}{Q:VK}:(my (V.bl i) (V.bl j) H Q)=(Q (V.bl (decide (i=j))) H):=propext u5
theorem cS{i j:Bool}{H:Hp}{Q:VK}:(mz (V.bl i) (V.bl j) H Q)=(Q (V.bl !decide (i=j)) H):=propext u9
theorem cR{K:W.Frag}{c:Nat}{z:Str}{H:Hp}{Q:VK}:(u6 K (V.str { cps:=#[c] }) (V.str z) H Q)=(Q (V.bl (decide (c∈z.cps.toList))) H):=propext yq
theorem bo{K:W.Frag}{c:Nat}{z:Str}{H:Hp}{Q:VK}:(il K (V.str { cps:=#[c] }) (V.str z) H Q)=(Q (V.bl !decide (c∈z.cps.toList)) H):=propext sZ
theorem cX{i:Int}{H:Hp}{Q:VK}:(qu [V.int i] H Q)=(i.natAbs.log2 < 1920∧Q (V.str (fu i)) H):=propext yC
theorem cY{z:Str}{H:Hp}{Q:VK}:(qu [V.str z] H Q)=(Q (V.str z) H):=propext yD
theorem bU{K:W.Frag}{i j:Int}{H:Hp}{Q:VK}:(iF K (V.int i) (V.int j) H Q)=(Q (V.bl (decide (i=j))) H):=propext rEqC_ii
theorem bZ{K:W.Frag}{i j:Int}{H:Hp}{Q:VK}:(iG K (V.int i) (V.int j) H Q)=(Q (V.bl !decide (i=j)) H):=propext rG
theorem bV{K:W.Frag}{i j:Str}{H:Hp}{Q:VK}:(iF K (V.str i) (V.str j) H Q)=(Q (V.bl (decide (i=j))) H):=propext rE
theorem b0{K:W.Frag}{i j:Str}{H:Hp}{Q:VK}:(iG K (V.str i) (V.str j) H Q)=(Q (V.bl !decide (i=j)) H):=propext rH
theorem cL{K:W.Frag}{b k:Bool}{H:Hp}:(tV K (V.bl b) H k)=(k=b):=propext xK
theorem dR{K:W.Frag}{z:Str}{H:Hp}:(zW K "str" (V.str z) H)=(True):=propext zX
theorem bA{K:PySem.W.Frag}{i j:Str}{H:Hp}{Q:VK}:jL (eg K) (.str i) (.str j) H Q=(i.length+j.length≤sizeLine∧Q (.str (i++j)) H):=by rw [bJ,br]
theorem bB{K:PySem.W.Frag}{z:Str}{j:Int}{H:Hp}{Q:VK}:oJ (e7 K) (.str z) (.int j) H Q=((-1000000≤j∧j≤1000000∧z.length≤16)∧Q (.str (i7 z j)) H):=by rw [bK,bt]
theorem bI{α:Sort u}{p:α→Prop}{a':α}:(∃a,a'=a∧p a)=p a':=propext exists_eq_left'
theorem fk{α:Sort u}{a':α}:(∃a,a'=a)=True:=eq_true ⟨_,rfl⟩
theorem gL{α:Sort u}{a':α}:(∃a,a=a')=True:=eq_true ⟨_,rfl⟩
theorem dm{α:Sort u}{p:α→Prop}{a':α}:(∃a,a=a'∧p a)=p a':=propext exists_eq_left
theorem dj{α:Sort u}{p:α→Prop}{b:Prop}:(∃x,b∧p x)=(b∧∃x,p x):=propext exists_and_left
theorem di{a b c:Prop}:((a∧b)∧c)=(a∧b∧c):=propext and_assoc
theorem dk{α:Sort u}:(∃_:α,False)=False:=eq_false exists_false
theorem gK{b:Prop}(α:Sort u)[Nonempty α]:(∃_:α,b)=b:=propext (exists_const α)
theorem ke{p:Prop}{x:Decidable p}:(decide p=false)=¬p:=propext decide_eq_false_iff_not
theorem p5{c:TT}{t w:TS}{D:gD}{σ:L2.St}{H:Hp}(h:∀A B:Hp→Prop,(∀H,du t w D σ H→A H)→(∀H,w D σ H→B H)→c σ H fun b H1=>if b=true then A H1 else B H1):du (fc c t cI) w D σ H:=h _ _ (fun _ x=>x) fun _ x=>x
theorem lz{t r w:TS}{D:gD}{σ:L2.St}{H:Hp}(h:∀k:L2.St→Hp→Prop,(∀σ H,du r w D σ H→k σ H)→t { D with nx:=k } σ H):du (du t r) w D σ H:=h _ fun _ _ x=>x
theorem lz0{t r:TS}{D:gD}{σ:L2.St}{H:Hp}(h:∀k:L2.St→Hp→Prop,(∀σ H,r D σ H→k σ H)→t { D with nx:=k } σ H):du t r D σ H:=h _ fun _ _ x=>x
end L2
namespace L2
open PySem PySem.Spec PyProof.Rows
section
variable {prog:Program} {w:World} {A:Around} {R:Result→Shared→Prop} {it al bb:Addr} {items:Array Value} {G:Heap→Prop} {kf:Nat→List Int} {d:Value}
end
section
variable {prog:Program} {w:World} {A:Around} {E:Value→Shared→Prop} {s:Shared}
end
end L2
namespace L2
open PySem PySem.Spec PyProof.Rows
section
variable {prog:Program} {w:World} {A:Around} {E:Value→Shared→Prop} {s:Shared}
theorem oz{R:Result→Shared→Prop}{r:Addr}{a b c:Int}{t u v:Tok}{n:Nat}(hd:A.handled=none)(hr:IsRange s.heap r a b c t u v)(big:Builtin.Range.small a b c=false)(en:Builtin.Range.rangeSize a b c=n)(nl:n≤2 ^ 24)(B:Addr)(res:Value)(e0:Nat)
  (hB:s.heap.get? B=some { cls:=.type "list",data:=.seq #[] e0 })
  (fin:∀h' tk acc e',(∀b o,b≠B→s.heap.get? b=some o→h'.get? b=some o)→h'.get? B=some { cls:=.type "list",dict:=none,data:=.seq acc e',slots:=#[] }→ItemsOf (fun i v=>∃t,v=.int (a+i * c) t) acc n→R (.ok (.ret res)) { s with heap:=h',toks:=tk }) :
  wpAny (model prog w) A.in1 (Builtin.List.listExtendWith (.ref B) (.ref r) res) (fun f s'=>match f with | .done f=>R (.ok f) s' | .again c'=>c'.quiet=true∧codeAny (model prog w) A c' R s') (fun e s'=>R (.error e) s') s:=by
 have nBr:B≠r:=fun e=>by rw [e,hr]at hB;simp at hB
 have Blt:B < s.heap.objs.size:=Heap.lt_size hB
 have nBJ:B≠s.heap.objs.size:=Nat.ne_of_lt Blt
 have wk:=(Walks.longrange (prog:=prog) (w:=w) (A:=A.in1) hd s.heap.objs.size a c n).toS
 have run:∀(h:Heap) (e1 tk:Nat),IsLongIter h s.heap.objs.size (a+((0:Nat):Int) * c) ((n:Int) - ((0:Nat):Int)) c→(∀b o,b≠B→s.heap.get? b=some o→h.get? b=some o)→h.get? B=some { cls:=.type "list",data:=.seq #[] e1 }→
   codeAny (model prog w) A (.builtin "list.extend.loop" ⟨[.ref B,.ref s.heap.objs.size,res],[]⟩) R { s with heap:=h,toks:=tk }:=by
  intro h e1 tk ih hk hB1
  refine codeAny_extend_loopS wk (by rw [sizeLine_eq];omega) B (fun hm=>nBJ (List.mem_singleton.mp hm)) res n 0 _ #[] e1 rfl (Nat.zero_le _) ih hB1 (ItemsOf.nil _) fun s' acc e' mv hB' hacc=>?_
  rw [Moved.eq_with mv]
  refine fin s'.heap s'.toks acc e' (fun b o hb e=>mv.heap b o (fun hm=>?_) (hk b o hb e)) hB' hacc
  rcases List.mem_cons.mp hm with z | hm
  ·exact hb z
  ·exact absurd (Heap.lt_size e) (by rw [List.mem_singleton.mp hm];exact Nat.lt_irrefl _)
 unfold Builtin.List.listExtendWith
 refine wpAny_bind (wpAny_typeOf (T:="range") ⟨_,hr,rfl⟩ ?_)
 simp only [show Builtin.List.listSameRef (.ref B) (.ref r)=false by simp [Builtin.List.listSameRef,nBr],show(Value.type "range" == Value.type "list")=false by decide,show(Value.type "range" == Value.type "tuple")=false by decide,Bool.or_false,Bool.false_eq_true,if_false]
 refine wpAny_bind (wpAny_pyIter_longrange hr big ?_)
 refine wpAny_bind (wpAny_holding (wpAny_hint_range (n:=n) (Heap.get?_push_of_some _ hr) en nl ?_))
 have it1:IsLongIter (s.heap.push { cls:=.type "longrange_iterator",data:=.fields #[rawInt a,rawInt (Builtin.Range.rangeSize a b c),rawInt c] }) s.heap.objs.size (a+((0:Nat):Int) * c) ((n:Int) - ((0:Nat):Int)) c:=by
  rw [en]
  simpa using Heap.get?_push_size _ rfl
 have hB1:=Heap.get?_push_of_some { cls:=.type "longrange_iterator",data:=.fields #[rawInt a,rawInt (Builtin.Range.rangeSize a b c),rawInt c] } hB
 refine wpAny_ite_split (fun _=>?_) (fun _=>wpAny_pure ⟨plainId_quiet F.plain_extend_loop _,run _ e0 _ it1 (fun b o _ e=>Heap.get?_push_of_some _ e) hB1⟩)
 refine wpAny_bind (wpAny_rule (wpAny_bind ?_))
 show wpAny _ _ (updateSeq B (·.push .none) >>= fun _=>updateSeq B (·.pop)) _ _ _
 refine wpAny_bind (wpAny_updateSeq hB1 rfl ?_)
 have hB2:=Heap.get?_update_self (Obj.mapSeq (·.push Value.none)) hB1 rfl
 refine wpAny_updateSeq (hz:=by seq_fits) hB2 rfl ?_
 have hB3:=Heap.get?_update_self (Obj.mapSeq (·.pop)) hB2 rfl
 refine wpAny_pure ⟨plainId_quiet F.plain_extend_loop _,run _ _ _ ?_ (fun b o hb e=>?_) hB3⟩
 ·exact(Heap.get?_update_other _ _ nBJ).trans ((Heap.get?_update_other _ _ nBJ).trans it1)
 ·exact(Heap.get?_update_other _ _ (Ne.symm hb)).trans ((Heap.get?_update_other _ _ (Ne.symm hb)).trans (Heap.get?_push_of_some _ e))
theorem j9{Q:Value→Shared→Prop}{r:Addr}{a b c:Int}{t u v:Tok}{n:Nat}(hd:A.handled=none)(hr:IsRange s.heap r a b c t u v)(big:Builtin.Range.small a b c=false)(en:Builtin.Range.rangeSize a b c=n)(nl:n≤2 ^ 24)
  (fin:∀h' tk acc e',(∀b o,s.heap.get? b=some o→h'.get? b=some o)→h'.get? s.heap.objs.size=some { cls:=.type "list",dict:=none,data:=.seq acc e',slots:=#[] }→ItemsOf (fun i v=>∃t,v=.int (a+i * c) t) acc n→Q (.ref s.heap.objs.size) { s with heap:=h',toks:=tk }) :
  wpAny (model prog w) A (call (.type "list") [.ref r]) Q E s:=by
 refine callType_codes (Q₁:=fun ob s1=>ob=.ref s.heap.objs.size∧s1={ s with heap:=s.heap.push { cls:=.type "list",data:=.seq #[] } }) F.called_list (F.typeCall_list_1 _) F.entry_list_init (code_list_new _ ⟨rfl,rfl⟩) fun ob s1 h1=>?_
 obtain⟨rfl,rfl⟩:=h1
 have hB:(s.heap.push { cls:=.type "list",data:=.seq #[] }).get? s.heap.objs.size=some { cls:=.type "list",data:=.seq #[] }:=Heap.get?_push_size _ rfl
 have hr1:IsRange (s.heap.push { cls:=.type "list",data:=.seq #[] }) r a b c t u v:=Heap.get?_push_of_some _ hr
 have nBr:s.heap.objs.size≠r:=(Nat.ne_of_lt (Heap.lt_size hr)).symm
 refine⟨⟨_,hB,rfl⟩,F.args_list_init_2 _ _,?_⟩
 show wpAny _ A.in1.in1 (do let old ←Builtin.List.listItems (.ref s.heap.objs.size);Builtin.List.listUpdate (.ref s.heap.objs.size) (fun _=>#[]);letGo old.toList.reverse;Builtin.List.listExtendWith (.ref s.heap.objs.size) (.ref r) .none) _ _ _
 refine wpAny_bind ?_
 unfold Builtin.List.listItems
 refine wpAny_bind (wpAny_seqItems hB rfl (wpAny_pure ?_))
 show wpAny _ _ (updateSeq s.heap.objs.size (fun _=>#[]) >>= fun _=>letGo (#[]:Array Value).toList.reverse >>= fun _=>Builtin.List.listExtendWith (.ref s.heap.objs.size) (.ref r) .none) _ _ _
 refine wpAny_bind (wpAny_updateSeq hB rfl ?_)
 have hB2:=Heap.get?_update_self (Obj.mapSeq (fun _=>(#[]:Array Value))) hB rfl
 refine wpAny_bind (wpAny_letGo ?_)
 refine oz (A:=A.in1) hd (show IsRange _ r a b c t u v from(Heap.get?_update_other _ _ nBr).trans hr1) big en nl _ .none _ hB2 fun h' tk acc e' hk hB' hacc=>?_
 exact⟨rfl,fin h' tk acc e' (fun b o e=>hk b o (Nat.ne_of_lt (Heap.lt_size e)) ((Heap.get?_update_other _ _ (Nat.ne_of_lt (Heap.lt_size e)).symm).trans (Heap.get?_push_of_some _ e))) hB' hacc⟩
end
def intsFrom(a:Int)(n:Nat):List Int:=(List.range n).map fun(i:Nat)=>a+i
theorem lC:∀(ns:List Int) (us:List Value),us.length=ns.length→(∀(j:Nat) v n,us[j]?=some v→ns[j]?=some n→∃t,v=.int n t)→aA (ns.map V.int) us
 | [],[],_,_=>.nil
 | [],_::_,h,_=>by simp at h
 | _::_,[],h,_=>by simp at h
 | n::ns,u::us,h,hv=>by
  obtain⟨t,e⟩:=hv 0 u n rfl rfl
  exact .cons ⟨t,e⟩ (lC ns us (by simpa using h) fun j v n e1 e2=>hv (j+1) v n e1 e2)
theorem pU{X:Cx}{pins:List (Addr×Obj)}{σ:St}{H:Hp}{s:Shared}{Q:VK}{r:Addr}{i j:Int}{t u v:Tok}(hc:X.calm=true)(I:av X pins σ H s)(hr:IsRange s.heap r i j 1 t u v)(hl:j - i≤1000)
  (q:∀l,H l=none→Q (.ref l) (upd H l (.lst ((intsFrom i (j - i).toNat).map V.int)))):wpAny (model X.prog X.w) X.A (call (.type "list") [.ref r]) (EP X pins σ Q) X.xe s:=by
 have hs:sizeLine=16777216:=sizeLine_eq
 have en:Builtin.Range.rangeSize i j 1=(((j - i).toNat:Nat):Int):=by rw [rangeSize_one];split<;>omega
 have nl:(j - i).toNat≤2 ^ 24:=by omega
 have fin:∀h' tk acc e',(∀b o,s.heap.get? b=some o→h'.get? b=some o)→h'.get? s.heap.objs.size=some { cls:=.type "list",dict:=none,data:=.seq acc e',slots:=#[] }→ItemsOf (fun k v=>∃t,v=.int (i+k * 1) t) acc (j - i).toNat→EP X pins σ Q (.ref s.heap.objs.size) { s with heap:=h',toks:=tk }:=fun h' tk acc e' hk hB hacc=>by
  have rv:aA ((intsFrom i (j - i).toNat).map V.int) acc.toList:=by
   refine lC _ _ (by simp [intsFrom,hacc.1]) fun k v n e1 e2=>?_
   obtain⟨t,rfl⟩:=hacc.2 k v (by simpa using e1)
   have hk:k < (j - i).toNat:=by
    have:=(List.getElem?_eq_some_iff.mp e2).1
    simpa [intsFrom]using this
   simp only [intsFrom,List.getElem?_map,List.getElem?_range hk]at e2
   cases e2
   exact⟨t,by rw [Int.mul_one]⟩
  refine⟨.ref s.heap.objs.size,_,I.laid (t':=tk) hk (Nat.le_refl _) (show cy X.prog X.w _ h' _ (.lst ((intsFrom i (j - i).toNat).map V.int))from⟨by simp [intsFrom];omega,acc.toList,e',rv,hB⟩),rfl,q _ (I.hok.fresh (Nat.le_refl _))⟩
 cases hb:Builtin.Range.small i j 1 with
 | true=>exact call_list_range (I.ok.hd hc) hr hb en nl fin
 | false=>exact j9 (I.ok.hd hc) hr hb en nl fin
def d0(ta:TA):TE:=fun σ H Q=>ta σ H fun vs H1=>∃i j:Int,vs=[.int i,.int j]∧j - i≤1000∧∀l,H1 l=none→Q (.ref l) (upd H1 l (.lst ((intsFrom i (j - i).toNat).map V.int)))
def dy(ta:TA):TE:=fun σ H Q=>ta σ H fun vs H1=>∃j:Int,vs=[.int j]∧j≤1000∧∀l,H1 l=none→Q (.ref l) (upd H1 l (.lst ((intsFrom 0 j.toNat).map V.int)))
theorem sV{X:Cx}{a:Expr}{ta:TA}{p p2 pos pos2:Pos}(hc:X.calm=true)(hgl:Gl X "list")(hml:X.mg "list"=none)(hg:Gl X "range")(hm:X.mg "range"=none)(ha:PA X [a] ta)(hs:starEach [a] X.env=[(false,eval a X.env)]:=by rfl):
  PE X (.Call (.Name "list" p) [.Call (.Name "range" p2) [a] [] pos2] [] pos) (dy ta):=by
 intro pins s σ H Q I h
 refine wpAny_Call_Name_kw (dS I hgl hml boot_list (PyProof.Rows.callWith_type1 ?_ rfl rfl))
 show wpAny _ _ (spliced ((false,eval (.Call (.Name "range" p2) [a] [] pos2) X.env)::backTo pos (starEach [] X.env))) _ _ s
 refine Calls.spliced_cons ?_
 refine wpAny_Call_Name_kw (dS I hg hm boot_range (PyProof.Rows.callWith_type1 (cj (ha pos2 pins s σ H _ I h) fun us s1 ⟨vs,H1,I1,r1,q1⟩=>?_) hs rfl))
 obtain⟨j,e,hl,q⟩:=q1
 subst e
 cases r1 with
 | cons r rr=>
  cases rr
  obtain⟨t,rfl⟩:=r
  refine call_range_1 (Calls.spliced_nil ?_)
  exact pU hc (I1.kept fun b o e=>Heap.get?_push_of_some _ e) (IsRange.new ..) (by omega) (by simpa using q)
end L2
namespace XE
open PySem
open Sem (wp)
section
variable {M:Model} {A:Around} {E:Value→Shared→Prop} {s:Shared}
def Tr(h:Heap)(e T:Addr)(cls:Value)(dc:Option Addr)(fl:Value):Prop:=
 ∃oe vs oT ts,h.get? e=some oe∧(oe.cls=cls∧oe.dict=dc)∧oe.data=.fields vs∧vs[1]?=some (.ref T)∧T≠e∧h.get? T=some oT∧oT.data=.fields ts∧ts[3]?=some fl
def AA(h:Heap)(e:Addr)(cls:Value)(dc:Option Addr):Prop:=∃oe vs,h.get? e=some oe∧(oe.cls=cls∧oe.dict=dc)∧oe.data=.fields vs∧vs[1]?=some .none
def On(base:Heap)(l:List Env)(e:Addr)(h:Heap):Prop:=base.StaysIn h∧base.get? e=none∧h.FunFrames base l
theorem Tr.there{h:Heap}{e T:Addr}{cls:Value}{dc:Option Addr}{fl:Value}(x:Tr h e T cls dc fl):∃o vs,h.get? e=some o∧o.cls=cls∧o.dict=dc∧o.data=.fields vs:=
 let ⟨o,vs,_,_,a,b,c,_⟩:=x;⟨o,vs,a,b.1,b.2,c⟩
theorem Tr.tb{h:Heap}{e T:Addr}{cls:Value}{dc:Option Addr}{fl:Value}(x:Tr h e T cls dc fl):∃o vs,h.get? T=some o∧o.data=.fields vs:=
 let ⟨_,_,o,vs,_,_,_,_,_,a,b,_⟩:=x;⟨o,vs,a,b⟩
theorem xr{base:Heap}{env:Env}{outer:List Env}{L e:Addr}{oe:Obj}{vs:Array Value}{head:Value}{hadNext:Bool}{Q:Unit→Shared→Prop}
  (hfr:A.frames=some (env::outer)) (o:On base (env::outer) e s.heap) (hf:env.frame=some L) (he:s.heap.get? e=some oe) (hd:oe.data=.fields vs) (hsz:1 < vs.size)
  (h:∀h' T,s.heap.objs.size≤T→On base (env::outer) e h'→Tr h' e T oe.cls oe.dict (rawInt L)→s.heap.UpToSlots h'→Q () { s with heap:=h' }) :
  wpAny M A (do let a ←frameOf env;let pl ←entryPlaceOf L hadNext;let b ←EntryCells.newEntry head a .none (rawInt L) .none pl;setField (.ref e) 1 b) Q E s:=by
 obtain⟨hkb,hen,hl⟩:=o
 have hene:e∉(env::outer).filterMap (·.frame):=fun hm=>by
  obtain⟨_,o,ho,hnf⟩:=hl.mem hm
  rw [he]at ho;injection ho with ho;subst ho;exact hnf vs hd
 refine wpAny_bind (wpAny_frameOf_fun hfr hl hf fun h₁ hs₁=>?_)
 refine wpAny_bind (wpAny_entryPlaceOf fun pl hpl=>?_)
 unfold EntryCells.newEntry newFields
 refine wpAny_bind (wpAny_newObj_type ?_ (hpl.sizeOk5 _ _ _ _ _))
 have he₁:h₁.get? e=some oe:=(hs₁.2.1 e hene).trans he
 have kb₁:base.StaysIn h₁:=fun b o hbo=>(hs₁.2.1 b fun hm=>by rw [(hl.mem hm).1]at hbo;cases hbo).trans (hkb b o hbo)
 generalize hT:({ cls:=.type "traceback",dict:=none,data:=.fields ([head,.ref L,.none,rawInt L,.none]++(if pl.isEmpty then List.replicate 6 Value.none else pl)).toArray }:Obj)=oT
 have he₂:=Heap.get?_push_of_some (h:=h₁) oT he₁
 refine wpAny_setField he₂ hd hsz (h _ h₁.objs.size (Nat.le_of_eq hs₁.1.symm) ?_ ?_ ?_)
 all_goals
  have hTe:h₁.objs.size≠e:=Nat.ne_of_gt (Heap.lt_size he₁)
  have hd₃:=Obj.data_mapFields hd (·.setIfInBounds 1 (Value.ref h₁.objs.size))
  have he₃:=Heap.get?_update_self (Obj.mapFields (·.setIfInBounds 1 (Value.ref h₁.objs.size))) he₂ (Obj.isFreed_of_fields hd₃)
  have keep:∀b o,b≠e→h₁.get? b=some o→((h₁.push oT).update e (Obj.mapFields (·.setIfInBounds 1 (Value.ref h₁.objs.size)))).get? b=some o:=
   fun b o hbe hb=>by
    rw [Heap.get?_update_other _ _ (Ne.symm hbe)]
    exact Heap.get?_push_of_some _ hb
  have noRecord:∀b o,s.heap.get? b=some o→(∀vs,o.data≠.fields vs)→b≠e:=fun b o hb hnf q=>by
   rw [q,he]at hb;injection hb with hb;subst hb;exact hnf vs hd
 ·refine⟨fun b o hbo=>keep b o (fun q=>by rw [q,hen]at hbo;cases hbo) (kb₁ b o hbo),hen,hl.of_keeps fun b o hb hnf=>?_⟩
  obtain⟨sl,hs⟩:=hs₁.2.2 b o hb
  exact⟨_,keep b _ (noRecord b o hb hnf) hs,rfl⟩
 ·have hT₃:=(Heap.get?_update_other (h₁.push oT) (Obj.mapFields (·.setIfInBounds 1 (Value.ref h₁.objs.size))) (Ne.symm hTe)).trans (Heap.get?_push_size h₁ (by rw [←hT];rfl))
  refine⟨_,_,_,_,he₃,⟨Obj.cls_mapFields _ _,?_⟩,hd₃,by simp [hsz],hTe,hT₃,by rw [←hT],by first | (simp;done) | (rcases hpl with rfl | ⟨_,_,_,_,_,_,_,rfl⟩<;>simp)⟩
  unfold Obj.mapFields
  split<;>rfl
 ·intro b o hb hnf
  obtain⟨sl,hs⟩:=hs₁.2.2 b o hb
  exact⟨sl,keep b _ (noRecord b o hb hnf) hs⟩
theorem uD{base:Heap}{env:Env}{outer:List Env}{L e:Addr}{cls:Value}{dc:Option Addr}{Q:Unit→Shared→Prop}
  (hfr:A.frames=some (env::outer)) (hf:env.frame=some L) (o:On base (env::outer) e s.heap) (x:AA s.heap e cls dc)
  (h:∀h' T,s.heap.objs.size≤T→On base (env::outer) e h'→Tr h' e T cls dc (rawInt L)→s.heap.UpToSlots h'→Q () { s with heap:=h' }):wpAny M A (noteFrame (.ref e) env) Q E s:=by
 obtain⟨oe,vs,he,⟨rfl,rfl⟩,hd,h1⟩:=x
 unfold noteFrame
 simp only [hf]
 refine wpAny_bind (wpAny_field he hd h1 ?_)
 rw [if_neg (by decide)]
 exact xr hfr o hf he hd (Array.getElem?_eq_some_iff.mp h1).1 h
theorem wu{base:Heap}{env:Env}{outer:List Env}{L e T:Addr}{cls:Value}{dc:Option Addr}{Q:Unit→Shared→Prop}
  (hfr:A.frames=some (env::outer)) (hf:env.frame=some L) (o:On base (env::outer) e s.heap) (hnT:base.get? T=none) {fl:Value} (hfl:¬((fl == rawInt L)=true)) (x:Tr s.heap e T cls dc fl)
  (h:∀h' T,s.heap.objs.size≤T→On base (env::outer) e h'→Tr h' e T cls dc (rawInt L)→s.heap.UpToSlots h'→Q () { s with heap:=h' }):wpAny M A (noteFrame (.ref e) env) Q E s:=by
 obtain⟨oe,vs,oT,ts,he,⟨rfl,rfl⟩,hd,h1,hTe,hT,hdT,h3⟩:=x
 obtain⟨hkb,hen,hl⟩:=o
 unfold noteFrame
 simp only [hf]
 refine wpAny_bind (wpAny_field he hd h1 ?_)
 rw [if_pos (show(Value.ref T != Value.none)=true from by simp)]
 refine wpAny_bind (wpAny_field hT hdT h3 ?_)
 rw [if_neg hfl]
 refine wpAny_bind (wpAny_setField hT hdT (Array.getElem?_eq_some_iff.mp h3).1 ?_)
 have other:∀b,b≠T→(s.heap.update T (Obj.mapFields (·.setIfInBounds 3 Value.none))).get? b=s.heap.get? b:=fun b hb=>Heap.get?_update_other _ _ (Ne.symm hb)
 have noRecord:∀b o,s.heap.get? b=some o→(∀vs,o.data≠.fields vs)→b≠T:=fun b o hb hnf q=>by
  rw [q,hT]at hb;injection hb with hb;subst hb;exact hnf ts hdT
 have hsz:(s.heap.update T (Obj.mapFields (·.setIfInBounds 3 Value.none))).objs.size=s.heap.objs.size:=Heap.size_after_update _ _ _
 exact xr (s:={ s with heap:=s.heap.update T (Obj.mapFields (·.setIfInBounds 3 Value.none)) }) hfr
  ⟨fun b o hbo=>(other b fun q=>by rw [q,hnT]at hbo;cases hbo).trans (hkb b o hbo),hen,hl.of_keeps fun b o hb hnf=>⟨o,(other b (noRecord b o hb hnf)).trans hb,rfl⟩⟩ hf ((other e (Ne.symm hTe)).trans he) hd (Array.getElem?_eq_some_iff.mp h1).1
  fun h' T' x0 x1 x2 x3=>h h' T' (hsz▸x0) x1 x2 fun b o hb hnf=>x3 b o ((other b (noRecord b o hb hnf)).trans hb) hnf
theorem sI{env:Env}{L e T:Addr}{cls:Value}{dc:Option Addr}{Q:Unit→Shared→Prop}
  (hf:env.frame=some L) (x:Tr s.heap e T cls dc (rawInt L)) (h:Q () s):wpAny M A (noteFrame (.ref e) env) Q E s:=by
 obtain⟨oe,vs,oT,ts,he,_,hd,h1,hTe,hT,hdT,h3⟩:=x
 unfold noteFrame
 simp only [hf]
 refine wpAny_bind (wpAny_field he hd h1 ?_)
 rw [if_pos (show(Value.ref T != Value.none)=true from by simp)]
 refine wpAny_bind (wpAny_field hT hdT h3 ?_)
 rw [if_pos (show(rawInt L == rawInt L)=true from by simp)]
 exact wpAny_pure h
def Out(h:Heap)(e:Addr)(cls:Value)(dc:Option Addr)(ts:List Addr):Prop:=(ts=[]∧AA h e cls dc)∨∃T fl,ts=[T]∧Tr h e T cls dc fl
theorem note_out{base:Heap}{env:Env}{outer:List Env}{L e:Addr}{cls:Value}{dc:Option Addr}{ts:List Addr}{Q:Unit→Shared→Prop}
  (hfr:A.frames=some (env::outer)) (hf:env.frame=some L) (o:On base (env::outer) e s.heap) (hts:∀T∈ts,base.get? T=none) (x:Out s.heap e cls dc ts)
  (h:∀h' T,(T∈ts∨s.heap.objs.size≤T)→On base (env::outer) e h'→Tr h' e T cls dc (rawInt L)→s.heap.UpToSlots h'→Q () { s with heap:=h' }):wpAny M A (noteFrame (.ref e) env) Q E s:=by
 rcases x with⟨rfl,x⟩ | ⟨T,fl,rfl,x⟩
 ·exact uD hfr hf o x fun h' T a=>h h' T (.inr a)
 ·by_cases hfl:(fl == rawInt L)=true
  ·have e:fl=rawInt L:=by simpa using hfl
   subst e
   exact sI hf x (h s.heap T (.inl (.head _)) o x (.refl _))
  ·exact wu hfr hf o (hts T (.head _)) hfl x fun h' T a=>h h' T (.inr a)
end
inductive n6(h:Heap)(no:Str→Prop)(bmB:List Value):List Value→Prop
 | base:n6 h no bmB bmB
 | own {A:Addr} {c0:Value} {dd:Option Addr} {cd:ClassData} {sl:Array (Option Value)} {mA:Str→Option Value} {tl:List Value} :
   h.get? A=some { cls:=c0,dict:=dd,data:=.cls cd,slots:=sl }→h.Ns cd.ns mA→(∀n,no n→mA n=none)→n6 h no bmB tl→n6 h no bmB (.ref A::tl)
theorem n6.keeps{h h':Heap}{no:Str→Prop}{bmB tl:List Value}(T:n6 h no bmB tl)(hk:∀b o,h.get? b=some o→h'.get? b=some o):n6 h' no bmB tl:=by
 induction T with
 | base=>exact .base
 | own hA hN hq _ ih=>exact .own (hk _ _ hA) (hN.keeps hk) hq ih
section
variable {M:Model} {A:Around} {E:Value→Shared→Prop} {h:Heap} {g:Array GenState} {d:Drawn} {t:Nat} {os:OsState}
variable {nm q:Str} {C N:Addr} {bs bm bmB:List Value} {hdct:Bool} {sn:List Str} {sub:List Value} {ab:Bool} {col:Option Bool} {dd:Option Addr} {k0 k1 k2 k3 k5:Option Value} {B newId initId:String} {no:Str→Prop}
theorem zd{tl:List Value}{n:Str}{y:Option Value}{Q:Option Value→Shared→Prop}(hn:no n)(T:n6 h no bmB tl)(hrest:lookupAlong bmB n=pure y)(hq:Q y ⟨h,g,d,t,os⟩):
  wpAny M A (lookupAlong tl n) Q E ⟨h,g,d,t,os⟩:=by
 induction T with
 | base=>rw [hrest];exact wpAny_pure hq
 | own hA hN hni _ ih=>
  rw [lookupAlong_cons]
  refine wpAny_bind (wpAny_classOwn_cls hA hN ?_)
  rw [hni n hn]
  exact ih
theorem lookup{mN:Str→Option Value}{n:Str}{y:Option Value}{Q:Option Value→Shared→Prop}(hno:no n)
  (hC:h.get? C=some (excClassObj nm q C N bs bm hdct sn sub ab col dd k0 k1 k2 k3 k5 newId)) (hn:h.Ns N mN) (T:n6 h no bmB bm) (hbm:mroOf (.type B)=pure bmB) (hB:typeLookup (.type B) n=pure y)
  (hq:Q (match mN n with | some v=>some v | none=>y) ⟨h,g,d,t,os⟩):wpAny M A (typeLookup (.ref C) n) Q E ⟨h,g,d,t,os⟩:=by
 have hrest:lookupAlong bmB n=pure y:=by rw [typeLookup_eq,hbm]at hB;exact hB
 rw [typeLookup_eq]
 refine wpAny_bind (wpAny_mroOf_exc hC ?_)
 rw [lookupAlong_cons]
 refine wpAny_bind (wpAny_classOwn_exc hC hn ?_)
 cases hv:mN n with
 | some v=>rw [hv]at hq;exact wpAny_pure hq
 | none=>rw [hv]at hq;exact zd hno T hrest hq
end
section
variable {prog:Program} {w:World} {A:Around} {E:Value→Shared→Prop} {h:Heap} {g:Array GenState} {d:Drawn} {t:Nat} {os:OsState}
variable {nm q:Str} {C N:Addr} {bs bm bmB:List Value} {hdct:Bool} {sn:List Str} {sub:List Value} {ab:Bool} {col:Option Bool} {dd:Option Addr} {k0 k1 k2 k3 k5:Option Value} {B newId initId:String}
theorem made{mN:Str→Option Value}{rest:List Value}{fI:Addr}{oI:Obj}{Q:Fin→Shared→Prop}(F:ExcBaseFacts B newId initId bmB)(T:OwnTail h bmB bm)
  (hC:h.get? C=some (excClassObj nm q C N bs bm hdct sn sub ab col dd k0 k1 k2 k3 k5 newId)) (hn:h.Ns N mN) (hi:mN "__init__"=some (.ref fI)) (hfI:h.get? fI=some oI) (hfc:oI.cls=.type "function")
  (hq:∀h',Heap.MadeExcOf h h' (h.objs.size+1) (.ref C) rest→wpAny (model prog w) A (call (.ref fI) (.ref (h.objs.size+1)::rest)) (fun r s'=>r=.none∧Q (.done (.ret (.ref (h.objs.size+1)))) s') E ⟨h',g,d,t,os⟩)
  (hrest:rest.length≤sizeLine:=by size_fits):wpAny (model prog w) A (Builtin.«type.__call__» ⟨.ref C::rest,[]⟩) Q E ⟨h,g,d,t,os⟩:=by
 repeat (first | with_reducible refine wpAny_loadPart_at hC ?_ | with_reducible refine wpAny_madeBy_exc hC ?_ | wp_step)
 refine codeAny_call_builtin_code (Code.quiet_builtin _ F.quiet) (wpAny_check_new_subU F F.hasB T hC ?_)
 refine codeAny_exc_new_subU F F.hasB F T hC ?_ hrest
 show wpAny _ _ _ _ _ _
 generalize ho:({ cls:=.ref C,data:=.fields #[.ref h.objs.size,.none,.none,.none,.bool false,.none] }:Obj)=oe
 have hk:∀b o,h.get? b=some o→((h.push { cls:=.type "tuple",data:=.seq rest.toArray }).push oe).get? b=some o:=fun b o e=>Heap.get?_push_of_some _ (Heap.get?_push_of_some _ e)
 have hC₁:=hk _ _ hC
 have hn₁:=hn.keeps hk
 have T₁:=T.keeps hk
 have hget:((h.push { cls:=.type "tuple",data:=.seq rest.toArray }).push oe).get? (h.objs.size+1)=some oe:=by subst ho;heap_get
 have hoc:oe.cls=.ref C:=by subst ho;rfl
 have hcC:(Value.ref C::bm).contains (.ref C)=true:=by simp
 unfold isInstance
 repeat (first | (with_reducible refine wpAny_loadPart_at hget ?_;rw [hoc]) | (with_reducible refine wpAny_isSubtype_exc hC₁ ?_;rw [hcC]) | wp_step)
 show wpAny _ _ (typeLookup (.ref C) _) _ _ _
 refine wpAny_typeLookup_tail hC₁ hn₁ T₁ F.mroIs F.init.lookup ?_
 rw [hi]
 refine wpAny_holding (wpAny_bind ?_)
 unfold bindSpecial
 refine wpAny_bind (wpAny_typeOf (T:="function") ⟨_,hk _ _ hfI,hfc⟩ ?_)
 rw [if_pos (by decide)]
 refine wpAny_pure (wpAny_bind (wpAny_mono (hq _ ⟨hk,Heap.get?_none_of_le (Nat.le_succ _),h.objs.size,by rw [hget,←ho],Heap.get?_none_of_le (Nat.le_refl _),?_⟩) (fun r s' hr=>?_) fun _ _ x=>x))
 ·exact Heap.get?_push_of_some _ (Heap.get?_push_at rfl rfl)
 ·obtain⟨rfl,hQ⟩:=hr
  wp_walk
  exact hQ
end
section
variable {M:Model} {A:Around} {E:Value→Shared→Prop} {env:Env}
variable {nm q:Str} {C N:Addr} {bs bm:List Value} {hdct:Bool} {sn:List Str} {sub:List Value} {ab:Bool} {col:Option Bool} {dd:Option Addr} {k0 k1 k2 k3 k5:Option Value} {newId:String}
end
section
variable {prog:Program} {w:World} {A:Around} {E:Value→Shared→Prop} {s:Shared} {env:Env}
variable {nm q:Str} {C N:Addr} {bs bm:List Value} {hdct:Bool} {sn:List Str} {sub:List Value} {ab:Bool} {col:Option Bool} {dd:Option Addr} {k0 k1 k2 k3 k5:Option Value} {newId:String}
end
section
open Builtin Builtin.ObjectAttr
variable {prog:Program} {w:World} {A:Around} {E:Value→Shared→Prop} {h:Heap} {g:Array GenState} {d:Drawn} {t:Nat} {os:OsState}
variable {nm q:Str} {C N x:Addr} {bs bm bmB:List Value} {sn:List Str} {sub:List Value} {ab:Bool} {col:Option Bool} {dd:Option Addr} {k0 k1 k2 k3 k5:Option Value} {B newId sa owner:String}
 {mN mA:Str→Option Value} {name:Str} {v:Value} {no:Str→Prop}
end
section
open Builtin Builtin.ObjectAttr
variable {prog:Program} {w:World} {A:Around} {E:Value→Shared→Prop} {h:Heap} {g:Array GenState} {d:Drawn} {t:Nat} {os:OsState}
variable {nm q:Str} {C N a dx:Addr} {bs bm bmB:List Value} {sn:List Str} {sub:List Value} {ab:Bool} {col:Option Bool} {dd:Option Addr} {k0 k1 k2 k3 k5:Option Value} {B newId:String}
 {mN mA:Str→Option Value} {name:Str} {v:Value} {no:Str→Prop} {o:Obj} {vs:Array Value}
end
end XE
namespace L2
open PySem PySem.Spec PyProof.Rows
def XO(C d a:Addr):HO:=.ext fun h=>∃o vs,h.get? a=some o∧o.cls=.ref C∧o.dict=some d∧o.data=.fields vs
section
variable {P:Program} {w:World} {H:Hp} {h:Heap} {a C d:Addr}
theorem XO.ok(x:∃o vs,h.get? a=some o∧o.cls=.ref C∧o.dict=some d∧o.data=.fields vs):cy P w H h a (XO C d a):=
 ⟨x,let ⟨o,_,e,_⟩:=x;⟨o,e⟩,fun _ _ ⟨o,vs,e,r⟩ k=>⟨o,vs,k o e,r⟩⟩
end
structure iU(X:Cx)(pins:List (Addr×Obj))(σ:St)(H:Hp)(s:Shared)(a C d:Addr)(fs:List (Str×V))(ts:List Addr):Prop where
 inv:av X pins σ H s
 xo:H a=some (XO C d a)
 xd:H d=some (.xd fs)
 own:∀T∈ts,y3 X pins T∧H T=none∧X.s₀.heap.objs.size≤T
 out:XE.Out s.heap a (.ref C) (some d) ts
section
variable {X:Cx} {pins:List (Addr×Obj)} {σ:St} {H:Hp} {s:Shared} {a C d T:Addr} {fs:List (Str×V)} {ts:List Addr} {fl:Value} {h':Heap}
abbrev vX(X:Cx)(s:Shared)(a:Addr)(ts:List Addr):Heap:=PySem.W.hideAll s.heap (a::ts++lE X.stack)
theorem iU.on(t:iU X pins σ H s a C d fs ts):XE.On (vX X s a ts) X.stack a s.heap:=
 ⟨fun b o q=>PySem.W.of_hideAll _ q,PySem.W.hideAll_none _ (by simp),PySem.W.funFrames_hide t.inv.stack fun env he b hb=>by
  refine List.mem_append_right _ ?_
  exact List.mem_filterMap.mpr ⟨env,he,hb⟩⟩
theorem iU.hid(t:iU X pins σ H s a C d fs ts):∀T∈ts,(vX X s a ts).get? T=none:=fun T hT=>PySem.W.hideAll_none _ (by simp [hT])
theorem iU.pass(t:iU X pins σ H s a C d fs ts)(st:(vX X s a ts).StaysIn h')(tr:XE.Tr h' a T (.ref C) (some d) fl)(u:s.heap.UpToSlots h'):
  Un (lE X.stack) ts H H s.heap h'∧iq X.prog X.w H h':=by
 have keepB:∀b o,s.heap.get? b=some o→b≠a→b∉ts→b∉lE X.stack→h'.get? b=some o:=fun b o q h1 h2 h3=>
  st b o (PySem.W.hideAll_get _ q (by simp only [List.cons_append,List.mem_cons,List.mem_append];exact fun z=>z.elim h1 fun z=>z.elim h2 h3))
 have fr:∀b o,s.heap.get? b=some o→b∈lE X.stack→∃sl,h'.get? b=some { o with slots:=sl }:=fun b o q hb=>by
  obtain⟨_,o',ho',hd⟩:=t.inv.stack.mem hb
  rw [q]at ho'
  cases ho'
  exact u b o q hd
 have na:∀b,H b=none→b≠a:=fun b n z=>by rw [z,t.xo]at n;cases n
 refine⟨⟨fun b o q n hb hx=>keepB b o q (na b n) hx hb,fun b o q n hb hx=>fr b o q hb,fun b o q n _=>n,fun b o q hx=>?_,fun _ _ q=>q,fun _ _ _ q=>q,fun b ps q=>⟨#[],by rw [q];simp⟩⟩,fun b o' q=>?_⟩
 ·by_cases h1:b=a
  ·subst h1
   obtain⟨o1,_,e1,_⟩:=tr.there
   exact⟨o1,e1⟩
  ·by_cases h2:b∈lE X.stack
   ·obtain⟨sl,e⟩:=fr b o q h2
    exact⟨_,e⟩
   ·exact⟨o,keepB b o q h1 hx h2⟩
 ·by_cases h1:b=a
  ·subst h1
   rw [t.xo]at q
   cases q
   exact XO.ok tr.there
  ·refine(t.inv.hok b o' q).stay (fun c v hc r=>keepB c v r ?_ ?_ ?_) (fun _ z=>z) fun _ _ z=>z
   ·rcases hc with rfl | hc
    ·exact h1
    ·intro z
     rw [z,t.xo]at hc
     cases hc
   ·intro z
    have n:=(t.own c z).2.1
    rcases hc with rfl | hc
    ·rw [n]at q;cases q
    ·rw [n]at hc;cases hc
   ·intro z
    have n:=t.inv.stkFree c z
    rcases hc with rfl | hc
    ·rw [n]at q;cases q
    ·rw [n]at hc;cases hc
theorem iU.go(t:iU X pins σ H s a C d fs ts)(st:(vX X s a ts).StaysIn h')(tr:XE.Tr h' a T (.ref C) (some d) fl)(u:s.heap.UpToSlots h'):av X pins σ H { s with heap:=h' }:=
 t.inv.call' (s':={ s with heap:=h' }) rfl (t.pass st tr u).1 (t.pass st tr u).2 t.inv.bare fun b hb=>⟨(t.own b hb).1.old,(t.own b hb).1.ne,(t.own b hb).1.cells,(t.own b hb).1.pin⟩
theorem av.ownN(I:av X pins σ H s)(hT:s.heap.objs.size≤T):y3 X pins T where
 ne:=Nat.ne_of_gt (Nat.lt_of_lt_of_le I.lt hT)
 old:=.inr (Nat.le_trans I.sz hT)
 cells:=fun x c e=>by
  obtain⟨v,o,ho,_⟩:=I.cell x c e
  exact Nat.ne_of_lt (Nat.lt_of_lt_of_le (Heap.lt_size ho) hT)
 pin:=fun p hp=>Nat.ne_of_lt (Nat.lt_of_lt_of_le (Heap.lt_size (I.pin p hp).1) hT)
end
def Ay(P:Program)(w:World):pJ:=fun outer H s E e s'=>∃a C d fs T H',e=.ref a∧s'.os=s.os∧AllBare s'.gens∧Un (lE outer) [] H H' s.heap s'.heap∧iq P w H' s'.heap∧
 H' a=some (XO C d a)∧H' d=some (.xd fs)∧H' T=none∧s.heap.objs.size≤T∧XE.Tr s'.heap a T (.ref C) (some d) .none∧E e (some d) H'
section
variable {P:Program} {w:World} {K:PySem.W.Frag} {mg:Str→Option Value} {base:Heap} {N:List Str} {qual:Str} {scope:Scope} {f:Addr} {cd:Value} {A:Around} {outer:List Env} {s₀:Shared} {H₀:Hp} {E:XK}
end
section
variable {P:Program} {w:World} {H:Hp} {h:Heap} {a C d:Addr}
end
section
variable {X:Cx} {pins:List (Addr×Obj)} {σ:St} {H:Hp} {s:Shared}
variable {a C d fI:Addr} {no:List Str} {f:Str} {A:Around} {E:Value→Shared→Prop}
end
section
variable {X:Cx} {C fI:Addr} {no:List Str} {f x:Str} {o e value:Expr} {es:List Expr} {ta tv:TE} {t:TA} {pos pos' np cpos:Pos} {k:Nat} {fd:FuncData} {ps:List Str} {sp:Sp} {E:XK}
end
end L2
namespace L2
open PySem PySem.Spec PyProof.Rows
section
variable {X:Cx} {scope:Scope} {own:List Str} {js:List Nat} {tg iter elt:Expr} {ifs:List Expr} {wi:TI} {g:TG} {tt:TT} {te:TE} {pos:Pos}
end
end L2
namespace L2
open PySem PySem.Spec PyProof.Rows
abbrev Cx.held(X:Cx)(e:Value)(E:Value→Shared→Prop):Cx:={ X with A:=X.A.mark (some e),calm:=false,xe:=E }
section
variable {X:Cx} {pins:List (Addr×Obj)} {σ:St} {H:Hp} {s:Shared} {e:Value} {E:Value→Shared→Prop}
theorem Cx.Ok.held(ok:X.Ok)(e:Value)(E:Value→Shared→Prop):(X.held e E).Ok:=
 ⟨ok.mod,ok.kind,ok.glob,ok.blt,ok.above,ok.inj,ok.has,ok.cab,fun z=>(nomatch z),ok.frames,ok.stk,ok.exf,ok.bs,ok.bsz,ok.noex,ok.exfs,ok.funs,ok.frf⟩
theorem av.held(I:av X pins σ H s)(e:Value)(E:Value→Shared→Prop):av (X.held e E) pins σ H s:=⟨I.ok.held e E,I.os,I.bare,I.base,I.loc,I.cell,I.free,I.freeC,I.pin,I.hok,I.len⟩
end
def zb(X:Cx)(pins:List (Addr×Obj))(σ:St)(E:XK)(e:Value)(s:Shared):Prop:=∃H a C d fs ts,e=.ref a∧iU X pins σ H s a C d fs ts∧E e (some d) H
theorem Ay.at_{X:Cx}{pins:List (Addr×Obj)}{σ:St}{H:Hp}{s s':Shared}{E:XK}{e:Value}(I:av X pins σ H s)(x:Ay X.prog X.w X.stack H s E e s'):zb X pins σ E e s':=by
 obtain⟨a,C,d,fs,T,H',rfl,os,bare,un,hok,ha,hd,hT,sz,tr,q⟩:=x
 refine⟨H',a,C,d,fs,[T],rfl,⟨I.call' os un hok bare (fun b z=>nomatch z),ha,hd,fun T' hT'=>?_,.inr ⟨T,_,rfl,tr⟩⟩,q⟩
 obtain rfl:T'=T:=by simpa using hT'
 exact⟨I.ownN sz,hT,Nat.le_trans I.sz sz⟩
section
variable {X:Cx} {pins:List (Addr×Obj)} {σ:St} {H:Hp} {s:Shared} {a C d T L:Addr} {fs:List (Str×V)} {ts:List Addr} {M:Model} {A:Around} {E:Value→Shared→Prop} {Q:Unit→Shared→Prop}
theorem iU.note(t:iU X pins σ H s a C d fs ts)(hst:X.stack=X.env::X.outer)(hfr:X.env.frame=some L)(hA:A.frames=some X.stack)
  (h:∀h' T,iU X pins σ H { s with heap:=h' } a C d fs [T]→Q () { s with heap:=h' }):wpAny M A (noteFrame (.ref a) X.env) Q E s:=by
 have hon:=t.on
 rw [hst]at hon hA
 refine XE.note_out hA hfr hon t.hid t.out fun h' T hT o tr u=>h h' T ⟨t.go o.1 tr u,t.xo,t.xd,fun T' hT'=>?_,.inr ⟨T,_,rfl,tr⟩⟩
 obtain rfl:T'=T:=by simpa using hT'
 rcases hT with hT | hT
 ·exact t.own _ hT
 ·exact⟨t.inv.ownN hT,t.inv.hok.fresh hT,Nat.le_trans t.inv.sz hT⟩
theorem iU.tr(t:iU X pins σ H s a C d fs [T]):∃fl,XE.Tr s.heap a T (.ref C) (some d) fl:=by
 rcases t.out with⟨z,_⟩ | ⟨T',fl',z,tr⟩
 ·cases z
 ·cases z;exact⟨fl',tr⟩
end
section
variable {X:Cx} {k:Nat} {f C fI L:Addr} {fd:FuncData} {ps:List Str} {sp:Sp} {no:List Str} {x y v n r:Str} {p pos cpos np vp hpos rp rn apos spos:Pos} {e:Expr} {es:List Expr} {t:TA} {iv ie ir:Nat}
end
end L2
namespace XE
open PySem
open Sem (wp)
section
variable {prog:Program} {w:World} {A:Around} {E:Value→Shared→Prop} {h:Heap} {g:Array GenState} {d:Drawn} {t:Nat} {os:OsState}
variable {nm q:Str} {C N a:Addr} {bs bm bmB:List Value} {sn:List Str} {sub:List Value} {ab:Bool} {col:Option Bool} {dd:Option Addr} {k0 k1 k2 k3 k5:Option Value} {B newId:String}
 {mN:Str→Option Value} {no:Str→Prop} {o:Obj} {vs:Array Value}
end
end XE
namespace L2
open PySem PySem.Spec PyProof.Rows
end L2
namespace L2
open PySem PySem.Spec PyProof.Rows
end L2
namespace L2
open PySem PySem.Spec PyProof.Rows
section
variable {X:Cx} {k j:Nat} {ps qs:List Str} {sp sq:Sp} {x y v n r f:Str} {p pos cpos np vp hpos rp rn apos spos:Pos} {e o value:Expr} {es:List Expr} {ta:TE} {t:TA} {E:XK} {C L:Addr} {no:List Str} {iv ie ir:Nat}
end
section
variable {X:Cx}
end
end L2
namespace L2
open PySem PySem.Spec PyProof.Rows
section
variable {K:PySem.W.Frag} {C fI S N c:Addr} {nm q f:Str} {bs sub:List Value} {sn:List Str} {ab b:Bool} {col:Option Bool} {dd:Option Addr} {k0 k1 k2 k3 k5:Option Value} {c0:Value} {ds:Option Addr} {cd:ClassData} {sl:Array (Option Value)} {T:String}
end
end L2
namespace L2
open PySem PySem.Spec PyProof.Rows
def TJ:=Str→L2.St→Hp→VK→Prop
section
variable {X:Cx} {es:List Expr} {e e1 e2:Expr} {t:TJ} {te:TE} {pos:Pos} {x:Str}
theorem PS.nox{st:Stmt}{t:TS}(h:PS X.nox st t):PS X st t:=fun pins s σ H D I hw=>
 wpAny_mono (h pins s σ H D (I.wish _) hw) (fun f s1 q=>SP.unwish q) fun _ _ z=>z.elim
theorem oF:dq X (inplaceOp .Mult) (rI IntMulOk fun i j=>.int (i * j)):=zy fun _ _ _ _ _ _ _ hc q=>imul_int q hc
end
end L2
namespace L2
open PySem PySem.Spec PyProof.Rows
theorem tG{P:Program}{w:World}{K:PySem.W.Frag}{tg:Expr}(it:Addr)(lo:Int)(n:Nat):lH P w K tg (rQ lo n) [it] it (fun i h=>IsLongIter h it (lo+(i:Nat) * 1) ((n:Int) - (i:Nat)) 1) where
 mem:=by simp
 obj:=fun i h st b hb=>by
  have e:b=it:=by simpa using hb
  subst e
  exact⟨_,st,fun v z=>by
   have z':Data.fields _=Data.cell v:=z
   cases z'⟩
 keep:=fun i h h' st k=>k it (by simp) _ st
 item:=by
  intro X hP hw hK hc i pins s σ H E I hf st hg
  subst hP hw hK
  obtain⟨f0,f1,f2,f3,f4,f5⟩:=hf it (by simp)
  have W:=Walks.longrange (prog:=X.prog) (w:=X.w) (I.ok.hd hc) it lo 1 n
  refine W.item i s _ _ hg st fun v h' tk hv st' kk=>?_
  obtain⟨t,rfl⟩:=hv
  have I1:av X pins σ H { s with heap:=h',toks:=tk }:=I.turned (fun b o hb e=>kk b o (by simpa using hb) e) f0 f1 f3 f4 f5
  refine⟨_,rfl,mj (s:={ s with heap:=h',toks:=tk }) (n:="longrange_iterator") st' rfl rfl (by decide) ⟨.int (lo+i),H,I1,⟨t,?_⟩,⟨rfl,rfl⟩,st',fun b hb=>(hf b hb).1⟩⟩
  rw [Int.mul_one]
 done:=by
  intro X hP hw hK hc i pins s σ H E I hf st hg
  subst hP hw hK
  obtain⟨f0,f1,f2,f3,f4,f5⟩:=hf it (by simp)
  exact wpAny_pyNext_long_end (I.ok.hd hc) st (by have:n≤i:=hg;omega) fun h' eb=>⟨rfl,I.turned (t':=s.toks) (fun b o hb e=>eb b o hb e) f0 f1 f3 f4 f5⟩
 self:=fun _ _ _ _ _ st h=>wpAny_pyIter_longiter st h
section
variable {X:Cx} {tg:Expr}
theorem tj{pins:List (Addr×Obj)}{σ:St}{H:Hp}{s:Shared}{R:It→Hp→Prop}{E:Value→Shared→Prop}{lo hi:Int}{t u v:Tok}{tk:Nat}(I:av X pins σ H s)
  (q:R (rQ lo (hi - lo).toNat) H):wpAny (model X.prog X.w) X.A (pyIter (.ref s.heap.objs.size)) (y6 X pins σ tg R) E { s with heap:=s.heap.push { cls:=.type "range",data:=.fields #[.int lo t,.int hi u,.int 1 v] },toks:=tk }:=by
 have I1:av X pins σ H { s with heap:=s.heap.push { cls:=.type "range",data:=.fields #[.int lo t,.int hi u,.int 1 v] },toks:=tk }:=I.kept fun b o e=>Heap.get?_push_of_some _ e
 have e1:lo+((0:Nat):Int) * 1=lo:=by simp
 have e2:(((hi - lo).toNat:Nat):Int) - ((0:Nat):Int)=Builtin.Range.rangeSize lo hi 1:=by rw [rangeSize_one];split<;>omega
 cases hs:Builtin.Range.small lo hi 1 with
 | true=>
  refine wpAny_pyIter_range (IsRange.new ..) hs ?_
  refine⟨(s.heap.push { cls:=.type "range",data:=.fields #[.int lo t,.int hi u,.int 1 v] }).objs.size,[(s.heap.push { cls:=.type "range",data:=.fields #[.int lo t,.int hi u,.int 1 v] }).objs.size],_,_,H,rfl,
   I1.kept (t':=tk) fun b o e=>Heap.get?_push_of_some _ e,lA _ lo (hi - lo).toNat,?_,fun b hb=>?_,q⟩
  ·show IsRangeIter _ _ (lo+((0:Nat):Int) * 1) ((((hi - lo).toNat:Nat):Int) - ((0:Nat):Int)) 1
   rw [e1,e2]
   exact Heap.get?_push_size _ rfl
  ·have e:b=(s.heap.push { cls:=.type "range",data:=.fields #[.int lo t,.int hi u,.int 1 v] }).objs.size:=by simpa using hb
   subst e
   exact I1.fpOk (Nat.le_refl _) (I1.hok.fresh (Nat.le_refl _))
 | false=>
  refine wpAny_pyIter_longrange (IsRange.new ..) hs ?_
  refine⟨(s.heap.push { cls:=.type "range",data:=.fields #[.int lo t,.int hi u,.int 1 v] }).objs.size,[(s.heap.push { cls:=.type "range",data:=.fields #[.int lo t,.int hi u,.int 1 v] }).objs.size],_,_,H,rfl,
   I1.kept (t':=tk) fun b o e=>Heap.get?_push_of_some _ e,tG _ lo (hi - lo).toNat,?_,fun b hb=>?_,q⟩
  ·show IsLongIter _ _ (lo+((0:Nat):Int) * 1) ((((hi - lo).toNat:Nat):Int) - ((0:Nat):Int)) 1
   rw [e1,e2]
   exact Heap.get?_push_size _ rfl
  ·have e:b=(s.heap.push { cls:=.type "range",data:=.fields #[.int lo t,.int hi u,.int 1 v] }).objs.size:=by simpa using hb
   subst e
   exact I1.fpOk (Nat.le_refl _) (I1.hok.fresh (Nat.le_refl _))
def eP(ta:TA):TI:=fun σ H R=>ta σ H fun vs H1=>∃i j:Int,vs=[.int i,.int j]∧R (rQ i (j - i).toNat) H1
theorem qm{a b:Expr}{ta:TA}{p pos:Pos}(hg:Gl X "range")(hm:X.mg "range"=none)(ha:PA X [a,b] ta)(hs:starEach [a,b] X.env=[(false,eval a X.env),(false,eval b X.env)]:=by rfl)(hs2:starEach [b] X.env=[(false,eval b X.env)]:=by rfl):
  PI X tg (.Call (.Name "range" p) [a,b] [] pos) (eP ta):=by
 intro pins s σ H R I h
 refine Call_ (dS I hg hm boot_range (PyProof.Rows.callWith_type1 (cj (ha pos pins s σ H _ I h) fun us s1 ⟨vs,H1,I1,r1,q1⟩=>?_) (by rw [hs,hs2]) (by rw [hs2];rfl)))
 obtain⟨i,j,e,q⟩:=q1
 subst e
 cases r1 with
 | cons r rr=>
  cases rr with
  | cons r' rr=>
   cases rr
   obtain⟨t,rfl⟩:=r
   obtain⟨t',rfl⟩:=r'
   exact call_range_2 (tj I1 q)
end
end L2
namespace L2
open PySem PySem.Spec PyProof.Rows
abbrev ze(P:Program)(w:World):HeapKind P w (List Int):=tupleKind (intKind P w)
section
variable {P:Program} {w:World}
abbrev tL(P:Program)(w:World)(h:Heap)(c:List Int)(a:Addr):Prop:=IsTupleKey (intKind P w) h c a
def fq(P:Program)(w:World)(h:Heap):Option (List Int)→Value→Prop
 | none,v=>v=.none
 | some c,v=>∃a,v=.ref a∧tL P w h c a
inductive cJ(P:Program)(w:World)(h:Heap):List (Option (List Int))→List Value→Prop
 | nil:cJ P w h [] []
 | cons {k:Option (List Int)} {v:Value} {ks:List (Option (List Int))} {vs:List Value}:fq P w h k v→cJ P w h ks vs→cJ P w h (k::ks) (v::vs)
def rP(P:Program)(w:World)(h:Heap)(ks:List (Option (List Int)))(a:Addr):Prop:=∃o items n,h.get? a=some o∧o.cls=.type "tuple"∧o.data=.seq items n∧cJ P w h ks items.toList
variable {h h':Heap}
theorem fq.inj{x y:Option (List Int)}{v:Value}(hx:fq P w h x v)(hy:fq P w h y v):x=y:=by
 cases x with
 | none=>
  cases y with
  | none=>rfl
  | some c=>obtain⟨a,e,_⟩:=hy;rw [show v=.none from hx]at e;cases e
 | some c=>
  obtain⟨a,rfl,ha⟩:=hx
  cases y with
  | none=>have hy:Value.ref a=.none:=hy;cases hy
  | some d=>
   obtain⟨b,e,hb⟩:=hy
   cases e
   rw [ha.inj hb]
theorem cJ.inj{x y:List (Option (List Int))}{vs:List Value}(hx:cJ P w h x vs)(hy:cJ P w h y vs):x=y:=by
 induction hx generalizing y with
 | nil=>cases hy;rfl
 | cons h1 _ ih=>
  cases hy with
  | cons h2 t2=>rw [h1.inj h2,ih t2]
theorem cJ.length{x:List (Option (List Int))}{vs:List Value}(hx:cJ P w h x vs):x.length=vs.length:=by
 induction hx with
 | nil=>rfl
 | cons _ _ ih=>simp [ih]
theorem fq.imp{k:Option (List Int)}{v:Value}(f:∀c a,tL P w h c a→tL P w h' c a)(x:fq P w h k v):fq P w h' k v:=by
 cases k with
 | none=>exact x
 | some c=>obtain⟨a,e,ha⟩:=x;exact⟨a,e,f c a ha⟩
theorem cJ.imp{x:List (Option (List Int))}{vs:List Value}(f:∀c a,tL P w h c a→tL P w h' c a)(hx:cJ P w h x vs):cJ P w h' x vs:=by
 induction hx with
 | nil=>exact .nil
 | cons h1 _ ih=>exact .cons (h1.imp f) ih
theorem rP.typeIs{s:Shared}{ks:List (Option (List Int))}{a:Addr}(x:rP P w s.heap ks a):s.TypeIs (.ref a) "tuple":=let ⟨o,_,_,ho,hc,_⟩:=x;⟨o,ho,hc⟩
theorem rP.inj{a:Addr}{x y:List (Option (List Int))}(hx:rP P w h x a)(hy:rP P w h y a):x=y:=by
 obtain⟨o,items,n,ho,_,hd,hi⟩:=hx
 obtain⟨o',items',n',ho',_,hd',hi'⟩:=hy
 obtain rfl:o=o':=Option.some.inj (ho.symm.trans ho')
 rw [hd]at hd'
 injection hd' with h1 _
 subst h1
 exact hi.inj hi'
theorem rP.keeps{ks:List (Option (List Int))}{a d:Addr}{o:Obj}{es ep}(x:rP P w h ks a)(ho:h.get? d=some o)(hd:o.data=.dict es ep)(hs:Heap.SameBut d h h'):rP P w h' ks a:=by
 obtain⟨o',items,n,ho',hc,hd',hi⟩:=x
 have hne:a≠d:=by
  rintro rfl
  obtain rfl:o'=o:=Option.some.inj (ho'.symm.trans ho)
  rw [hd]at hd';exact nomatch hd'
 exact⟨o',items,n,(hs.2 a hne).trans ho',hc,hd',hi.imp fun c b x=>x.keeps ho hd hs⟩
def uC:Int:=reduceHash 0xFCA86420
def ku(P:Program)(w:World):Option (List Int)→Int
 | none=>uC
 | some c=>tupleKeyHash (intKind P w) c
def jh:Option (List Int)→Nat
 | none=>1
 | some c=>c.length+1
def uB(P:Program)(w:World)(ks:List (Option (List Int))):Int:=reduceHash (Builtin.Tuple.tupleHashOf (ks.map (ku P w)))
def qb(ks:List (Option (List Int))):Nat:=(ks.map jh).sum+1
variable {A:Around} {E:Value→Shared→Prop} {s:Shared}
theorem sC{k:Option (List Int)}{v:Value}{Q:Int→Shared→Prop}(hu:A.units < cLine)(hk:fq P w s.heap k v)(q:Q (ku P w k) { s with toks:=s.toks+jh k }):wpAny (model P w) A (pyHash v) Q E s:=by
 cases k with
 | none=>
  have hk:v=.none:=hk
  subst hk
  exact PySem.W.pyHash_slot (T:="NoneType") rfl F.slot_NoneType_hash F.entry_NoneType_hash (F.args_NoneType_hash_1 _) (beq_builtin_none _) (.inr hu) (wpAny_bind (wpAny_pure (wpAny_bind (wpAny_mkInt (wpAny_pure ⟨_,_,rfl,q⟩)))))
 | some c=>
  obtain⟨a,rfl,ha⟩:=hk
  exact wpAny_pyHash_tuple hu ha q
theorem x9{ks:List (Option (List Int))}{a:Addr}{Q:Int→Shared→Prop}(hu:A.units+1 < cLine)(hk:rP P w s.heap ks a)(q:Q (uB P w ks) { s with toks:=s.toks+qb ks }):wpAny (model P w) A (pyHash (.ref a)) Q E s:=by
 have hT:=hk.typeIs
 obtain⟨o,items,n,ho,_,hd,hi⟩:=hk
 refine PySem.W.pyHash_slot (T:="tuple") hT F.slot_tuple_hash F.entry_tuple_hash (F.args_tuple_hash_1 _) (beq_builtin_none _) (.inr (by omega)) ?_
 show wpAny _ _ (Builtin.Tuple.tupleItemsOf (.ref a) >>= _) _ _ s
 refine wpAny_bind (wpAny_tupleItemsOf ho hd ?_)
 refine wpAny_bind ?_
 rw [←Array.forIn_toList]
 refine wpAny_forIn_list _
  (fun rest (b:Array Int) s'=>∃done left,ks=done++left∧cJ P w s.heap left rest∧b.toList=done.map (ku P w)∧s'={ s with toks:=s.toks+(done.map jh).sum })
  _ ?_ ?_ _ _ ⟨[],ks,rfl,hi,rfl,rfl⟩
 ·rintro x rest b s' ⟨done,left,rfl,hl,hb,rfl⟩
  cases hl with
  | @cons k _ ks' _ h1 hl'=>
   refine wpAny_bind (sC (A:=A.in1) (by show A.units+1 < cLine;exact hu) h1 ?_)
   first
    | exact wpAny_pure ⟨done++[k],ks',by simp,hl',by simp [hb],by simp [Nat.add_assoc]⟩
    | exact wpAny_bind (wpAny_pure (wpAny_pure ⟨done++[k],ks',by simp,hl',by simp [hb],by simp [Nat.add_assoc]⟩))
 ·rintro b s' ⟨done,left,rfl,hl,hb,rfl⟩
  cases hl
  rw [List.append_nil]at q
  show wpAny _ _ (retInt (Builtin.Tuple.tupleHashOf b.toList)) _ _ _
  rw [hb]
  refine wpAny_bind (wpAny_mkInt (wpAny_pure ⟨_,_,rfl,?_⟩))
  unfold uB qb at q
  simpa [Nat.add_assoc]using q
theorem tL.any{P':Program}{w':World}{c:List Int}{a:Addr}(x:tL P w h c a):tL P' w' h c a:=by
 obtain⟨o,items,n,ho,hc,hd,hi⟩:=x
 refine⟨o,items,n,ho,hc,hd,?_⟩
 generalize items.toList=vs at hi
 induction hi with
 | nil=>exact .nil
 | cons h1 _ ih=>exact .cons h1 ih
theorem tL.isTuple{c:List Int}{a:Addr}(x:tL P w h c a):∃items,h.IsTuple a items:=by
 obtain⟨o,items,n,ho,hc,hd,_⟩:=x
 exact⟨items,o,ho,hc,n,hd⟩
theorem v7{x y:Option (List Int)}{u v:Value}(hu:A.units < cLine)(hx:fq P w s.heap x u)(hy:fq P w s.heap y v):SeqAt.EqAt A s u v (decide (x=y)):=by
 cases x with
 | none=>
  have hx:u=.none:=hx
  subst hx
  cases y with
  | none=>
   have hy:v=.none:=hy
   subst hy
   rw [decide_eq_true rfl]
   exact SeqAt.EqAt.same _
  | some c=>
   obtain⟨b,rfl,hb⟩:=hy
   obtain⟨items,ht⟩:=hb.isTuple
   rw [decide_eq_false (fun e=>by cases e)]
   exact SeqAt.EqAt.none_tuple ht hu
 | some c=>
  obtain⟨a,rfl,ha⟩:=hx
  cases y with
  | none=>
   have hy:v=.none:=hy
   subst hy
   obtain⟨items,ht⟩:=ha.isTuple
   rw [decide_eq_false (fun e=>by cases e)]
   exact SeqAt.EqAt.tuple_none ht hu
  | some d=>
   obtain⟨b,rfl,hb⟩:=hy
   have e:decide (some c=some d)=decide (c=d):=by
    by_cases h:c=d
    ·rw [h,decide_eq_true rfl,decide_eq_true rfl]
    ·rw [decide_eq_false h,decide_eq_false (fun z=>h (Option.some.inj z))]
   rw [e]
   exact fun P' w' E Q q=>wpAny_eqBool_tuple hu ha.any hb.any q
theorem cJ.at{x:List (Option (List Int))}{vs:List Value}(hx:cJ P w h x vs){j:Nat}{v:Value}(e:vs[j]?=some v):∃k,x[j]?=some k∧fq P w h k v:=by
 induction hx generalizing j with
 | nil=>cases e
 | cons h1 _ ih=>
  cases j with
  | zero=>cases e;exact⟨_,rfl,h1⟩
  | succ j=>exact ih e
theorem oN{α:Type}[DecidableEq α]:∀(x y:List α),((List.range (min x.length y.length)).all (fun j=>decide (x[j]?=y[j]?)) && x.length == y.length)=decide (x=y):=by
 intro x y
 rw [Bool.eq_iff_iff,Bool.and_eq_true,List.all_eq_true,decide_eq_true_iff]
 constructor
 ·rintro⟨h1,h2⟩
  have hl:x.length=y.length:=by simpa using h2
  refine List.ext_getElem? fun j=>?_
  by_cases hj:j < x.length
  ·exact of_decide_eq_true (h1 j (List.mem_range.mpr (by omega)))
  ·rw [List.getElem?_eq_none (by omega),List.getElem?_eq_none (by omega)]
 ·rintro rfl
  simp
theorem As{x y:List (Option (List Int))}{a b:Addr}{Q:Bool→Shared→Prop}(hu:A.units+1 < cLine)(hx:rP P w s.heap x a)(hy:rP P w s.heap y b)(q:Q (decide (x=y)) s):wpAny (model P w) A (eqBool (.ref a) (.ref b)) Q E s:=by
 by_cases hab:a=b
 ·subst hab
  obtain rfl:=hx.inj hy
  rw [decide_eq_true rfl]at q
  exact SeqAt.EqAt.same (.ref a) P w E Q q
 ·obtain⟨oa,xs,na,hoa,hca,hda,hia⟩:=hx
  obtain⟨ob,ys,nb,hob,hcb,hdb,hib⟩:=hy
  have ht:SeqAt.EqAt A s (.ref a) (.ref b) ((List.range (min xs.size ys.size)).all (fun j=>decide (x[j]?=y[j]?)) && xs.size == ys.size):=by
   refine SeqAt.EqAt.of_refs hab (SeqAt.RcAt.tuples ⟨oa,hoa,hca,na,hda⟩ ⟨ob,hob,hcb,nb,hdb⟩ (by omega) fun j j1 j2=>?_)
   obtain⟨k1,e1,i1⟩:=hia.at (j:=j) (v:=xs[j]) (by simp [j1])
   obtain⟨k2,e2,i2⟩:=hib.at (j:=j) (v:=ys[j]) (by simp [j2])
   have e:decide (x[j]?=y[j]?)=decide (k1=k2):=by
    rw [e1,e2]
    by_cases h:k1=k2
    ·rw [h,decide_eq_true rfl,decide_eq_true rfl]
    ·rw [decide_eq_false h,decide_eq_false (fun z=>h (Option.some.inj z))]
   rw [e]
   exact v7 (A:=A.in1) (by show A.units+1 < cLine;exact hu) i1 i2
  have lx:xs.size=x.length:=by rw [hia.length];simp
  have ly:ys.size=y.length:=by rw [hib.length];simp
  rw [lx,ly,oN]at ht
  exact ht P w E Q q
theorem vQ{n:Nat}{ks:List Int}{a:Addr}{Q:Bool→Shared→Prop}(hk:tL P w s.heap ks a)(q:Q true s):wpAny (model P w) A (eqIsQuiet (n+1) (.ref a)) Q E s:=by
 have hT:=hk.typeIs
 obtain⟨o,items,n,ho,_,hd,hi⟩:=hk
 unfold eqIsQuiet
 refine wpAny_bind (wpAny_specialOf hT F.slot_tuple_eq.lookup ?_)
 show wpAny _ _ (isInstance (.ref a) (.type "tuple") >>= _) _ _ s
 refine wpAny_bind (wpAny_isInstance hT isSubtype_tuple_tuple ?_)
 simp only [Bool.not_true,Bool.false_eq_true,if_false]
 refine wpAny_bind (wpAny_seqItems ho hd ?_)
 refine wpAny_bind ?_
 show wpAny _ _ (forIn items _ _) _ _ s
 rw [←Array.forIn_toList]
 refine wpAny_forIn_list _ (fun rest r s'=>r.1=none∧s'=s∧∀v∈rest,carriedByValue v=true) _ ?_ ?_ _ _ ⟨rfl,rfl,hi.byValue⟩
 ·rintro v rest r s' ⟨hr,rfl,hall⟩
  rw [eqIsQuiet_byValue _ (hall v List.mem_cons_self)]
  refine wpAny_bind (wpAny_pure ?_)
  simp only [Bool.not_true,Bool.false_eq_true,if_false]
  exact wpAny_pure ⟨rfl,rfl,fun u hu'=>hall u (List.mem_cons_of_mem _ hu')⟩
 ·rintro⟨r1,r2⟩ s' ⟨hr,rfl,_⟩
  simp only at hr
  subst hr
  exact wpAny_pure q
theorem wq{ks:List (Option (List Int))}{a:Addr}{Q:Bool→Shared→Prop}(hk:rP P w s.heap ks a)(q:Q true s):wpAny (model P w) A (eqIsQuiet 8 (.ref a)) Q E s:=by
 have hT:=hk.typeIs
 obtain⟨o,items,n,ho,_,hd,hi⟩:=hk
 unfold eqIsQuiet
 refine wpAny_bind (wpAny_specialOf hT F.slot_tuple_eq.lookup ?_)
 show wpAny _ _ (isInstance (.ref a) (.type "tuple") >>= _) _ _ s
 refine wpAny_bind (wpAny_isInstance hT isSubtype_tuple_tuple ?_)
 simp only [Bool.not_true,Bool.false_eq_true,if_false]
 refine wpAny_bind (wpAny_seqItems ho hd ?_)
 refine wpAny_bind ?_
 show wpAny _ _ (forIn items _ _) _ _ s
 rw [←Array.forIn_toList]
 refine wpAny_forIn_list _ (fun rest r s'=>r.1=none∧s'=s∧∃ks',cJ P w s.heap ks' rest) _ ?_ ?_ _ _ ⟨rfl,rfl,ks,hi⟩
 ·rintro v rest r s' ⟨hr,rfl,ks',hall⟩
  cases hall with
  | @cons k _ ks2 _ h1 h2=>
   have go:wpAny (model P w) A (eqIsQuiet 7 v) (fun b s2=>b=true∧s2=s') E s':=by
    cases k with
    | none=>
     have h1:v=.none:=h1
     subst h1
     rw [eqIsQuiet_byValue _ rfl]
     exact wpAny_pure ⟨rfl,rfl⟩
    | some c=>
     obtain⟨b,rfl,hb⟩:=h1
     exact vQ (n:=6) hb ⟨rfl,rfl⟩
   refine wpAny_bind (wpAny_mono go (fun b s2 ⟨e1,e2⟩=>?_) fun _ _ x=>x)
   subst e1 e2
   simp only [Bool.not_true,Bool.false_eq_true,if_false]
   exact wpAny_pure ⟨rfl,rfl,ks2,h2⟩
 ·rintro⟨r1,r2⟩ s' ⟨hr,rfl,_⟩
  simp only at hr
  subst hr
  exact wpAny_pure q
end
def zr(P:Program)(w:World):HeapKind P w (List (Option (List Int))) where
 is:=rP P w
 hash:=uB P w
 draws:=qb
 room:=fun A=>A.units+1 < cLine
 inj:=fun hx hy=>hx.inj hy
 keeps:=fun x ho hd hs=>x.keeps ho hd hs
 pyHash:=fun hu hk h=>x9 hu hk h
 eqBool:=fun hu hx hy h=>As hu hx hy h
 quiet:=fun hk h=>wq hk h
end L2
namespace L2
open PySem PySem.Spec PyProof.Rows
structure KK(P:Program)(w:World)(κ:Type)[DecidableEq κ] where
 knd:HeapKind P w κ
 at_:Hp→κ→Addr→Prop
 same:∀{H H':Hp} {k:κ} {a:Addr},aq H H'→at_ H k a→at_ H' k a
 upd_:∀{H:Hp} {k:κ} {a z:Addr} {o:HO},at_ H k a→(∀vs,H z≠some (.tup vs))→at_ (upd H z o) k a
 is_:∀{H:Hp} {h:Heap} {k:κ} {a:Addr},iq P w H h→at_ H k a→knd.is h k a
 room:∀{A:Around},A.units+2 < cLine→knd.room A.in1
def lF{κ:Type}(x:κ×Addr×V)(y:κ×Addr×Value):Prop:=x.1=y.1∧x.2.1=y.2.1∧aK x.2.2 y.2.2
section
variable {P:Program} {w:World} {κ:Type} [DecidableEq κ] (kk:KK P w κ)
def dO(d:Addr)(xs:List (κ×Addr×V)):HO:=.ext fun h=>(d == sysModules)=false∧∃o es ep ys,h.get? d=some o∧o.ExactDict∧o.data=.dict es ep∧es.toList=ys.map (entryOfKey kk.knd)∧Paired lF xs ys
structure aP(H:Hp)(d:Addr)(xs:List (κ×Addr×V)):Prop where
 ob:H d=some (dO kk d xs)
 ks:∀x∈xs,kk.at_ H x.1 x.2.1
 nd:(xs.map (·.1)).Nodup
 sz:xs.length≤100000
def eN(xs:List (κ×Addr×V))(k:κ):Option V:=(xs.find? fun x=>decide (x.1=k)).map (·.2.2)
def ee(xs:List (κ×Addr×V))(k:κ)(a:Addr)(v:V):List (κ×Addr×V):=if (eN xs k).isSome then xs.map (fun x=>if x.1=k then(x.1,x.2.1,v)else x)else xs++[(k,a,v)]
variable {kk}
theorem aP.same{H H':Hp}{d:Addr}{xs:List (κ×Addr×V)}(h:aP kk H d xs)(s:aq H H'):aP kk H' d xs:=⟨s _ _ h.ob,fun x hx=>kk.same s (h.ks x hx),h.nd,h.sz⟩
theorem Paired.len'{α β:Type}{F:α→β→Prop}{l:List α}{m:List β}(h:Paired F l m):l.length=m.length:=Paired.length h
theorem wm{xs:List (κ×Addr×V)}{ys:List (κ×Addr×Value)}(h:Paired lF xs ys):xs.map (·.1)=ys.map (·.1):=by
 induction h with
 | nil=>rfl
 | cons r _ ih=>rw [List.map_cons,List.map_cons,ih,r.1]
theorem pQ{xs:List (κ×Addr×V)}{ys:List (κ×Addr×Value)}(h:Paired lF xs ys)(k:κ):(eN xs k=none∧atKey ys k=none)∨∃v p,eN xs k=some v∧atKey ys k=some p∧aK v p.2:=by
 induction h with
 | nil=>exact .inl ⟨rfl,rfl⟩
 | @cons x y xs ys r _ ih=>
  unfold eN atKey at ih ⊢
  rw [List.find?_cons,List.find?_cons,←r.1]
  by_cases hk:x.1=k
  ·rw [decide_eq_true hk]
   exact .inr ⟨_,_,rfl,rfl,r.2.2⟩
  ·rw [decide_eq_false hk]
   exact ih
theorem qH{xs:List (κ×Addr×V)}{ys:List (κ×Addr×Value)}(h:Paired lF xs ys){k:κ}{a:Addr}{v:V}{u:Value}(r:aK v u):Paired lF (ee xs k a v) (storedH ys k a u):=by
 rcases pQ h k with⟨h1,h2⟩ | ⟨v',p,h1,h2,_⟩
 ·rw [storedH_new h2]
  unfold ee
  rw [h1]
  show Paired lF (xs++[(k,a,v)]) (ys++[(k,a,u)])
  clear h1 h2
  induction h with
  | nil=>exact .cons ⟨rfl,rfl,r⟩ .nil
  | cons r' _ ih=>exact .cons r' ih
 ·rw [storedH_old h2]
  unfold ee
  rw [h1]
  show Paired lF (xs.map _) (ys.map _)
  clear h1 h2
  induction h with
  | nil=>exact .nil
  | @cons x y xs ys r' _ ih=>
   rw [List.map_cons,List.map_cons]
   refine .cons ?_ ih
   unfold putAt
   rw [←r'.1]
   by_cases hk:x.1=k
   ·rw [if_pos hk,if_pos hk]
    exact⟨rfl,r'.2.1,r⟩
   ·rw [if_neg hk,if_neg hk]
    exact r'
variable {X:Cx} {pins:List (Addr×Obj)} {σ:St} {H:Hp} {s:Shared} {d a:Addr} {xs:List (κ×Addr×V)} {k:κ} {A:Around} {E:Value→Shared→Prop}
theorem i0{h:Heap}(ok:iq P w H h)(D:aP kk H d xs):(d == sysModules)=false∧∃ys,h.DictOfH kk.knd d ys∧Paired lF xs ys:=by
 obtain⟨⟨hd,o,es,ep,ys,ho,hx,hda,he,hp⟩,_⟩:=ok d _ D.ob
 refine⟨hd,ys,⟨o,es,ep,ho,hx,hda,he,fun y hy=>?_,by rw [←wm hp];exact D.nd⟩,hp⟩
 have:∀(xs:List (κ×Addr×V)) (ys:List (κ×Addr×Value)),Paired lF xs ys→(∀x∈xs,kk.at_ H x.1 x.2.1)→∀y∈ys,kk.at_ H y.1 y.2.1:=by
  intro xs ys h
  induction h with
  | nil=>intro _ y hy;cases hy
  | @cons x y xs ys r _ ih=>
   intro hk y' hy
   rcases List.mem_cons.mp hy with rfl | hy
   ·have:=hk x (by simp)
    rw [r.1,r.2.1]at this
    exact this
   ·exact ih (fun x hx=>hk x (by simp [hx])) y' hy
 exact kk.is_ ok (this xs ys hp D.ks y hy)
theorem av.sysB(I:av X pins σ H s):sysModules < s.heap.objs.size:=Nat.lt_trans (by decide) (I.mod.glob.keeps I.bk).lt
variable {kk':KK X.prog X.w κ}
theorem qV{h':Heap}{t':Nat}{v:V}{u:Value}{ys:List (κ×Addr×Value)}(I:av X pins σ H s)(D:aP kk' H d xs)(hd:(d == sysModules)=false)(hp:Paired lF xs ys)(r:aK v u)(dd:h'.DictOfH kk'.knd d (storedH ys k a u))(hs:Heap.SameBut d s.heap h'):
  av X pins σ (upd H d (dO kk' d (ee xs k a v))) { s with heap:=h',toks:=t' }:=by
 obtain⟨o,es,ep,ho,hx,hda,he,_,_⟩:=dd
 refine I.write (x:=d) (e:=d) (by rw [D.ob];trivial) (.inl rfl) (fun b ob hb q=>?_) ⟨o,ho⟩ ⟨⟨hd,o,es,ep,_,ho,hx,hda,he,qH hp r⟩,⟨o,ho⟩,?_⟩
 ·rw [hs.2 b hb]
  exact q
 ·rintro h1 h2 ⟨g1,o',es',ep',ys',ho',r'⟩ keep
  exact⟨g1,o',es',ep',ys',keep _ ho',r'⟩
theorem zg{v:V}{u:Value}{Q:Unit→Shared→Prop}(hu:X.A.units+2 < cLine)(I:av X pins σ H s)(D:aP kk' H d xs)(hk:kk'.at_ H k a)(r:aK v u)(q:∀s',av X pins σ (upd H d (dO kk' d (ee xs k a v))) s'→Q () s'):
  wpAny (model X.prog X.w) X.A (setItem (.ref d) (.ref a) u) Q E s:=by
 obtain⟨hd,ys,dd,hp⟩:=i0 I.hok D
 have hl:ys.length≤sizeLine:=by
  have:=D.sz
  have:=Paired.len' hp
  rw [sizeLine_eq];omega
 exact wpAny_setItem_heap (kk'.room hu) (kk'.is_ I.hok hk) dd (fun h' dd' hs=>q _ (qV I D hd hp r dd' hs)) hl
theorem xq{Q:Bool→Shared→Prop}(hu:X.A.units+2 < cLine)(I:av X pins σ H s)(D:aP kk' H d xs)(hk:kk'.at_ H k a)(q:∀t,Q (eN xs k).isSome { s with toks:=t }):
  wpAny (model X.prog X.w) X.A (contains (.ref d) (.ref a)) Q E s:=by
 obtain⟨hd,ys,dd,hp⟩:=i0 I.hok D
 unfold contains
 try with_reducible refine wpAny_holding ?_
 refine wpAny_bind (wpAny_specialOf dd.typeIs slot_dict_contains.lookup ?_)
 show wpAny _ _ (if (some (Value.builtin "dict.__contains__") == some Value.none)=true then _ else _) _ E s
 rw [if_neg (by rw [beq_builtin_none];exact Bool.false_ne_true)]
 refine wpAny_bind (wpAny_callSpecialUnlessNone?_slot (name:=Str.ofString "__contains__") dd.typeIs slot_dict_contains
  (wpAny_call_entry slot_dict_contains dd.typeIs entry_dict_contains ?_ (args_dict_contains _ _)))
 show wpAny _ _ (dictGet d (.ref a) >>= _) _ _ s
 refine wpAny_bind (wpAny_dictGet_heap (kk'.room hu) (kk'.is_ I.hok hk) dd ?_)
 rcases pQ hp k with⟨h1,h2⟩ | ⟨v,p,h1,h2,_⟩
 ·rw [h2]
  rw [h1]at q
  show wpAny _ _ (Builtin.Dict.pendingKey? d (.ref a) >>= _) _ _ _
  exact wpAny_bind (wpAny_pendingKey_other hd (wpAny_pure ⟨_,rfl,wpAny_truthy_bool (q _)⟩))
 ·rw [h2]
  rw [h1]at q
  show wpAny _ _ (ret (.bool true)) _ _ _
  exact wpAny_pure ⟨_,rfl,wpAny_truthy_bool (q _)⟩
def xa(kk:KK P w κ):R2:=fun x y H Q=>∃d a k xs,x=.ref a∧y=.ref d∧aP kk H d xs∧kk.at_ H k a∧Q (.bl (!(eN xs k).isSome)) H
def zP(kk:KK P w κ):R2:=fun x y H Q=>∃d a k xs,x=.ref a∧y=.ref d∧aP kk H d xs∧kk.at_ H k a∧Q (.bl (eN xs k).isSome) H
theorem uM(hu:X.A.units+2 < cLine):dq X (compareOp .NotIn) (xa kk'):=by
 intro pins s σ H x y v u Q I rx ry h
 obtain⟨d,a,k,xs,rfl,rfl,D,hk,q⟩:=h
 cases rx
 cases ry
 show wpAny _ _ (do return Value.bool (!(←contains (.ref d) (.ref a))):Sem Value) _ _ s
 exact wpAny_bind (xq hu I D hk fun t=>wpAny_pure ⟨.bl (!(eN xs k).isSome),H,I.tok t,rfl,q⟩)
theorem zA(hu:X.A.units+2 < cLine):dq X (compareOp .In) (zP kk'):=by
 intro pins s σ H x y v u Q I rx ry h
 obtain⟨d,a,k,xs,rfl,rfl,D,hk,q⟩:=h
 cases rx
 cases ry
 show wpAny _ _ (do return Value.bool (←contains (.ref d) (.ref a)):Sem Value) _ _ s
 exact wpAny_bind (xq hu I D hk fun t=>wpAny_pure ⟨.bl (eN xs k).isSome,H,I.tok t,rfl,q⟩)
def Aw(kk:KK P w κ):R2:=fun x y H Q=>∃d a k xs v,x=.ref d∧y=.ref a∧aP kk H d xs∧kk.at_ H k a∧eN xs k=some v∧Q v H
theorem ixD(hu:X.A.units+2 < cLine):tM X (Aw kk'):=by
 intro value slice pins s σ H x y v u Q I rx ry h hs
 obtain⟨d,a,k,xs,z,rfl,rfl,D,hk,hv,q⟩:=h
 cases rx
 cases ry
 obtain⟨hd,ys,dd,hp⟩:=i0 I.hok D
 have hT:s.TypeIs (.ref d) "dict":=dd.typeIs
 rcases pQ hp k with⟨h1,_⟩ | ⟨v',p,h1,h2,r⟩
 ·rw [h1]at hv;cases hv
 rw [h1]at hv
 cases hv
 unfold subscriptTail
 refine wpAny_bind ?_
 rw [getitemInPython_of_ne hT.not_modules]
 refine wpAny_bind (wpAny_specialOf hT PySem.F.slot_dict_getitem.lookup ?_)
 have fin:wpAny (model X.prog X.w) X.A (subscripted slice false (.ref d) (.ref a)) (fun r s₃=>wpAny (model X.prog X.w) X.A (letTemporaryGo value (.ref d) r >>= fun _=>pure r) (EP X pins σ Q) X.xe s₃) X.xe s:=by
  rw [hs]
  exact wpAny_operating (wpAny_getItem_heap (kk'.room hu) (kk'.is_ I.hok hk) dd h2 (wpAny_bind (wpAny_letTemporaryGo (wpAny_pure ⟨z,H,I.tok _,r,q⟩))))
 first
  | exact wpAny_pure (wpAny_bind fin)
  | exact wpAny_bind (wpAny_pure (wpAny_bind fin))
  | exact wpAny_bind fin
def zR(kk:KK P w κ):vK:=fun o i v H Q=>∃d a k xs,o=.ref d∧i=.ref a∧aP kk H d xs∧kk.at_ H k a∧Q (upd H d (dO kk d (ee xs k a v)))
theorem yF(hu:X.A.units+2 < cLine):xJ X (zR kk'):=by
 intro pins s σ H o i v ov iv u Q I ro ri rv h
 obtain⟨d,a,k,xs,rfl,rfl,D,hk,q⟩:=h
 cases ro
 cases ri
 exact zg hu I D hk rv fun s' I'=>⟨_,I',q⟩
def zO(kk:KK P w κ):V→List V→Hp→VK→Prop:=fun x vs H Q=>∃d a k xs,x=.ref d∧vs=[.ref a]∧aP kk H d xs∧kk.at_ H k a∧Q ((eN xs k).getD .non) H
def hZ(kk:KK P w κ)(to:TE)(t:TA):TE:=fun σ H Q=>to σ H fun x H1=>(∃d xs,x=.ref d∧aP kk H1 d xs)∧t σ H1 fun vs H2=>zO kk x vs H2 Q
theorem t5(kk:KK P w κ){h:Heap}(hb:sysModules < h.objs.size){H:Hp}:cy P w H (h.push { cls:=.type "dict",data:=.dict #[] }) h.objs.size (dO kk h.objs.size []):=by
 refine⟨⟨beq_eq_false_iff_ne.mpr (Ne.symm (Nat.ne_of_lt hb)),_,#[],0,[],Heap.get?_push_size _ rfl,⟨rfl,rfl,rfl⟩,rfl,rfl,.nil⟩,⟨_,Heap.get?_push_size _ rfl⟩,?_⟩
 rintro h1 h2 ⟨g1,o',es',ep',ys',ho',r'⟩ keep
 exact⟨g1,o',es',ep',ys',keep _ ho',r'⟩
def f6(kk:KK P w κ):TE:=fun _ H Q=>∀p,H p=none→Q (.ref p) (upd H p (dO kk p []))
theorem rB{pos:Pos}:PE X (.Dict [] [] pos) (f6 kk'):=fun pins s σ H Q I h=>
 wpAny_Dict_empty ⟨.ref s.heap.objs.size,_,I.laid (a:=s.heap.objs.size) (o:=dO kk' s.heap.objs.size []) (t':=s.toks) (fun _ _ q=>Heap.get?_push_of_some _ q) (Nat.le_refl _) (t5 kk' I.sysB),rfl,h _ (I.hok.fresh (Nat.le_refl _))⟩
def gy(kk:KK P w κ)(tk tv:TE):TE:=fun σ H Q=>∀p,H p=none→tk σ (upd H p (dO kk p [])) fun x H1=>tv σ H1 fun v H2=>H2 p=some (dO kk p [])∧∃a k,x=.ref a∧kk.at_ H2 k a∧Q (.ref p) (upd H2 p (dO kk p [(k,a,v)]))
theorem wM{pos:Pos}{e1 e2:Expr}{tk tv:TE}(hu:X.A.units+2 < cLine)(h1:PE X e1 tk)(h2:PE X e2 tv)(hr:∀{B:Around},B.units=X.A.units→kk'.knd.room B):PE X (.Dict [some e1] [e2] pos) (gy kk' tk tv):=by
 intro pins s σ H Q I h
 have hn:=I.hok.fresh (Nat.le_refl s.heap.objs.size)
 have I1:=I.laid (a:=s.heap.objs.size) (o:=dO kk' s.heap.objs.size []) (h':=s.heap.push { cls:=.type "dict",data:=.dict #[] }) (t':=s.toks) (fun _ _ q=>Heap.get?_push_of_some _ q) (Nat.le_refl _) (t5 kk' I.sysB)
 rw [arm_eval_Dict,zip_pairTrees [some e1] [e2] X.env pos rfl rfl,dictDisplay_pairs (pairTrees [some e1] [e2] X.env pos) (by simp [pairTrees]) (by simp [pairTrees])]
 refine wpAny_bind (wpAny_standAt (wpAny_bind ?_))
 unfold subDict
 refine wpAny_bind (wpAny_alloc ?_)
 refine wpAny_bind (wpAny_holding ?_)
 rw [if_pos (by simp [pairTrees])]
 refine wpAny_bind (pairTrees_cons_walk (cj (h1 pins _ σ _ _ I1 (h _ hn)) fun u s1 ⟨x,H1,I1,rx,q1⟩=>cj (h2 pins s1 σ H1 _ I1 q1) fun w2 s2 ⟨v,H2,I2,rv,hob,a,k,ex,hk,q2⟩=>pairTrees_nil_walk ?_))
 subst ex
 cases rx
 have D:aP kk' H2 s.heap.objs.size []:=⟨hob,(fun _ z=>nomatch z),List.nodup_nil,Nat.zero_le _⟩
 obtain⟨hd,ys,dd,hp⟩:=i0 I2.hok D
 cases hp
 refine wpAny_holding ?_
 refine wpAny_bind ?_
 rw [List.forIn_cons]
 refine wpAny_bind (wpAny_bind (wpAny_dictSet_heap (hr rfl) (kk'.is_ I2.hok hk) dd (fun h' dd' hs=>wpAny_pure ?_) (Nat.zero_le _)))
 show wpAny _ _ (forIn [] _ _) _ _ _
 rw [List.forIn_nil]
 exact wpAny_pure (wpAny_pure (wpAny_pure (wpAny_pure ⟨.ref s.heap.objs.size,_,qV I2 D hd .nil rv dd' hs,rfl,q2⟩)))
end
theorem oH{P:Program}{w:World}:∀{c:List Int} {its:List Value},aA (c.map V.int) its→ItemsAre (intKind P w) c its
 | [],_,r=>by cases r;exact .nil
 | i::c,_,r=>by
  rw [List.map_cons]at r
  cases r with
  | cons r rr=>
   obtain⟨t,rfl⟩:=r
   exact .cons (by show Value.isInt i (.int i t)=true;simp [Value.isInt]) (oH rr)
theorem ug{P:Program}{w:World}{H:Hp}{h:Heap}{c:List Int}{a:Addr}(ok:iq P w H h)(e:H a=some (.tup (c.map V.int))):tL P w h c a:=by
 obtain⟨_,its,r,o,ho,hc,n,hd⟩:=ok a _ e
 exact⟨o,its.toArray,n,ho,hc,hd,oH (by simpa using r)⟩
def n9(P:Program)(w:World):KK P w (List Int) where
 knd:=ze P w
 at_:=fun H c a=>H a=some (.tup (c.map V.int))
 same:=fun s h=>s _ _ h
 upd_:=fun h hz=>by rw [ai (fun e=>hz _ (by rw [←e];exact h))];exact h
 is_:=fun ok e=>ug ok e
 room:=fun hu=>by show _+1 < cLine;omega
def kr(H:Hp):Option (List Int)→V→Prop
 | none,v=>v=.non
 | some c,v=>∃a,v=.ref a∧H a=some (.tup (c.map V.int))
def yP(H:Hp):List (Option (List Int))→List V→Prop
 | [],[]=>True
 | k::ks,v::vs=>kr H k v∧yP H ks vs
 | _,_=>False
theorem kr.imp{H H':Hp}{k:Option (List Int)}{v:V}(f:∀a c,H a=some (.tup (List.map V.int c))→H' a=some (.tup (List.map V.int c)))(h:kr H k v):kr H' k v:=by
 cases k with
 | none=>exact h
 | some c=>obtain⟨a,e,ha⟩:=h;exact⟨a,e,f a c ha⟩
theorem yP.imp{H H':Hp}(f:∀a c,H a=some (.tup (List.map V.int c))→H' a=some (.tup (List.map V.int c))):∀{ks:List (Option (List Int))} {vs:List V},yP H ks vs→yP H' ks vs
 | [],[],_=>True.intro
 | _::_,_::_,⟨h1,h2⟩=>⟨h1.imp f,h2.imp f⟩
theorem mn{P:Program}{w:World}{H:Hp}{h:Heap}(ok:iq P w H h):∀{ks:List (Option (List Int))} {vs:List V} {its:List Value},yP H ks vs→aA vs its→cJ P w h ks its
 | [],[],_,_,r=>by cases r;exact .nil
 | k::ks,v::vs,_,⟨h1,h2⟩,r=>by
  cases r with
  | cons r rr=>
   refine .cons ?_ (mn ok h2 rr)
   cases k with
   | none=>
    have h1:v=.non:=h1
    subst h1
    exact r
   | some c=>
    obtain⟨a,rfl,ha⟩:=h1
    exact⟨a,r,ug ok ha⟩
def gB(P:Program)(w:World):KK P w (List (Option (List Int))) where
 knd:=zr P w
 at_:=fun H ks a=>∃vs,H a=some (.tup vs)∧yP H ks vs
 same:=fun s ⟨vs,e,h⟩=>⟨vs,s _ _ e,h.imp fun _ _ z=>s _ _ z⟩
 upd_:=fun {H k a z o} ⟨vs,e,h⟩ hz=>by
  have f:∀b ws,H b=some (.tup ws)→upd H z o b=some (.tup ws):=fun b ws hb=>by rw [ai (fun q=>hz _ (by rw [←q];exact hb))];exact hb
  exact⟨vs,f _ _ e,h.imp fun _ _ q=>f _ _ q⟩
 is_:=fun {H h k a} ok ⟨vs,e,hn⟩=>by
  obtain⟨_,its,r,o,ho,hc,n,hd⟩:=ok a _ e
  exact⟨o,its.toArray,n,ho,hc,hd,by simpa using mn ok hn r⟩
 room:=fun hu=>by show _+1+1 < cLine;omega
theorem ya{P:Program}{w:World}{A B:Around}(hu:A.units+2 < cLine)(e:B.units=A.units):(gB P w).knd.room B:=by show B.units+1 < cLine;omega
theorem jW{A:Around}{k:Nat}(hr:dz k A):A.units+2 < cLine:=Nat.lt_of_le_of_lt (Nat.add_le_add_left (by decide:2≤64) _) hr.units
section
variable {P:Program} {w:World} {κ:Type} [DecidableEq κ] {kk:KK P w κ} {H:Hp} {d a:Addr} {xs:List (κ×Addr×V)} {k:κ} {v:V}
theorem sY:(ee xs k a v).map (·.1)=if (eN xs k).isSome then xs.map (·.1)else xs.map (·.1)++[k]:=by
 unfold ee
 split
 ·rw [List.map_map]
  refine List.map_congr_left fun x _=>?_
  show(if x.1=k then(x.1,x.2.1,v)else x).1=x.1
  split<;>rfl
 ·rw [List.map_append];rfl
theorem mS(h:eN xs k=none):k∉xs.map (·.1):=by
 intro hm
 obtain⟨x,hx,rfl⟩:=List.mem_map.mp hm
 unfold eN at h
 cases e:xs.find? fun y=>decide (y.1=x.1)with
 | none=>exact absurd (List.find?_eq_none.mp e x hx) (by simp)
 | some y=>rw [e]at h;cases h
theorem aP.put(D:aP kk H d xs)(hk:kk.at_ H k a)(hl:xs.length < 100000):aP kk (upd H d (dO kk d (ee xs k a v))) d (ee xs k a v):=by
 have nt:∀vs,H d≠some (.tup vs):=fun vs e=>by rw [D.ob]at e;cases e
 refine⟨ae,fun x hx=>?_,?_,?_⟩
 ·refine kk.upd_ ?_ nt
  unfold ee at hx
  split at hx
  ·obtain⟨y,hy,rfl⟩:=List.mem_map.mp hx
   have:=D.ks y hy
   show kk.at_ H (if y.1=k then(y.1,y.2.1,v)else y).1 (if y.1=k then(y.1,y.2.1,v)else y).2.1
   split<;>exact this
  ·rcases List.mem_append.mp hx with hx | hx
   ·exact D.ks x hx
   ·rw [List.mem_singleton.mp hx];exact hk
 ·rw [sY]
  cases e:eN xs k with
  | none=>
   show(xs.map (·.1)++[k]).Nodup
   refine List.nodup_append.mpr ⟨D.nd,by simp,fun x hx y hy=>?_⟩
   rw [List.mem_singleton.mp hy]
   rintro rfl
   exact mS e hx
  | some z=>exact D.nd
 ·unfold ee
  split
  ·rw [List.length_map];omega
  ·rw [List.length_append];simp;omega
theorem aP.upd{z:Addr}{o:HO}(D:aP kk H d xs)(hz:d≠z)(nt:∀vs,H z≠some (.tup vs)):aP kk (upd H z o) d xs:=⟨by rw [ai hz];exact D.ob,fun x hx=>kk.upd_ (D.ks x hx) nt,D.nd,D.sz⟩
theorem gc:eN (ee xs k a v) k=some v:=by
 unfold ee
 cases e:eN xs k with
 | none=>
  show eN (xs++[(k,a,v)]) k=some v
  unfold eN at e ⊢
  rw [List.find?_append]
  cases e2:xs.find? fun x=>decide (x.1=k)with
  | some y=>rw [e2]at e;cases e
  | none=>simp
 | some z=>
  show eN (xs.map _) k=some v
  have e0:=e
  unfold eN at e0 ⊢
  rw [List.find?_map]
  have hf:(fun x:κ×Addr×V=>decide (x.1=k))∘(fun x=>if x.1=k then(x.1,x.2.1,v)else x)=fun x=>decide (x.1=k):=by
   funext x
   show decide ((if x.1=k then(x.1,x.2.1,v)else x).1=k)=decide (x.1=k)
   split<;>rfl
  rw [hf]
  cases e2:xs.find? fun x=>decide (x.1=k)with
  | none=>rw [e2]at e0;cases e0
  | some y=>
   have:y.1=k:=by have:=List.find?_some e2;simpa using this
   show some ((if y.1=k then(y.1,y.2.1,v)else y).2.2)=some v
   rw [if_pos this]
theorem fh{k':κ}(h:k'≠k):eN (ee xs k a v) k'=eN xs k':=by
 unfold ee
 split
 ·unfold eN
  rw [List.find?_map]
  have hf:(fun x:κ×Addr×V=>decide (x.1=k'))∘(fun x=>if x.1=k then(x.1,x.2.1,v)else x)=fun x=>decide (x.1=k'):=by
   funext x
   show decide ((if x.1=k then(x.1,x.2.1,v)else x).1=k')=decide (x.1=k')
   split<;>rfl
  rw [hf]
  cases e2:xs.find? fun x=>decide (x.1=k')with
  | none=>rfl
  | some y=>
   have hy:y.1=k':=by have:=List.find?_some e2;simpa using this
   show some ((if y.1=k then(y.1,y.2.1,v)else y).2.2)=some y.2.2
   rw [if_neg (by rw [hy];exact h)]
 ·unfold eN
  rw [List.find?_append]
  cases e2:xs.find? fun x=>decide (x.1=k')with
  | some y=>rfl
  | none=>
   have:decide (k=k')=false:=decide_eq_false (fun z=>h z.symm)
   simp [this]
end
end L2
namespace L2
open PySem PySem.Spec PyProof.Rows
def tx:List (Option Int)→Option (List Int)
 | []=>some []
 | none::_=>none
 | some x::l=>(tx l).map (x::·)
theorem mG:∀{l:List (Option Int)} {r:List Int},l=r.map some→tx l=some r
 | [],[],_=>rfl
 | [],_::_,h=>by cases h
 | x::l,[],h=>by cases h
 | x::l,y::r,h=>by
  rw [List.map_cons]at h
  cases h
  show(tx (r.map some)).map (y::·)=_
  rw [mG rfl]
  rfl
theorem mF:∀{l:List (Option Int)} {i:Nat},l[i]?=some none→tx l=none
 | [],_,h=>by cases h
 | none::_,_,_=>rfl
 | some x::l,0,h=>by cases h
 | some x::l,i+1,h=>by
  show(tx l).map (x::·)=none
  rw [mF (l:=l) (i:=i) h]
  rfl
def nK(Ss:List bh)(ms:List Int)(b:Option (List Int))(c:List Int):List (Option Int):=List.zipWith (fun S m=>S.after m b c) Ss ms
def ig(Ss:List bh)(ms:List Int)(b:Option (List Int))(c:List Int):Option (List Int):=tx (nK Ss ms b c)
def c9(Ss:List bh)(ms:List Int)(b:Option (List Int)):Bool:=(List.zipWith (fun S m=>S.closes m b) Ss ms).all id
abbrev MS:=Option (List Int)×List Int
def bH(Ss:List bh)(s:MS)(c:List Int):Option MS:=(ig Ss s.2 s.1 c).map fun ms=>(some c,ms)
def bp(s:MS):List (Option (List Int)):=[s.1,some s.2]
theorem mq{s t:MS}(h:bp s=bp t):s=t:=by
 obtain⟨a,b⟩:=s
 obtain⟨c,d⟩:=t
 unfold bp at h
 simp at h
 rw [h.1,h.2]
def dH(Ss:List bh)(cols:List (List Int))(met:List MS)(s:MS)(xs:List (List Int×Addr×V)):Prop:=
 (∀c∈cols,∀s',bH Ss s c=some s'→∃j:Nat,met[j]?=some s'∧eN xs c=some (.int j))∧(∀c,(c∈cols→bH Ss s c=none)→eN xs c=none)∧xs.map (·.1)=cols.filter fun c=>(bH Ss s c).isSome
theorem dH.more{Ss:List bh}{cols:List (List Int)}{met:List MS}{s:MS}{xs:List (List Int×Addr×V)}(h:dH Ss cols met s xs)(t:List MS):dH Ss cols (met++t) s xs:=
 ⟨fun c hc s' e=>let ⟨j,h1,h2⟩:=h.1 c hc s' e;⟨j,by rw [List.getElem?_append_left (List.getElem?_eq_some_iff.mp h1).1];exact h1,h2⟩,h.2⟩
theorem dH.put{Ss:List bh}{cols:List (List Int)}{met:List MS}{s s':MS}{xs:List (List Int×Addr×V)}{i j:Nat}{c:List Int}{a:Addr}(h:dH Ss (cols.take i) met s xs)(hc:cols[i]?=some c)(hn:bH Ss s c=some s')(hj:met[j]?=some s')(hnd:cols.Nodup):dH Ss (cols.take (i+1)) met s (ee xs c a (.int j)):=by
 have et:cols.take (i+1)=cols.take i++[c]:=by rw [List.take_add_one,hc];rfl
 rw [et]
 have hct:c∉cols.take i:=fun hm=>by
  obtain⟨k,hk⟩:=List.getElem?_of_mem hm
  have hki:k < i:=by
   have:=(List.getElem?_eq_some_iff.mp hk).1
   rw [List.length_take]at this
   omega
  rw [List.getElem?_take,if_pos hki]at hk
  obtain⟨k1,k2⟩:=List.getElem?_eq_some_iff.mp hk
  obtain⟨i1,i2⟩:=List.getElem?_eq_some_iff.mp hc
  have:=(List.getElem_inj hnd).mp (k2.trans i2.symm)
  omega
 refine⟨?_,?_,?_⟩
 rotate_left
 rotate_left
 ·have h0:=h.2.1 c fun hm=>absurd hm hct
  unfold ee
  rw [h0,List.filter_append,←h.2.2]
  simp [hn]
 ·intro c' hc' t ht
  by_cases e:c'=c
  ·subst e
   rw [hn]at ht
   cases ht
   exact⟨j,hj,gc⟩
  ·rcases List.mem_append.mp hc' with hc' | hc'
   ·rw [fh e]
    exact h.1 c' hc' t ht
   ·exact absurd (List.mem_singleton.mp hc') e
 ·intro c' hc'
  have e:c'≠c:=fun e=>by
   have:=hc' (by rw [e];simp)
   rw [e,hn]at this
   cases this
  rw [fh e]
  exact h.2.1 c' fun hm=>hc' (by simp [hm])
theorem dH.skip{Ss:List bh}{cols:List (List Int)}{met:List MS}{s:MS}{xs:List (List Int×Addr×V)}{i:Nat}{c:List Int}(h:dH Ss (cols.take i) met s xs)(hc:cols[i]?=some c)(hn:bH Ss s c=none):dH Ss (cols.take (i+1)) met s xs:=by
 have et:cols.take (i+1)=cols.take i++[c]:=by rw [List.take_add_one,hc];rfl
 rw [et]
 refine⟨?_,?_,?_⟩
 ·intro c' hc' t ht
  rcases List.mem_append.mp hc' with hc' | hc'
  ·exact h.1 c' hc' t ht
  ·rw [List.mem_singleton.mp hc',hn]at ht
   cases ht
 ·intro c' hc'
  refine h.2.1 c' fun hm=>hc' (by simp [hm])
 ·rw [List.filter_append,←h.2.2]
  simp [hn]
def iT(met:List MS)(xs:List (List (Option (List Int))×Addr×V)):Prop:=(∀(j:Nat) (s:MS),met[j]?=some s→eN xs (bp s)=some (.int j))∧∀k,eN xs k≠none→∃s∈met,k=bp s
theorem iT.fresh{met:List MS}{xs:List (List (Option (List Int))×Addr×V)}{s:MS}(h:iT met xs)(e:eN xs (bp s)=none):s∉met:=fun hs=>by
 obtain⟨j,hj⟩:=List.getElem?_of_mem hs
 rw [h.1 j s hj]at e
 cases e
theorem iT.known{met:List MS}{xs:List (List (Option (List Int))×Addr×V)}{s:MS}(h:iT met xs)(e:eN xs (bp s)≠none):∃j:Nat,met[j]?=some s∧eN xs (bp s)=some (.int j):=by
 obtain⟨t,ht,e2⟩:=h.2 _ e
 cases mq e2
 obtain⟨j,hj⟩:=List.getElem?_of_mem ht
 exact⟨j,hj,h.1 j s hj⟩
theorem iT.put{met:List MS}{xs:List (List (Option (List Int))×Addr×V)}{s:MS}{a:Addr}(h:iT met xs)(hs:s∉met):iT (met++[s]) (ee xs (bp s) a (.int met.length)):=by
 constructor
 ·intro j t ht
  by_cases hj:j < met.length
  ·rw [List.getElem?_append_left hj]at ht
   have hne:bp t≠bp s:=fun e=>hs (by rw [←mq e];exact List.mem_of_getElem? ht)
   rw [fh hne]
   exact h.1 j t ht
  ·rw [List.getElem?_append_right (by omega)]at ht
   have h0:j - met.length=0:=by
    have:=(List.getElem?_eq_some_iff.mp ht).1
    simp at this
    omega
   rw [h0]at ht
   cases ht
   rw [gc,show j=met.length by omega]
 ·intro k hk
  by_cases e:k=bp s
  ·exact⟨s,by simp,e⟩
  ·rw [fh e]at hk
   obtain⟨t,ht,e2⟩:=h.2 k hk
   exact⟨t,by simp [ht],e2⟩
theorem kz{α:Type}[DecidableEq α]:∀(l u:List α),l.Nodup→(∀x∈l,x∈u)→l.length≤u.length
 | [],_,_,_=>Nat.zero_le _
 | x::l,u,h,hs=>by
  have hx:=hs x (by simp)
  have hn:=List.nodup_cons.mp h
  have:=kz l (u.erase x) hn.2 fun y hy=>(List.mem_erase_of_ne (fun e=>hn.1 (by rw [←e];exact hy))).mpr (hs y (by simp [hy]))
  rw [List.length_erase_of_mem hx]at this
  have:0 < u.length:=List.length_pos_of_mem hx
  rw [List.length_cons]
  omega
structure qR(Ss:List bh)(cols:List (List Int))(met:List MS):Prop where
 nd:met.Nodup
 st:met[0]?=some (none,Ss.map (·.start))
 sub:∀(i:Nat) (s:MS),met[i]?=some s→0 < i→∃(j:Nat) (t:MS) (c:List Int),j < i∧met[j]?=some t∧c∈cols∧bH Ss t c=some s
theorem zZ{c:TT}{σ:L2.St}{H:Hp}{X Y:Hp→Prop}(h:∀A B:Hp→Prop,(∀H,X H→A H)→(∀H,Y H→B H)→c σ H fun b H1=>if b=true then A H1 else B H1):c σ H fun b H1=>if b=true then X H1 else Y H1:=h X Y (fun _ x=>x) fun _ x=>x
def lZ(zs:List Addr)(H H':Hp):Prop:=∀b o,b∉zs→H b=some o→H' b=some o
end L2
namespace L2
open PySem PySem.Spec PyProof.Rows
theorem av.laidN{X:Cx}{pins:List (Addr×Obj)}{σ:St}{H H':Hp}{s:Shared}{h':Heap}{t':Nat}(I:av X pins σ H s)(k:∀b u,s.heap.get? b=some u→h'.get? b=some u)(old:∀b,b < s.heap.objs.size→H' b=H b)
  (new:∀b o,s.heap.objs.size≤b→H' b=some o→cy X.prog X.w H' h' b o):av X pins σ H' { s with heap:=h',toks:=t' }:=by
 have sm:∀b o,H b=some o→H' b=some o:=fun b o e=>by rw [old b (I.hok b o e).lt];exact e
 refine I.un ⟨fun b u q _ _ _=>k b u q,fun b u q _ _ _=>⟨u.slots,k b u q⟩,fun b u q n _=>by rw [old b (Heap.lt_size q)];exact n,fun b u q _=>⟨u,k b u q⟩,fun b xs q=>sm b _ q,fun b u v q=>sm b _ q,fun b ps q=>⟨#[],by rw [sm b _ q];simp⟩⟩ fun b o e=>?_
 by_cases hb:b < s.heap.objs.size
 ·rw [old b hb]at e
  exact(I.hok b o e).stay (fun c v _ q=>k c v q) (fun c q=>sm c _ q) fun c xs q=>sm c _ q
 ·exact new b o (Nat.le_of_not_lt hb) e
def vC(h:Heap)(d:Addr)(es:Array DictEntry)(ep:Nat):Prop:=∃o,h.get? d=some o∧o.data=.dict es ep
def gE(h:Heap)(it d:Addr)(i n ep:Nat):Prop:=∃(z ok ov:Value) (f:Bool),h.get? it=some { cls:=.type "dict_itemiterator",data:=.fields #[z,.bool f,.ref d,.int i 0,.int n 0,.int ep 0,ok,ov] }∧((z=.none∧f=false)∨∃a oa,z=rawInt ((a:Nat):Int)∧h.get? a=some oa∧a≠it)
section
variable {P:Program} {w:World} {A:Around} {E:Value→Shared→Prop} {it d:Addr} {es:Array DictEntry} {ep i:Nat}
theorem v5{s:Shared}{Q:Option Value→Shared→Prop}(st:gE s.heap it d i es.size ep)(hd:vC s.heap d es ep)(hi:i < es.size)
  (q:∀h',gE h' it d (i+1) es.size ep→h'.get? s.heap.objs.size=some { cls:=.type "tuple",data:=.seq #[es[i].key,es[i].val] }→h'.objs.size=s.heap.objs.size+1→(∀b o,b≠it→s.heap.get? b=some o→h'.get? b=some o)→Q (some (.ref s.heap.objs.size)) { s with heap:=h' }) :
  wpAny (model P w) A (pyNext (.ref it)) Q E s:=by
 obtain⟨h0,g,dr,tk,os⟩:=s
 obtain⟨z,ok,ov,f,hit,own⟩:=st
 obtain⟨od,hod,hda⟩:=hd
 have ty:Shared.TypeIs ⟨h0,g,dr,tk,os⟩ (.ref it) "dict_itemiterator":=⟨_,hit,rfl⟩
 have lit:it < h0.objs.size:=Heap.lt_size hit
 unfold pyNext
 refine wpAny_bind (wpAny_attempt (wpAny_callSpecial?_slot (name:=Str.ofString "__next__") ty PySem.F.slot_dict_itemiterator_next (wpAny_call_entry PySem.F.slot_dict_itemiterator_next ty PySem.F.entry_dict_itemiterator_next (wpAny_bind (wpAny_pure (wpAny_bind (wpAny_bind ?_)))) (PySem.F.args_dict_itemiterator_next_1 _))))
 first | refine wpAny_bind (wpAny_typeNameOfWhole_itemiter ty (wpAny_pure (wpAny_bind (wpAny_fieldsOf hit rfl ?_)))) | refine wpAny_bind (wpAny_typeNameOf_itemiter ty (wpAny_pure (wpAny_bind (wpAny_fieldsOf hit rfl ?_))))
 simp only [show Builtin.Dict_items.ownsTuple "dict_itemiterator"=true by decide,if_true]
 show wpAny _ _ (if (Value.ref d == Value.none)=true then _ else _) _ _ _
 rw [if_neg (by exact Bool.false_ne_true)]
 refine wpAny_bind (wpAny_pure (wpAny_bind (wpAny_dictEntries hod hda ?_)))
 rw [if_neg (by simp)]
 refine wpAny_bind (wpAny_pure (wpAny_bind (wpAny_dictEpoch hod hda ?_)))
 rw [if_neg (by simp)]
 refine wpAny_pure ?_
 simp only [show ¬((i:Int) < 0)by omega,if_false,Int.toNat_natCast,Array.getElem?_eq_getElem hi]
 refine wpAny_bind ?_
 first | refine wpAny_bind (wpAny_typeNameOfWhole_itemiter ty (wpAny_pure (wpAny_bind (wpAny_isOneOf_itemiter ty ?_)))) | refine wpAny_bind (wpAny_typeNameOf_itemiter ty (wpAny_pure (wpAny_bind (wpAny_isOneOf_itemiter ty ?_))))
 show wpAny _ _ (setField (.ref it) 3 (rawInt ((i:Int)+1)) >>= _) _ _ ⟨h0,g,dr,tk,os⟩
 refine wpAny_bind (wpAny_setField_rec hit (by simp) fun h1 e1 k1=>?_)
 have e1:h1.get? it=some { cls:=.type "dict_itemiterator",data:=.fields #[z,.bool f,.ref d,.int ((i+1:Nat):Int) 0,.int es.size 0,.int ep 0,ok,ov] }:=by
  rw [show((i+1:Nat):Int)=(i:Int)+1 by omega]
  simpa [rawInt]using e1
 have k1:Heap.SameBut it h0 h1:=k1
 have ty1:Shared.TypeIs ⟨h1,g,dr,tk,os⟩ (.ref it) "dict_itemiterator":=⟨_,e1,rfl⟩
 refine wpAny_bind (wpAny_holding (wpAny_bind (wpAny_isOneOf_itemiter ty1 (wpAny_bind (wpAny_isOneOf_itemiter ty1 ?_)))))
 show wpAny _ _ (Builtin.Dict_items.pairFromOwner (.ref it) 6 es[i].key es[i].val) _ _ ⟨h1,g,dr,tk,os⟩
 unfold Builtin.Dict_items.pairFromOwner
 refine wpAny_bind (wpAny_newTuple ?_)
 rw [k1.1]
 have e2:=Heap.get?_push_of_some { cls:=.type "tuple",data:=.seq #[es[i].key,es[i].val] } e1
 have t2:(h1.push { cls:=.type "tuple",data:=.seq #[es[i].key,es[i].val] }).get? h0.objs.size=some { cls:=.type "tuple",data:=.seq #[es[i].key,es[i].val] }:=by rw [←k1.1];exact Heap.get?_push_size _ rfl
 have z2:(h1.push { cls:=.type "tuple",data:=.seq #[es[i].key,es[i].val] }).objs.size=h0.objs.size+1:=by rw [Heap.size_push,k1.1]
 have k2:∀b o,b≠it→h0.get? b=some o→(h1.push { cls:=.type "tuple",data:=.seq #[es[i].key,es[i].val] }).get? b=some o:=fun b o hb e=>Heap.get?_push_of_some _ (k1.extBut b o hb e)
 generalize h1.push { cls:=.type "tuple",data:=.seq #[es[i].key,es[i].val] }=h2 at e2 t2 z2 k2
 have fin:∀h3:Heap,gE h3 it d (i+1) es.size ep→Heap.SameBut it h2 h3→Q (some (.ref h0.objs.size)) ⟨h3,g,dr,tk,os⟩:=fun h3 s3 k3=>q h3 s3 (k3.extBut _ _ (Nat.ne_of_gt lit) t2) (by show h3.objs.size=_;rw [k3.1,z2]) fun b o hb e=>k3.extBut b o hb (k2 b o hb e)
 refine wpAny_bind ?_
 unfold Builtin.Dict_items.ownedTupleIsFree
 rcases own with⟨rfl,rfl⟩ | ⟨a,oa,rfl,ha,hai⟩
 ·refine wpAny_bind (wpAny_field e2 rfl (x:=.none) rfl (wpAny_pure ?_))
  simp only [if_true]
  refine wpAny_bind (wpAny_field e2 rfl (x:=ok) rfl (wpAny_bind (wpAny_field e2 rfl (x:=ov) rfl (wpAny_bind (wpAny_setField_rec e2 (by simp) fun h3 e3 k3=>wpAny_bind (wpAny_setField_rec e3 (by simp) fun h4 e4 k4=>wpAny_bind (wpAny_setField_rec e4 (by simp) fun h5 e5 k5=>wpAny_bind (wpAny_setField_rec e5 (by simp) fun h6 e6 k6=>wpAny_bind (wpAny_letGo (wpAny_pure (wpAny_pure ⟨_,rfl,wpAny_pure ?_⟩)))))))))))
  have k3:Heap.SameBut it h2 h3:=k3
  have k4:Heap.SameBut it h3 h4:=k4
  have k5:Heap.SameBut it h4 h5:=k5
  have k6:Heap.SameBut it h5 h6:=k6
  have kk:Heap.SameBut it h2 h6:=⟨by rw [k6.1,k5.1,k4.1,k3.1],fun b hb=>by rw [k6.2 b hb,k5.2 b hb,k4.2 b hb,k3.2 b hb]⟩
  refine fin h6 ⟨_,_,_,_,e6,.inr ⟨h0.objs.size,_,rfl,kk.extBut _ _ (Nat.ne_of_gt lit) t2,Nat.ne_of_gt lit⟩⟩ kk
 ·refine wpAny_bind (wpAny_field e2 rfl (x:=rawInt ((a:Nat):Int)) rfl ?_)
  show wpAny _ _ (loadIfAlive ((a:Int).toNat) >>= _) _ _ _
  rw [Int.toNat_natCast]
  refine wpAny_bind (PySem.W.kdx_alive (k2 a oa hai ha) ?_)
  simp only [Option.isNone_some,Bool.false_eq_true,if_false]
  refine wpAny_bind (wpAny_field e2 rfl (x:=.bool f) rfl ?_)
  cases f with
  | true=>
   rw [if_neg (by exact Bool.false_ne_true)]
   refine wpAny_pure ?_
   simp only [Bool.false_eq_true,if_false]
   exact wpAny_pure (wpAny_pure ⟨_,rfl,wpAny_pure (fin h2 ⟨_,_,_,_,e2,.inr ⟨a,oa,rfl,k2 a oa hai ha,hai⟩⟩ (Heap.SameBut.refl _ _))⟩)
  | false=>
   rw [if_pos (by rfl)]
   refine wpAny_bind (wpAny_setField_rec e2 (by simp) fun h3 e3 k3=>wpAny_pure ?_)
   have k3:Heap.SameBut it h2 h3:=k3
   simp only [Bool.false_eq_true,if_false]
   exact wpAny_pure (wpAny_pure ⟨_,rfl,wpAny_pure (fin h3 ⟨_,_,_,_,e3,.inr ⟨a,oa,rfl,k3.extBut _ _ hai (k2 a oa hai ha),hai⟩⟩ k3)⟩)
theorem xQ{s:Shared}{Q:Option Value→Shared→Prop}(hh:A.handled=none)(st:gE s.heap it d es.size es.size ep)(hd:vC s.heap d es ep)(q:∀h',Heap.ExtBut it s.heap h'→Q none { s with heap:=h' }):wpAny (model P w) A (pyNext (.ref it)) Q E s:=by
 obtain⟨z,ok,ov,f,hit,_⟩:=st
 obtain⟨od,hod,hda⟩:=hd
 have ty:s.TypeIs (.ref it) "dict_itemiterator":=⟨_,hit,rfl⟩
 unfold pyNext
 refine wpAny_bind (wpAny_attempt (wpAny_callSpecial?_slot (name:=Str.ofString "__next__") ty PySem.F.slot_dict_itemiterator_next (wpAny_call_entry PySem.F.slot_dict_itemiterator_next ty PySem.F.entry_dict_itemiterator_next (wpAny_bind (wpAny_pure (wpAny_bind (wpAny_bind ?_)))) (PySem.F.args_dict_itemiterator_next_1 _))))
 first | refine wpAny_bind (wpAny_typeNameOfWhole_itemiter ty (wpAny_pure (wpAny_bind (wpAny_fieldsOf hit rfl ?_)))) | refine wpAny_bind (wpAny_typeNameOf_itemiter ty (wpAny_pure (wpAny_bind (wpAny_fieldsOf hit rfl ?_))))
 simp only [show Builtin.Dict_items.ownsTuple "dict_itemiterator"=true by decide,if_true]
 show wpAny _ _ (if (Value.ref d == Value.none)=true then _ else _) _ _ _
 rw [if_neg (by exact Bool.false_ne_true)]
 refine wpAny_bind (wpAny_pure (wpAny_bind (wpAny_dictEntries hod hda ?_)))
 rw [if_neg (by simp)]
 refine wpAny_bind (wpAny_pure (wpAny_bind (wpAny_dictEpoch hod hda ?_)))
 rw [if_neg (by simp)]
 refine wpAny_pure ?_
 simp only [show ¬((es.size:Int) < 0)by omega,if_false,Int.toNat_natCast,Array.getElem?_eq_none (Nat.le_refl es.size)]
 refine wpAny_bind ?_
 first | refine wpAny_bind (wpAny_typeNameOfWhole_itemiter ty (wpAny_pure ?_)) | refine wpAny_bind (wpAny_typeNameOf_itemiter ty (wpAny_pure ?_))
 show wpAny _ _ (setField (.ref it) 2 .none >>= _) _ _ s
 refine wpAny_bind (wpAny_setField hit rfl (by simp) ?_)
 show wpAny _ _ (newExc (.type "StopIteration") [] >>= _) _ _ _
 simp only [newExc,newTuple]
 refine wpAny_bind (wpAny_bind (wpAny_newObj_type (wpAny_bind (m:=firstArgMember _ _) (wpAny_of_eq (a:=Value.none) (by first | rfl | (simp only [firstArgMember];rfl)) (wpAny_newObj_type ?_ (by size_fits)))) (by size_fits)))
 simp only [raiseNew]
 refine wpAny_bind (wpAny_handled ?_)
 rw [show A.in1.handled=none from hh]
 refine wpAny_bind (wpAny_pure (wpAny_throw ?_))
 exact wpAny_bind (wpAny_isInstance (T:="StopIteration") (b:=true) ⟨_,Heap.get?_push_size _ rfl,rfl⟩ isSubtype_stop (wpAny_pure (q _ (((Heap.SameBut.update ..).extBut.push _).push _))))
end
structure rS(es:Array DictEntry)(lo:Addr)(h:Heap)(as:List Addr):Prop where
 rise:as.Pairwise (· < ·)
 above:∀a∈as,lo < a
 at_:∀(j:Nat) (a:Addr),as[j]?=some a→∃e,es[j]?=some e∧h.get? a=some { cls:=.type "tuple",data:=.seq #[e.key,e.val] }
section
variable {P:Program} {w:World} {A:Around} {E:Value→Shared→Prop} {d:Addr} {es:Array DictEntry} {ep:Nat}
theorem vC.keep{h h':Heap}(x:vC h d es ep)(k:∀o,h.get? d=some o→h'.get? d=some o):vC h' d es ep:=by
 obtain⟨o,h1,h2⟩:=x
 exact⟨o,k o h1,h2⟩
theorem rS.lt{lo:Addr}{h:Heap}{as:List Addr}(x:rS es lo h as){a:Addr}(ha:a∈as):a < h.objs.size:=by
 obtain⟨j,hj⟩:=List.mem_iff_getElem?.mp ha
 obtain⟨_,_,e⟩:=x.at_ j a hj
 exact Heap.lt_size e
theorem gE.keep{h h':Heap}{it S:Addr}{i n:Nat}(x:gE h it d i n ep)(k:∀b o,b≠S→h.get? b=some o→h'.get? b=some o)(hS:∃o,h'.get? S=some o)(hI:it≠S):gE h' it d i n ep:=by
 obtain⟨z,ok,ov,f,e,r⟩:=x
 refine⟨z,ok,ov,f,k _ _ hI e,?_⟩
 rcases r with r | ⟨a,oa,r1,r2,r3⟩
 ·exact .inl r
 ·by_cases ha:a=S
  ·subst ha
   obtain⟨o,ho⟩:=hS
   exact .inr ⟨a,o,r1,ho,r3⟩
  ·exact .inr ⟨a,oa,r1,k _ _ ha r2,r3⟩
theorem vZ{s:Shared}{R:Result→Shared→Prop}{S I:Addr}(hh:A.handled=none)(hSI:S < I)(hSd:d≠S)(hId:d≠I)(hn:es.size≤sizeLine)(res:Value){h1:Heap}
  (q:∀h' tk acc c as,(∀b o,b≠S→b≠I→h1.get? b=some o→h'.get? b=some o)→h'.get? S=some { cls:=.type "list",data:=.seq acc c }→as.length=es.size→rS es I h' as→acc.toList=as.map Value.ref→R (.ok (.ret res)) { s with heap:=h',toks:=tk }) :
  ∀(m i:Nat) (h:Heap) (tk c:Nat) (acc:Array Value) (as:List Addr),i+m=es.size→gE h I d i es.size ep→vC h d es ep→(∀b o,b≠S→b≠I→h1.get? b=some o→h.get? b=some o)→h.get? S=some { cls:=.type "list",data:=.seq acc c }→acc.toList=as.map Value.ref→as.length=i→rS es I h as→
   codeAny (model P w) A (.builtin "list.extend.loop" ⟨[.ref S,.ref I,res],[]⟩) R { s with heap:=h,toks:=tk }:=by
 have hne:S≠I:=Nat.ne_of_lt hSI
 intro m
 induction m with
 | zero=>
  intro i h tk c acc as hm st hD hk hS ha hl T
  have:i=es.size:=by omega
  subst this
  refine codeAny_builtin PySem.F.entry_extend_loop ?_
  rw [Around.under_plainId PySem.F.plain_extend_loop _]
  show wpAny _ A.in1 (pyNext (.ref I) >>= _) _ _ _
  refine wpAny_bind (xQ (s:={ s with heap:=h,toks:=tk }) (A:=A.in1) hh st hD fun h' he=>wpAny_pure (q h' tk acc c as (fun b o x y e=>he b o y (hk b o x y e)) (he S _ hne hS) hl ⟨T.rise,T.above,fun j a hj=>?_⟩ ha))
  obtain⟨e,e1,e2⟩:=T.at_ j a hj
  exact⟨e,e1,he a _ (Nat.ne_of_gt (T.above a (List.mem_of_getElem? hj))) e2⟩
 | succ m ih=>
  intro i h tk c acc as hm st hD hk hS ha hl T
  have hi:i < es.size:=by omega
  have hsz:acc.size=i:=by rw [←Array.length_toList,ha,List.length_map,hl]
  have hIs:I < h.objs.size:=by
   obtain⟨_,_,_,_,e,_⟩:=st
   exact Heap.lt_size e
  have hSl:S < h.objs.size:=Heap.lt_size hS
  refine codeAny_builtin PySem.F.entry_extend_loop ?_
  rw [Around.under_plainId PySem.F.plain_extend_loop _]
  show wpAny _ A.in1 (pyNext (.ref I) >>= _) _ _ _
  refine wpAny_bind (v5 (s:={ s with heap:=h,toks:=tk }) st hD hi fun h' st' ht hz kp=>?_)
  dsimp only at ht hz kp ⊢
  have hS':=kp S _ hne hS
  have up:∀b o,b≠S→h'.get? b=some o→(h'.update S (Obj.mapSeq (·.push (Value.ref h.objs.size)))).get? b=some o:=fun b o hb e=>(Heap.get?_update_other _ _ (Ne.symm hb)).trans e
  have new:=Heap.get?_update_self (Obj.mapSeq (·.push (Value.ref h.objs.size))) hS' rfl
  show wpAny _ A.in1 (updateSeq S (·.push (Value.ref h.objs.size)) >>= _) _ _ _
  refine wpAny_bind (wpAny_updateSeq hS' rfl (wpAny_pure ⟨plainId_quiet PySem.F.plain_extend_loop _,ih (i+1) _ tk _ (acc.push (Value.ref h.objs.size)) (as++[h.objs.size]) (by omega) (st'.keep up ⟨_,new⟩ (Ne.symm hne)) (hD.keep fun o e=>up d o hSd (kp d o hId e)) (fun b o x y e=>up b o x (kp b o y (hk b o x y e))) new (by rw [Array.toList_push,ha,List.map_append];rfl) (by rw [List.length_append,hl];rfl) ⟨?_,?_,?_⟩⟩) (by rw [hsz];omega) (by show(acc.push (Value.ref h.objs.size)).size≤sizeLine+1;rw [Array.size_push,hsz];omega))
  ·exact List.pairwise_append.mpr ⟨T.rise,List.pairwise_singleton _ _,fun a x b y=>by rw [List.mem_singleton.mp y];exact T.lt x⟩
  ·intro a x
   rcases List.mem_append.mp x with x | x
   ·exact T.above a x
   ·rw [List.mem_singleton.mp x]
    exact hIs
  ·intro j b hj
   by_cases hjl:j < as.length
   ·rw [List.getElem?_append_left hjl]at hj
    obtain⟨e,e1,e2⟩:=T.at_ j b hj
    have hb:=T.above b (List.mem_of_getElem? hj)
    exact⟨e,e1,up b _ (Nat.ne_of_gt (Nat.lt_trans hSI hb)) (kp b _ (Nat.ne_of_gt hb) e2)⟩
   ·rw [List.getElem?_append_right (Nat.le_of_not_lt hjl)]at hj
    have h0:j - as.length=0:=by
     have:=(List.getElem?_eq_some_iff.mp hj).1
     simp at this
     omega
    rw [h0]at hj
    cases hj
    have ej:j=i:=by omega
    subst ej
    exact⟨es[j],Array.getElem?_eq_getElem hi,up _ _ (Nat.ne_of_gt hSl) ht⟩
theorem vY{s:Shared}{r:Addr}{Q:Value→Shared→Prop}(hv:s.heap.IsItemsView r d)(hd:vC s.heap d es ep)
  (q:Q (.ref s.heap.objs.size) { s with heap:=s.heap.push { cls:=.type "dict_itemiterator",data:=.fields #[.none,.bool false,.ref d,.int ((0:Nat):Int) 0,.int es.size 0,.int ep 0,.none,.none] } }):wpAny (model P w) A (pyIter (.ref r)) Q E s:=by
 obtain⟨ov,hov,_,hdv⟩:=id hv
 obtain⟨od,hod,hda⟩:=hd
 refine wpAny_pyIter_slot hv.typeIs PySem.F.slot_dict_items_iter (wpAny_call_entry PySem.F.slot_dict_items_iter hv.typeIs PySem.F.entry_dict_items_iter ?_ (PySem.F.args_dict_items_iter_1 _))
 unfold Builtin.«dict_items.__iter__»
 refine wpAny_bind (wpAny_pure (wpAny_bind ?_))
 unfold Builtin.Dict_items.dictOf
 refine wpAny_bind (wpAny_field hov hdv (x:=.ref d) rfl (wpAny_pure (wpAny_bind ?_)))
 unfold Builtin.Dict_items.newIterator
 refine wpAny_bind (wpAny_dictEntries hod hda (wpAny_bind (wpAny_dictEpoch hod hda ?_)))
 simp only [show Builtin.Dict_items.ownsTuple "dict_itemiterator"=true by decide,if_true]
 refine wpAny_newObj_type (wpAny_pure ⟨_,rfl,"dict_itemiterator",_,⟨_,Heap.get?_push_size _ rfl,rfl⟩,PySem.F.slot_dict_itemiterator_next.lookup,?_⟩) (by simp only [sizeOk,Builtin.Dict_items.ownedTupleFields,List.size_toArray,List.length_append,List.length_cons,List.length_nil,sizeLine_eq];omega)
 simpa [rawInt,Builtin.Dict_items.ownedTupleFields]using q
theorem sA{s:Shared}{r:Addr}{R:Result→Shared→Prop}(hh:A.handled=none)(hv:s.heap.IsItemsView r d)(hd:vC s.heap d es ep)(S:Addr)(hSr:S≠r)(hSd:d≠S)(res:Value)(c0:Nat)(hS:s.heap.get? S=some { cls:=.type "list",data:=.seq #[] c0 })(hn:es.size≤sizeLine)
  (q:∀h' tk acc c as,(∀b o,b≠S→s.heap.get? b=some o→h'.get? b=some o)→h'.get? S=some { cls:=.type "list",data:=.seq acc c }→as.length=es.size→rS es s.heap.objs.size h' as→acc.toList=as.map Value.ref→R (.ok (.ret res)) { s with heap:=h',toks:=tk }) :
  wpAny (model P w) A.in1 (Builtin.List.listExtendWith (.ref S) (.ref r) res) (fun fin s'=>match fin with | .done f=>R (.ok f) s' | .again c'=>c'.quiet=true∧codeAny (model P w) A c' R s') (fun e s'=>R (.error e) s') s:=by
 have hSI:S < s.heap.objs.size:=Heap.lt_size hS
 have hdI:d < s.heap.objs.size:=let ⟨_,h,_⟩:=hd;Heap.lt_size h
 have go:∀(h:Heap) (c1 tk:Nat),(∀b o,b≠S→(s.heap.push { cls:=.type "dict_itemiterator",data:=.fields #[.none,.bool false,.ref d,.int ((0:Nat):Int) 0,.int es.size 0,.int ep 0,.none,.none] }).get? b=some o→h.get? b=some o)→h.get? S=some { cls:=.type "list",data:=.seq #[] c1 }→codeAny (model P w) A (.builtin "list.extend.loop" ⟨[.ref S,.ref s.heap.objs.size,res],[]⟩) R { s with heap:=h,toks:=tk }:=by
  intro h c1 tk hk h1
  exact vZ (s:=s) (h1:=s.heap) hh hSI hSd (Nat.ne_of_lt hdI) hn res (fun h' tk' acc c as k' e1 e2 e3 e4=>q h' tk' acc c as (fun b o hb e=>k' b o hb (Nat.ne_of_lt (Heap.lt_size e)) e) e1 e2 e3 e4)
   es.size 0 h tk c1 #[] [] (Nat.zero_add _) ⟨.none,.none,.none,false,hk _ _ (Nat.ne_of_gt hSI) (Heap.get?_push_size _ rfl),.inl ⟨rfl,rfl⟩⟩ (hd.keep fun o e=>hk d o hSd (Heap.get?_push_of_some _ e)) (fun b o hb _ e=>hk b o hb (Heap.get?_push_of_some _ e)) h1 rfl rfl ⟨List.Pairwise.nil,(fun _ ha=>nomatch ha),fun j a hj=>(by simp at hj)⟩
 unfold Builtin.List.listExtendWith
 refine wpAny_bind (wpAny_typeOf (T:="dict_items") hv.typeIs ?_)
 simp only [show Builtin.List.listSameRef (.ref S) (.ref r)=false by simp [Builtin.List.listSameRef,hSr],show(Value.type "dict_items" == Value.type "list")=false by decide,show(Value.type "dict_items" == Value.type "tuple")=false by decide,Bool.or_false,Bool.false_eq_true,if_false]
 refine wpAny_bind (vY hv hd ?_)
 have h1:=Heap.get?_push_of_some { cls:=.type "dict_itemiterator",data:=.fields #[.none,.bool false,.ref d,.int ((0:Nat):Int) 0,.int es.size 0,.int ep 0,.none,.none] } hS
 refine wpAny_bind (wpAny_holding (PySem.W.kdx_hint (let ⟨o,ho,hc,_⟩:=hv;⟨o,Heap.get?_push_of_some _ ho,hc⟩) (wpAny_ite_split (fun _=>?_) (fun _=>wpAny_pure ⟨plainId_quiet PySem.F.plain_extend_loop _,go _ c0 _ (fun b o _ e=>e) h1⟩))))
 refine wpAny_bind (wpAny_rule (wpAny_bind ?_))
 show wpAny _ _ (updateSeq S (·.push .none) >>= fun _=>updateSeq S (·.pop)) _ _ _
 refine wpAny_bind (wpAny_updateSeq h1 rfl ?_)
 have h2:=Heap.get?_update_self (Obj.mapSeq (·.push Value.none)) h1 rfl
 refine wpAny_updateSeq (hz:=by seq_fits) h2 rfl ?_
 exact wpAny_pure ⟨plainId_quiet PySem.F.plain_extend_loop _,go _ _ _ (fun b o hb e=>(Heap.get?_update_other _ _ (Ne.symm hb)).trans ((Heap.get?_update_other _ _ (Ne.symm hb)).trans e)) (Heap.get?_update_self (Obj.mapSeq (·.pop)) h2 rfl)⟩
theorem pR{s:Shared}{r:Addr}{Q:Value→Shared→Prop}(hh:A.handled=none)(hv:s.heap.IsItemsView r d)(hd:vC s.heap d es ep)(hn:es.size≤sizeLine)
  (q:∀h' tk acc c as,(∀b o,s.heap.get? b=some o→h'.get? b=some o)→h'.get? s.heap.objs.size=some { cls:=.type "list",data:=.seq acc c }→as.length=es.size→rS es s.heap.objs.size h' as→acc.toList=as.map Value.ref→Q (.ref s.heap.objs.size) { s with heap:=h',toks:=tk }) :
  wpAny (model P w) A (call (.type "list") [.ref r]) Q E s:=by
 refine callType_codes (Q₁:=fun obj s1=>obj=.ref s.heap.objs.size∧s1={ s with heap:=s.heap.push { cls:=.type "list",data:=.seq #[] } }) PySem.F.called_list (PySem.F.typeCall_list_1 _) PySem.F.entry_list_init (code_list_new _ ⟨rfl,rfl⟩) fun obj s1 h1=>?_
 obtain⟨rfl,rfl⟩:=h1
 have hS:(s.heap.push { cls:=.type "list",data:=.seq #[] }).get? s.heap.objs.size=some { cls:=.type "list",data:=.seq #[] }:=Heap.get?_push_size _ rfl
 have lr:r < s.heap.objs.size:=let ⟨_,ho,_⟩:=hv;Heap.lt_size ho
 have ld:d < s.heap.objs.size:=let ⟨_,h,_⟩:=hd;Heap.lt_size h
 refine⟨⟨_,hS,rfl⟩,PySem.F.args_list_init_2 _ _,?_⟩
 show wpAny _ _ (do let old ←Builtin.List.listItems (.ref s.heap.objs.size);Builtin.List.listUpdate (.ref s.heap.objs.size) (fun _=>#[]);letGo old.toList.reverse;Builtin.List.listExtendWith (.ref s.heap.objs.size) (.ref r) .none) _ _ _
 refine wpAny_bind ?_
 unfold Builtin.List.listItems
 refine wpAny_bind (wpAny_seqItems hS rfl (wpAny_pure ?_))
 show wpAny _ _ (updateSeq s.heap.objs.size (fun _=>#[]) >>= fun _=>letGo (#[]:Array Value).toList.reverse >>= fun _=>Builtin.List.listExtendWith (.ref s.heap.objs.size) (.ref r) .none) _ _ _
 refine wpAny_bind (wpAny_updateSeq hS rfl (wpAny_bind (wpAny_letGo ?_)))
 have old:∀b o,b≠s.heap.objs.size→s.heap.get? b=some o→((s.heap.push { cls:=.type "list",data:=.seq #[] }).update s.heap.objs.size (Obj.mapSeq (fun _=>(#[]:Array Value)))).get? b=some o:=fun b o hb e=>(Heap.get?_update_other _ _ (Ne.symm hb)).trans (Heap.get?_push_of_some _ e)
 refine sA (A:=A.in1) hh (let ⟨o,ho,x⟩:=hv;⟨o,old r o (Nat.ne_of_lt lr) ho,x⟩) (hd.keep fun o e=>old d o (Nat.ne_of_lt ld) e) s.heap.objs.size (Nat.ne_of_gt lr) (Nat.ne_of_lt ld) .none _ (Heap.get?_update_self (Obj.mapSeq (fun _=>(#[]:Array Value))) hS rfl) hn fun h' tk acc c as k e1 e2 e3 e4=>⟨rfl,q h' tk acc c as (fun b o e=>k b o (Nat.ne_of_lt (Heap.lt_size e)) (old b o (Nat.ne_of_lt (Heap.lt_size e)) e)) e1 e2 ⟨e3.rise,fun a ha=>?_,e3.at_⟩ e4⟩
 refine Nat.lt_of_le_of_lt (Nat.le_of_lt ?_) (e3.above a ha)
 exact Heap.lt_size (Heap.get?_update_self (Obj.mapSeq (fun _=>(#[]:Array Value))) hS rfl)
theorem oh{s:Shared}{Q:Value→Shared→Prop}(hsm:(d == sysModules)=false)(hd:s.TypeIs (.ref d) "dict")(q:Q (.ref s.heap.objs.size) { s with heap:=s.heap.push { cls:=.type "dict_items",data:=.fields #[.ref d] } }):wpAny (model P w) A (call (.builtin "dict.items") [.ref d]) Q E s:=by
 refine wpAny_call_entry PySem.F.slot_dict_items hd PySem.F.entry_dict_items ?_ (PySem.F.args_dict_items_1 _)
 unfold Builtin.«dict.items»
 refine wpAny_bind ?_
 unfold Builtin.Dict.noArgs
 refine wpAny_bind (wpAny_notOrdered_dict hd ?_)
 show wpAny _ _ (pure d) _ _ s
 refine wpAny_pure ?_
 show wpAny _ _ (Builtin.Dict.showsAll d >>= _) _ _ s
 unfold Builtin.Dict.showsAll
 rw [if_neg (by rw [hsm];decide)]
 exact wpAny_bind (wpAny_pure (wpAny_bind (wpAny_newObj_type (wpAny_pure ⟨_,rfl,q⟩))))
end
section
variable {P:Program} {w:World} {κ:Type} [DecidableEq κ] {X:Cx}
theorem sU{α β:Type}{F:α→β→Prop}{l:List α}{m:List β}(h:Paired F l m):∀(j:Nat) (x:α),l[j]?=some x→∃y,m[j]?=some y∧F x y:=by
 induction h with
 | nil=>intro j x e;cases e
 | cons r _ ih=>
  intro j x e
  cases j with
  | zero=>cases e;exact⟨_,rfl,r⟩
  | succ j=>exact ih j x e
theorem mL:∀as:List Addr,aA (as.map V.ref) (as.map Value.ref)
 | []=>.nil
 | a::as=>.cons rfl (mL as)
def eY(kk:KK P w κ)(to:TE):TE:=fun σ H Q=>to σ H fun x H1=>∃d xs,x=.ref d∧aP kk H1 d xs∧∀(p:Addr) (ts:List Addr) (H2:Hp),H1 p=none→H2 p=some (.lst (ts.map V.ref))→ts.length=xs.length→(∀(j:Nat) (t:Addr) (e:κ×Addr×V),ts[j]?=some t→xs[j]?=some e→H1 t=none∧H2 t=some (.tup [.ref e.2.1,e.2.2]))→aq H1 H2→Q (.ref p) H2
variable {kk':KK X.prog X.w κ}
theorem uR{o:Expr}{to:TE}{p apos cpos pos:Pos}(hc:X.calm=true)(hgl:Gl X "list")(hml:X.mg "list"=none)(ho:PE X o to)(hbase:attributeBase o "items" X.env (eval o X.env)=eval o X.env:=by rfl)(hline:(apos.endLine == cpos.line)=true:=by rfl):
  PE X (.Call (.Name "list" p) [.Call (.Attribute o "items" apos) [] [] cpos] [] pos) (eY kk' to):=by
 intro pins s σ H Q I h
 refine wpAny_Call_Name_kw (dS I hgl hml boot_list (PyProof.Rows.callWith_type1 ?_ rfl rfl))
 show wpAny _ _ (spliced ((false,eval (.Call (.Attribute o "items" apos) [] [] cpos) X.env)::backTo pos (starEach [] X.env))) _ _ s
 refine Calls.spliced_cons (wpAny_Call_method0_late hbase hline (cj (ho pins s σ H _ I h) fun v s1 ⟨x,H1,I1,r1,d,xs,ex,D,q1⟩=>?_))
 subst ex
 cases r1
 obtain⟨hsm,ys,dd,hp⟩:=i0 I1.hok D
 have ty:=dd.typeIs
 obtain⟨ob,es,ep,ho1,hx1,hda,hes,_,_⟩:=id dd
 refine⟨"dict","dict.items",PySem.F.plainAttrs_dict,PySem.F.slot_dict_items,PySem.F.type_dict_items,ty,fun a e=>?_,Calls.callWith_builtin rfl (PySem.evalArgs_none (oh hsm ty (Calls.spliced_nil ?_)))⟩
 ·cases e
  exact⟨ob,ho1,hx1.2.1⟩
 have k1:∀b u,s1.heap.get? b=some u→(s1.heap.push { cls:=.type "dict_items",data:=.fields #[.ref d] }).get? b=some u:=fun b u e=>Heap.get?_push_of_some _ e
 have I2:av X pins σ H1 { s1 with heap:=s1.heap.push { cls:=.type "dict_items",data:=.fields #[.ref d] },toks:=s1.toks }:=I1.kept k1
 have lx:xs.length=ys.length:=Paired.len' hp
 have le:es.size=xs.length:=by rw [←Array.length_toList,hes,List.length_map,lx]
 have hs:sizeLine=16777216:=sizeLine_eq
 have hz:=D.sz
 refine pR (s:={ s1 with heap:=s1.heap.push { cls:=.type "dict_items",data:=.fields #[.ref d] } }) (d:=d) (es:=es) (ep:=ep) (I1.ok.hd hc) ⟨_,Heap.get?_push_size _ rfl,rfl,rfl⟩ ⟨ob,k1 _ _ ho1,hda⟩ (by omega) fun h' tk acc c as kp hS hl T hacc=>?_
 dsimp only at kp hS T ⊢
 generalize hh1:s1.heap.push { cls:=.type "dict_items",data:=.fields #[.ref d] }=h1 at kp hS T I2
 have fr:∀b,h1.objs.size≤b→H1 b=none:=fun b hb=>I2.hok.fresh hb
 obtain⟨tp,htp⟩:∃tp:Addr→Option HO,tp=fun b=>if b∈as then(xs[as.idxOf b]?).map fun z=>HO.tup [.ref z.2.1,z.2.2]else none:=⟨_,rfl⟩
 have nd:as.Nodup:=T.rise.imp fun h=>Nat.ne_of_lt h
 have tp1:∀(j:Nat) (t:Addr) (e:κ×Addr×V),as[j]?=some t→xs[j]?=some e→tp t=some (.tup [.ref e.2.1,e.2.2]):=fun j t e e1 e2=>by
  obtain⟨hj,rfl⟩:=List.getElem?_eq_some_iff.mp e1
  rw [htp]
  show(if as[j]∈as then _ else _)=_
  rw [if_pos (List.getElem_mem hj),nd.idxOf_getElem j hj,e2]
  rfl
 have tp2:∀b o,tp b=some o→∃(j:Nat) (e:κ×Addr×V),as[j]?=some b∧xs[j]?=some e∧o=.tup [.ref e.2.1,e.2.2]:=fun b o e=>by
  rw [htp]at e
  have e:(if b∈as then(xs[as.idxOf b]?).map fun z=>HO.tup [.ref z.2.1,z.2.2]else none)=some o:=e
  by_cases hb:b∈as
  ·rw [if_pos hb]at e
   have hj:=List.idxOf_lt_length_of_mem hb
   refine⟨as.idxOf b,?_⟩
   rw [List.getElem?_eq_getElem hj,List.getElem_idxOf hj]
   cases e2:xs[as.idxOf b]? with
   | none=>rw [e2]at e;cases e
   | some z=>rw [e2]at e;exact⟨z,rfl,rfl,(Option.some.inj e).symm⟩
  ·rw [if_neg hb]at e
   cases e
 obtain⟨H2,hH2⟩:∃H2:Hp,H2=fun b=>if b=h1.objs.size then some (.lst (as.map V.ref))else(tp b).or (H1 b):=⟨_,rfl⟩
 have pS:H2 h1.objs.size=some (.lst (as.map V.ref)):=by rw [hH2];simp
 have ab:∀(j:Nat) (t:Addr),as[j]?=some t→h1.objs.size < t:=fun j t e=>T.above t (List.mem_of_getElem? e)
 have pT:∀(j:Nat) (t:Addr) (e:κ×Addr×V),as[j]?=some t→xs[j]?=some e→H2 t=some (.tup [.ref e.2.1,e.2.2]):=fun j t e e1 e2=>by
  rw [hH2]
  show(if t=h1.objs.size then _ else(tp t).or (H1 t))=_
  rw [if_neg (Nat.ne_of_gt (ab j t e1)),tp1 j t e e1 e2]
  rfl
 have old:∀b,b < h1.objs.size→H2 b=H1 b:=fun b hb=>by
  rw [hH2]
  show(if b=h1.objs.size then _ else(tp b).or (H1 b))=_
  rw [if_neg (Nat.ne_of_lt hb)]
  cases e:tp b with
  | none=>rfl
  | some o=>
   obtain⟨j,_,e1,_⟩:=tp2 b o e
   have:=ab j b e1
   omega
 have I3:=I2.laidN (t':=tk) kp old (fun b o hb e=>by
  rw [hH2]at e
  have e:(if b=h1.objs.size then some (HO.lst (as.map V.ref))else(tp b).or (H1 b))=some o:=e
  by_cases hbS:b=h1.objs.size
  ·rw [if_pos hbS]at e
   cases e
   subst hbS
   exact⟨by rw [List.length_map];omega,as.map Value.ref,c,mL as,by rw [←hacc];exact hS⟩
  ·rw [if_neg hbS,fr b hb]at e
   cases e2:tp b with
   | none=>rw [e2]at e;cases e
   | some o'=>
    rw [e2]at e
    cases e
    obtain⟨j,z,g1,g2,rfl⟩:=tp2 b _ e2
    obtain⟨en,g3,g4⟩:=T.at_ j b g1
    obtain⟨y,g5,g6⟩:=sU hp j z g2
    have g7:en=entryOfKey kk'.knd y:=by
     have:es.toList[j]?=some en:=by rw [Array.getElem?_toList];exact g3
     rw [hes,List.getElem?_map,g5]at this
     exact(Option.some.inj this).symm
    subst g7
    refine⟨by show 2≤sizeLine;omega,[.ref y.2.1,y.2.2],.cons (by rw [g6.2.1];rfl) (.cons g6.2.2 .nil),?_⟩
    exact⟨_,g4,rfl,_,rfl⟩)
 exact⟨.ref h1.objs.size,H2,I3,rfl,q1 h1.objs.size as H2 (fr _ (Nat.le_refl _)) pS (by omega) (fun j t e e1 e2=>⟨fr _ (Nat.le_of_lt (ab j t e1)),pT j t e e1 e2⟩) fun b o e=>by rw [old b (I2.hok b o e).lt];exact e⟩
end
end L2
namespace L2
open PySem PySem.Spec PyProof.Rows
theorem iu:bootBuiltins "reversed"=some (.type "reversed"):=by decide +kernel
def Al(K:PySem.W.Frag)(a:Addr)(n:Nat):It:=
 ⟨fun i H=>∃xs x,aL K H a xs∧xs.length=n∧i < n∧xs[n - 1 - i]?=some x,fun i H x H'=>H'=H∧∀xs,aL K H a xs→xs[n - 1 - i]?=some x,fun i _=>n≤i⟩
theorem vq{P:Program}{w:World}{K:PySem.W.Frag}{tg:Expr}(a it:Addr)(n:Nat):lH P w K tg (Al K a n) [it] it (fun i h=>i≤n∧h.IsRevIter it a ((n:Int) - 1 - (i:Int))) where
 mem:=by simp
 obj:=fun i h st b hb=>by
  have e:b=it:=by simpa using hb
  subst e
  obtain⟨_,o,e,c,d⟩:=st
  exact⟨o,e,fun v z=>by rw [d]at z;cases z⟩
 keep:=fun i h h' st k=>⟨st.1,st.2.at fun o e=>k it (by simp) o e⟩
 item:=by
  intro X hP hw hK hc i pins s σ H E I hf st hg
  subst hP hw hK
  obtain⟨xs,x,hq,hn,hi,hx⟩:=hg
  obtain⟨its,rv,p,hz⟩:=I.list hq
  obtain⟨u,hu,ru⟩:=rv.get hx
  obtain⟨f0,f1,f2,f3,f4,f5⟩:=hf it (by simp)
  have st1:=st.2
  rw [show(n:Int) - 1 - (i:Int)=((n - 1 - i:Nat):Int)by omega]at st1
  refine wpAny_pyNext_rev_item st1 p.isList (x:=u) (by simpa using hu) fun h' st' sb=>?_
  have I1:av X pins σ H { s with heap:=h' }:=I.turned (t':=s.toks) (fun b o hb e=>(sb.2 b hb).trans e) f0 f1 f3 f4 f5
  have st2:h'.IsRevIter it a ((n:Int) - 1 - ((i+1:Nat):Int)):=by
   rw [show(n:Int) - 1 - ((i+1:Nat):Int)=((n - 1 - i:Nat):Int) - 1 by omega]
   exact st'
  obtain⟨o,e,c,d⟩:=id st'
  exact⟨u,rfl,mj (s:={ s with heap:=h' }) e c d (by decide) ⟨x,H,I1,ru,⟨rfl,fun ys hy=>by rw [I.list_inj hy hq];exact hx⟩,⟨hi,st2⟩,fun b hb=>(hf b hb).1⟩⟩
 done:=by
  intro X hP hw hK hc i pins s σ H E I hf st hg
  subst hP hw hK
  obtain⟨f0,f1,f2,f3,f4,f5⟩:=hf it (by simp)
  have hg:n≤i:=hg
  have st1:=st.2
  rw [show(n:Int) - 1 - (i:Int) = -1 by have:=st.1;omega]at st1
  exact wpAny_pyNext_rev_end (I.ok.hd hc) st1 fun h' eb=>⟨rfl,I.turned (t':=s.toks) (fun b o hb e=>eb b o hb e) f0 f1 f3 f4 f5⟩
 self:=fun _ _ _ _ _ st h=>wpAny_pyIter_revIter st.2 h
section
variable {X:Cx} {tg:Expr}
def gr(K:PySem.W.Frag)(ta:TA):TI:=fun σ H R=>ta σ H fun vs H1=>∃a xs,vs=[.ref a]∧aL K H1 a xs∧R (Al K a xs.length) H1
theorem wO(K:PySem.W.Frag){a:Expr}{ta:TA}{p pos:Pos}(hg:Gl X "reversed")(hm:X.mg "reversed"=none)(ha:PA X [a] ta)(hK:X.K=K:=by rfl)(hs:starEach [a] X.env=[(false,eval a X.env)]:=by rfl):
  PI X tg (.Call (.Name "reversed" p) [a] [] pos) (gr K ta):=by
 subst hK
 intro pins s σ H R I h
 refine Call_ (dS I hg hm iu (PyProof.Rows.callWith_type1 (cj (ha pos pins s σ H _ I h) fun us s1 ⟨vs,H1,I1,r1,q1⟩=>?_) hs rfl))
 obtain⟨l,xs,e,hq,q⟩:=q1
 subst e
 obtain⟨u,rfl,ru⟩:=eM r1
 cases ru
 obtain⟨its,rv,pl,hz⟩:=I1.list hq
 have hl:=rv.length
 refine call_reversed_list pl.isList ?_
 have I2:av X pins σ H1 { s1 with heap:=s1.heap.push (revObj l ((its.toArray.size:Int) - 1)) }:=I1.kept (t':=s1.toks) fun b o e=>Heap.get?_push_of_some _ e
 have st:(s1.heap.push (revObj l ((its.toArray.size:Int) - 1))).IsRevIter s1.heap.objs.size l ((xs.length:Int) - 1 - ((0:Nat):Int)):=⟨_,Heap.get?_push_size _ rfl,rfl,by
  rw [show(xs.length:Int) - 1 - ((0:Nat):Int)=(its.toArray.size:Int) - 1 by simp [hl]]
  rfl⟩
 refine wpAny_pyIter_revIter (it:=s1.heap.objs.size) (l:=l) (i:=(xs.length:Int) - 1 - ((0:Nat):Int)) st ?_
 refine⟨s1.heap.objs.size,[s1.heap.objs.size],_,_,H1,rfl,I2,vq l s1.heap.objs.size xs.length,⟨Nat.zero_le _,st⟩,fun b hb=>?_,q⟩
 have e:b=s1.heap.objs.size:=by simpa using hb
 subst e
 exact I1.fpOk (Nat.le_refl _) (I1.hok.fresh (Nat.le_refl _))
end
theorem ux{g:TG}{tb:TS}{D:gD}{σ:St}{H:Hp}{K:PySem.W.Frag}{a:Addr}{xs:List V}(Pv:Nat→St→Hp→Prop)(h0:Pv 0 σ H)(hl:∀i σ H,i≤xs.length→Pv i σ H→aL K H a xs)
  (hs:∀i x σ H,xs.reverse[i]?=some x→Pv i σ H→g x σ H fun σ2 H2=>tb { D with nx:=Pv (i+1),ct:=Pv (i+1),bk:=D.nx } σ2 H2) (hd:∀σ H,Pv xs.length σ H→D.nx σ H):tS g tb D σ (Al K a xs.length) H:=by
 refine⟨fun i m σ H=>m=xs.length - i∧i≤xs.length∧Pv i σ H,⟨xs.length,by simp,Nat.zero_le _,h0⟩,?_⟩
 rintro i m σ H ⟨rfl,hi,p⟩
 by_cases hlt:i < xs.length
 ·have ex:xs[xs.length - 1 - i]?=some xs[xs.length - 1 - i]:=List.getElem?_eq_getElem (by omega)
  refine .inr ⟨⟨xs,_,hl i σ H hi p,rfl,hlt,ex⟩,Pv (i+1),fun σ' H' p'=>⟨xs.length - (i+1),by omega,rfl,hlt,p'⟩,fun x H' y=>?_⟩
  obtain⟨e,y⟩:=y
  subst e
  have:=y xs (hl i σ _ hi p)
  exact hs i x σ _ (by rw [List.getElem?_reverse hlt];exact this) p
 ·have e:i=xs.length:=by omega
  subst e
  exact .inl ⟨Nat.le_refl _,hd σ H p⟩
theorem sF:typeLookup (.type "list_reverseiterator") "__len__"=pure none:=by rw [typeLookup_type,builtinLookup_eq_fast];kernel_rfl
theorem uy:typeLookup (.type "list_reverseiterator") "__length_hint__"=pure (some (.builtin "list_reverseiterator.__length_hint__")):=by rw [typeLookup_type,builtinLookup_eq_fast];kernel_rfl
section
variable {P:Program} {w:World} {A:Around} {E:Value→Shared→Prop} {s:Shared} {r l:Addr} {items:Array Value}
theorem ue{Q:Bool→Shared→Prop}(ty:s.TypeIs (.ref r) "list_reverseiterator")(q:Q false s):wpAny (model P w) A (Builtin.List.listLengthHint (.ref r)) Q E s:=by
 unfold Builtin.List.listLengthHint
 refine wpAny_bind (wpAny_specialOf ty sF ?_)
 wp_delta
 refine wpAny_ite_split (fun h=>absurd h (by decide +kernel)) fun _=>?_
 refine wpAny_ite_split (fun h=>absurd h (by decide)) fun _=>?_
 refine wpAny_bind (wpAny_specialOf ty uy ?_)
 generalize hz:("list_reverseiterator.__length_hint__":String)=z
 wp_delta
 rw [show splitId z=some ("list_reverseiterator","__length_hint__")from by subst hz;decide +kernel]
 subst hz
 refine wpAny_bind (wpAny_isInstance (T:="list_reverseiterator") (b:=true) ty (by rw [isSubtype_type];kernel_rfl) (wpAny_ite_split (fun h=>absurd h (by decide)) fun _=>wpAny_ite_split (fun _=>wpAny_ite_split (fun h=>absurd h (by decide +kernel)) fun _=>wpAny_pure q) fun h=>absurd (by decide +kernel) h))
theorem p3{R:Result→Shared→Prop}(hd:A.handled=none)(hr:s.heap.IsRevIter r l ((items.size:Int) - 1 - ((0:Nat):Int)))(hl:s.heap.IsList l items)(hn:items.size≤sizeLine)(B:Addr)(res:Value)(e0:Nat)(nr:B≠r)(nl:B≠l)(hB:s.heap.get? B=some { cls:=.type "list",data:=.seq #[] e0 })
  (fin:∀h' tk acc e',(∀b o,b≠B→b≠r→s.heap.get? b=some o→h'.get? b=some o)→h'.get? B=some { cls:=.type "list",data:=.seq acc e' }→ItemsOf (fun i v=>items[items.size - 1 - i]?=some v) acc items.size→R (.ok (.ret res)) { s with heap:=h',toks:=tk }) :
  wpAny (model P w) A.in1 (Builtin.List.listExtendWith (.ref B) (.ref r) res) (fun f s'=>match f with | .done f=>R (.ok f) s' | .again c'=>c'.quiet=true∧codeAny (model P w) A c' R s') (fun e s'=>R (.error e) s') s:=by
 have lr:l≠r:=fun e=>by
  obtain⟨o,h1,h2,_⟩:=hr
  obtain⟨o',g1,g2,_⟩:=hl
  rw [e,h1]at g1
  cases g1
  rw [h2]at g2
  simp at g2
 have wk:=(Walks.listRev (prog:=P) (w:=w) (A:=A.in1) hd r l lr items).toS
 have run:∀(h:Heap) (e1 tk:Nat),h.IsRevIter r l ((items.size:Int) - 1 - ((0:Nat):Int))→h.IsList l items→(∀b o,b≠B→s.heap.get? b=some o→h.get? b=some o)→h.get? B=some { cls:=.type "list",data:=.seq #[] e1 }→
   codeAny (model P w) A (.builtin "list.extend.loop" ⟨[.ref B,.ref r,res],[]⟩) R { s with heap:=h,toks:=tk }:=by
  intro h e1 tk i1 i2 hk hB1
  refine codeAny_extend_loopS wk hn B (fun hm=>by simp at hm;exact hm.elim nr nl) res items.size 0 _ #[] e1 rfl (Nat.zero_le _) ⟨Nat.zero_le _,i1,i2⟩ hB1 (ItemsOf.nil _) fun s' acc e' mv hB' hacc=>?_
  rw [Moved.eq_with mv]
  exact fin s'.heap s'.toks acc e' (fun b o hb hb2 e=>mv.heap b o (fun hm=>by simp at hm;exact hm.elim hb hb2) (hk b o hb e)) hB' hacc
 unfold Builtin.List.listExtendWith
 refine wpAny_bind (wpAny_typeOf (T:="list_reverseiterator") hr.typeIs ?_)
 simp only [show Builtin.List.listSameRef (.ref B) (.ref r)=false by simp [Builtin.List.listSameRef,nr],show(Value.type "list_reverseiterator" == Value.type "list")=false by decide,show(Value.type "list_reverseiterator" == Value.type "tuple")=false by decide,Bool.or_false,Bool.false_eq_true,if_false]
 refine wpAny_bind (wpAny_pyIter_revIter hr (wpAny_bind (wpAny_holding (ue hr.typeIs (wpAny_ite_split (fun h=>absurd h (by decide)) (fun _=>wpAny_pure ⟨plainId_quiet F.plain_extend_loop _,run _ e0 _ hr hl (fun b o _ e=>e) hB⟩))))))
theorem lI{Q:Value→Shared→Prop}(hd:A.handled=none)(hr:s.heap.IsRevIter r l ((items.size:Int) - 1 - ((0:Nat):Int)))(hl:s.heap.IsList l items)(hn:items.size≤sizeLine)
  (fin:∀h' tk acc e',(∀b o,b≠r→s.heap.get? b=some o→h'.get? b=some o)→h'.get? s.heap.objs.size=some { cls:=.type "list",data:=.seq acc e' }→ItemsOf (fun i v=>items[items.size - 1 - i]?=some v) acc items.size→Q (.ref s.heap.objs.size) { s with heap:=h',toks:=tk }) :
  wpAny (model P w) A (call (.type "list") [.ref r]) Q E s:=by
 refine callType_codes (Q₁:=fun ob s1=>ob=.ref s.heap.objs.size∧s1={ s with heap:=s.heap.push { cls:=.type "list",data:=.seq #[] } }) F.called_list (F.typeCall_list_1 _) F.entry_list_init (code_list_new _ ⟨rfl,rfl⟩) fun ob s1 h1=>?_
 obtain⟨rfl,rfl⟩:=h1
 have hB:(s.heap.push { cls:=.type "list",data:=.seq #[] }).get? s.heap.objs.size=some { cls:=.type "list",data:=.seq #[] }:=Heap.get?_push_size _ rfl
 have rlt:r < s.heap.objs.size:=let ⟨_,h,_⟩:=hr;Heap.lt_size h
 have llt:l < s.heap.objs.size:=let ⟨_,h,_⟩:=hl;Heap.lt_size h
 refine⟨⟨_,hB,rfl⟩,F.args_list_init_2 _ _,?_⟩
 show wpAny _ A.in1.in1 (do let old ←Builtin.List.listItems (.ref s.heap.objs.size);Builtin.List.listUpdate (.ref s.heap.objs.size) (fun _=>#[]);letGo old.toList.reverse;Builtin.List.listExtendWith (.ref s.heap.objs.size) (.ref r) .none) _ _ _
 refine wpAny_bind ?_
 unfold Builtin.List.listItems
 refine wpAny_bind (wpAny_seqItems hB rfl (wpAny_pure ?_))
 show wpAny _ _ (updateSeq s.heap.objs.size (fun _=>#[]) >>= fun _=>letGo (#[]:Array Value).toList.reverse >>= fun _=>Builtin.List.listExtendWith (.ref s.heap.objs.size) (.ref r) .none) _ _ _
 refine wpAny_bind (wpAny_updateSeq hB rfl (wpAny_bind (wpAny_letGo ?_)))
 have old:∀b o,b≠s.heap.objs.size→s.heap.get? b=some o→((s.heap.push { cls:=.type "list",data:=.seq #[] }).update s.heap.objs.size (Obj.mapSeq (fun _=>(#[]:Array Value)))).get? b=some o:=fun b o hb e=>(Heap.get?_update_other _ _ (Ne.symm hb)).trans (Heap.get?_push_of_some _ e)
 refine p3 (A:=A.in1) hd (hr.at fun o e=>old r o (Nat.ne_of_lt rlt) e) (hl.at fun o e=>old l o (Nat.ne_of_lt llt) e) hn _ .none _ (Nat.ne_of_gt rlt) (Nat.ne_of_gt llt) (Heap.get?_update_self (Obj.mapSeq (fun _=>(#[]:Array Value))) hB rfl) fun h' tk acc e' hk hB' hacc=>?_
 exact⟨rfl,fin h' tk acc e' (fun b o hb e=>hk b o (Nat.ne_of_lt (Heap.lt_size e)) hb (old b o (Nat.ne_of_lt (Heap.lt_size e)) e)) hB' hacc⟩
end
section
variable {X:Cx}
theorem tH{xs:List V}{us vs:List Value}(h:aA xs us)(hl:vs.length=us.length)(hv:∀(i:Nat) (v:Value),vs[i]?=some v→us[us.length - 1 - i]?=some v):aA xs.reverse vs:=by
 have e:vs=us.reverse:=List.ext_getElem? fun i=>by
  by_cases hi:i < us.length
  ·rw [List.getElem?_reverse hi]
   have:vs[i]?=some vs[i]:=List.getElem?_eq_getElem (by omega)
   rw [this,hv i _ this]
  ·rw [List.getElem?_eq_none (by omega),List.getElem?_eq_none (by rw [List.length_reverse];omega)]
 rw [e]
 clear e hv hl
 induction h with
 | nil=>exact .nil
 | cons r _ ih=>
  rw [List.reverse_cons,List.reverse_cons]
  exact ih.append (.cons r .nil)
def cG(K:PySem.W.Frag)(ta:TA):TE:=fun σ H Q=>ta σ H fun vs H1=>∃a xs,vs=[.ref a]∧aL K H1 a xs∧∀l,H1 l=none→Q (.ref l) (upd H1 l (.lst xs.reverse))
theorem qk(K:PySem.W.Frag){a:Expr}{ta:TA}{p p2 pos pos2:Pos}(hc:X.calm=true)(hgl:Gl X "list")(hml:X.mg "list"=none)(hg:Gl X "reversed")(hm:X.mg "reversed"=none)(ha:PA X [a] ta)(hK:X.K=K:=by rfl)(hs:starEach [a] X.env=[(false,eval a X.env)]:=by rfl):
  PE X (.Call (.Name "list" p) [.Call (.Name "reversed" p2) [a] [] pos2] [] pos) (cG K ta):=by
 subst hK
 intro pins s σ H Q I h
 refine wpAny_Call_Name_kw (dS I hgl hml boot_list (PyProof.Rows.callWith_type1 ?_ rfl rfl))
 show wpAny _ _ (spliced ((false,eval (.Call (.Name "reversed" p2) [a] [] pos2) X.env)::backTo pos (starEach [] X.env))) _ _ s
 refine Calls.spliced_cons (wpAny_Call_Name_kw (dS I hg hm iu (PyProof.Rows.callWith_type1 (cj (ha pos2 pins s σ H _ I h) fun us s1 ⟨vs,H1,I1,r1,l,xs,e,hq,q⟩=>?_) hs rfl)))
 subst e
 obtain⟨u,rfl,ru⟩:=eM r1
 cases ru
 obtain⟨its,rv,pl,hz⟩:=I1.list hq
 have hlen:=rv.length
 refine call_reversed_list pl.isList (Calls.spliced_nil ?_)
 have hkp:∀b o,s1.heap.get? b=some o→(s1.heap.push (revObj l ((its.toArray.size:Int) - 1))).get? b=some o:=fun b o e=>Heap.get?_push_of_some _ e
 refine lI (s:={ s1 with heap:=s1.heap.push (revObj l ((its.toArray.size:Int) - 1)) }) (items:=its.toArray) (l:=l) (I1.ok.hd hc) ⟨_,Heap.get?_push_size _ rfl,rfl,by simp [revObj]⟩ (pl.isList.at fun o e=>hkp l o e) (by simp;omega) fun h' tk acc e' hk hB hacc=>?_
 have rlt:∀b o,s1.heap.get? b=some o→h'.get? b=some o:=fun b o e=>hk b o (Nat.ne_of_lt (Heap.lt_size e)) (hkp b o e)
 refine⟨.ref (s1.heap.push (revObj l ((its.toArray.size:Int) - 1))).objs.size,_,I1.laid (a:=(s1.heap.push (revObj l ((its.toArray.size:Int) - 1))).objs.size) (t':=tk) rlt (by rw [Heap.size_push];omega) (show cy X.prog X.w _ h' _ (.lst xs.reverse)from⟨by simp;omega,acc.toList,e',tH rv (by rw [Array.length_toList,hacc.1];simp) fun i v ev=>?_,hB⟩),rfl,q _ (I1.hok.fresh (by rw [Heap.size_push];omega))⟩
 have:=hacc.2 i v (by simpa using ev)
 simpa using this
end
end L2
namespace L2
open PySem PySem.Spec PyProof.Rows
theorem jB(f:Nat→Int):∀n:Nat,preSum f n=((List.range n).map f).sum
 | 0=>rfl
 | n+1=>by
  rw [List.range_succ,List.map_append,List.sum_append]
  show preSum f n+f n=_
  rw [jB f n]
  simp
theorem va(ns:List Int):(List.range ns.length).map (fun(i:Nat)=>ns.getD i 0)=ns:=by
 refine List.ext_getElem? fun i=>?_
 rw [List.getElem?_map]
 by_cases hi:i < ns.length
 ·rw [List.getElem?_range hi,List.getElem?_eq_getElem hi]
  simp [hi]
 ·rw [List.getElem?_eq_none (by rw [List.length_range];omega),List.getElem?_eq_none (by omega)]
  rfl
theorem rZ{X:Cx}(hc:X.calm=true)(K:PySem.W.Frag)(hK:X.K=K:=by rfl):bN X (.builtin "sum") (fun xs H Q=>∃p ns,xs=[.ref p]∧aL K H p (List.map V.int ns)∧Q (.int ns.sum) H):=by
 subst hK
 intro pins s σ H xs us Q I r h
 obtain⟨p,ns,rfl,hp,q⟩:=h
 obtain⟨u,rfl,ru⟩:=eM r
 cases ru
 obtain⟨its,rv,ht,_⟩:=I.list hp
 obtain⟨ps,e1,e2⟩:=iy rv
 have hl:s.heap.IsList p (intItems ps.toArray):=by
  have:=ht.isList
  rw [e1]at this
  simpa [intItems]using this
 have hn:ps.length=ns.length:=by rw [←e2,List.length_map]
 refine call_sum_walkAnyS (iter_intList hl fun s2 e st hfp hlI=>?_)
 subst e
 refine⟨_,_,_,_,_,_,_,fun i=>ns.getD i 0,rfl,(Walks.list (A:=X.A.in1) (I.ok.hd hc) _ p hlI (intItems ps.toArray)).toS,st,hfp,fun i v hv=>?_,fun s' t' hm=>?_⟩
 ·have hv:(intItems ps.toArray)[i]?=some v:=hv
  simp only [intItems,List.map_toArray,List.getElem?_toArray,List.getElem?_map,Option.map_eq_some_iff]at hv
  obtain⟨⟨a,t⟩,ha,rfl⟩:=hv
  have:ns[i]?=some a:=by rw [←e2,List.getElem?_map,ha];rfl
  exact⟨t,by simp [this]⟩
 ·have hz:(intItems ps.toArray).size=ns.length:=by simp [intItems,hn]
  rw [Moved.eq_with hm,jB,hz,va]
  exact⟨.int ns.sum,H,I.kept (t':=s'.toks) fun b o e=>hm.heap b o (fun z=>absurd (Heap.lt_size e) (by rw [List.mem_singleton.mp z];exact Nat.lt_irrefl _)) (Heap.get?_push_of_some _ e),⟨t',rfl⟩,q⟩
theorem zB{X:Cx}{P:Program}{w:World}{κ:Type}[DecidableEq κ](kk:KK P w κ){A:Around}{n:Nat}(hr:dz n A)(e:X.A=A:=by rfl)(e1:X.prog=P:=by rfl)(e2:X.w=w:=by rfl):dq X (compareOp .In) (zP kk):=by
 subst e e1 e2
 exact zA (jW hr)
theorem sX(K:PySem.W.Frag){X:Cx}{a:Expr}{ta:TE}(ha:PE X a ta)(he:∀whole,isTrue a X.env whole=(do let v ←whole;standAt a.pos;holding [v] (truthy v)))(hK:X.K=K:=by rfl):PT X a (fun σ H Q=>ta σ H fun x H'=>∃k,tV K x H' k∧Q k H'):=by
 subst hK
 exact eK ha he
end L2
seal PySem.wpAny
namespace K41
open PySem PyProof.Rows L2
def iQ(i:Nat):Stmt:=PySem.Challenge.pw_fourvoices_k41_counts_without_rules.main.body.getD i (.Pass ⟨0,0,0,0⟩)
abbrev gY:Stmt:=iQ 8
theorem sc_is_number:aI ["word","figures"] ["word"] (ar gY):=⟨rfl,rfl,rfl,by decide +kernel,rfl,by decide +kernel,by decide +kernel⟩
abbrev er:Stmt:=gd (iQ 21) 0
theorem i8:aI ["self","ranges","rules"] ["self","ranges","rules"] (ar er):=⟨rfl,rfl,rfl,by decide +kernel,rfl,by decide +kernel,by decide +kernel⟩
abbrev gm:Stmt:=iQ 22
theorem lU:aI ["column","low","high"] ["column","low","high"] (ar gm):=⟨rfl,rfl,rfl,by decide +kernel,rfl,by decide +kernel,by decide +kernel⟩
abbrev jn:Stmt:=iQ 23
theorem sc_columns:aI ["score","told","low","high","longer","column"] ["score"] (ar jn):=⟨rfl,rfl,rfl,by decide +kernel,rfl,by decide +kernel,by decide +kernel⟩
abbrev kO:Stmt:=iQ 24
theorem sc_weight:aI ["score","told","low","high","rule"] ["score"] (ar kO):=⟨rfl,rfl,rfl,by decide +kernel,rfl,by decide +kernel,by decide +kernel⟩
abbrev fB:Stmt:=iQ 25
theorem sc_not_too_wide:aI ["score","told"] ["score"] (ar fB):=⟨rfl,rfl,rfl,by decide +kernel,rfl,by decide +kernel,by decide +kernel⟩
abbrev eu:Stmt:=iQ 28
theorem sc_memories_after:aI ["rules","memories","before","column","told","place","rule","memory"] ["rules","memories","before","column"] (ar eu):=⟨rfl,rfl,rfl,by decide +kernel,rfl,by decide +kernel,by decide +kernel⟩
abbrev gX:Stmt:=iQ 29
theorem nM:aI ["rules","memories","last"] ["rules","memories","last"] (ar gX):=⟨rfl,rfl,rfl,by decide +kernel,rfl,by decide +kernel,by decide +kernel⟩
abbrev dZ:Stmt:=gd (iQ 30) 0
theorem iJ:aI ["self"] ["self"] (ar dZ):=⟨rfl,rfl,rfl,by decide +kernel,rfl,by decide +kernel,by decide +kernel⟩
abbrev fQ:Stmt:=gd (iQ 30) 3
theorem kP:aI ["self","state"] ["self","state"] (ar fQ):=⟨rfl,rfl,rfl,by decide +kernel,rfl,by decide +kernel,by decide +kernel⟩
abbrev eW:Stmt:=gd (iQ 30) 4
theorem jq:aI ["self"] ["self"] (ar eW):=⟨rfl,rfl,rfl,by decide +kernel,rfl,by decide +kernel,by decide +kernel⟩
abbrev fR:Stmt:=gd (iQ 30) 5
theorem kQ:aI ["self","state"] ["self","state"] (ar fR):=⟨rfl,rfl,rfl,by decide +kernel,rfl,by decide +kernel,by decide +kernel⟩
abbrev dE:Stmt:=gd (iQ 31) 0
theorem sc_Machine___init__:aI ["self","score","beginning"] ["self","score"] (ar dE):=⟨rfl,rfl,rfl,by decide +kernel,rfl,by decide +kernel,by decide +kernel⟩
abbrev eV:Stmt:=gd (iQ 31) 1
theorem sc_Machine_build:aI ["self","met","numbers","steps","rules","last","memories","leads","column","found"] ["self","met","numbers","steps"] (ar eV):=⟨rfl,rfl,rfl,by decide +kernel,rfl,by decide +kernel,by decide +kernel⟩
abbrev kL:Stmt:=iQ 10
theorem tq:aI ["column","given"] ["column","given"] (ar kL):=⟨rfl,rfl,rfl,by decide +kernel,rfl,by decide +kernel,by decide +kernel⟩
abbrev iH:Stmt:=iQ 33
theorem sc_agreeing:aI ["machine","given","told","column"] ["machine","given"] (ar iH):=⟨rfl,rfl,rfl,by decide +kernel,rfl,by decide +kernel,by decide +kernel⟩
abbrev gi:Stmt:=iQ 34
theorem lT:aI ["ways","taken","later"] ["ways","taken","later"] (ar gi):=⟨rfl,rfl,rfl,by decide +kernel,rfl,by decide +kernel,by decide +kernel⟩
abbrev fw:Stmt:=iQ 35
theorem sc_counts_paper:aI ["machine","pattern","backward","given","taken","later"] ["machine","pattern"] (ar fw):=⟨rfl,rfl,rfl,by decide +kernel,rfl,by decide +kernel,by decide +kernel⟩
abbrev jo:Stmt:=iQ 36
theorem qA:aI ["machine","pattern"] ["machine","pattern"] (ar jo):=⟨rfl,rfl,rfl,by decide +kernel,rfl,by decide +kernel,by decide +kernel⟩
abbrev fS:Stmt:=iQ 70
theorem sc_voice_range:aI ["row","words","bounds"] ["row"] (ar fS):=⟨rfl,rfl,rfl,by decide +kernel,rfl,by decide +kernel,by decide +kernel⟩
abbrev qy:Stmt:=iQ 71
theorem sc_read:aI ["text","ranges","rules","number","row","bounds"] ["text"] (ar qy):=⟨rfl,rfl,rfl,by decide +kernel,rfl,by decide +kernel,by decide +kernel⟩
abbrev kM:Stmt:=iQ 73
theorem tu:aI ["_law_script","_law_k"] ["_law_script","_law_k"] (ar kM):=⟨rfl,rfl,rfl,by decide +kernel,rfl,by decide +kernel,by decide +kernel⟩
abbrev g8:Stmt:=iQ 74
theorem sc_law_draws:aI ["_law_cell","_law_many","_law_digits","_law_rest","_law_seed","_law_found","_law_k"] ["_law_cell","_law_many"] (ar g8):=⟨rfl,rfl,rfl,by decide +kernel,rfl,by decide +kernel,by decide +kernel⟩
abbrev gk:Stmt:=iQ 75
theorem sc_law_ranges:aI ["_law_script","_law_most","_law_ways","_law_voices","_law_great","_law_low","_law_far","_law_found","_law_k","_law_wide","_law_first"] ["_law_script","_law_most"] (ar gk):=⟨rfl,rfl,rfl,by decide +kernel,rfl,by decide +kernel,by decide +kernel⟩
abbrev iI:Stmt:=iQ 77
theorem sc_law_text:aI ["_law_ranges_here","_law_rules","_law_rows"] ["_law_ranges_here","_law_rules"] (ar iI):=⟨rfl,rfl,rfl,by decide +kernel,rfl,by decide +kernel,by decide +kernel⟩
abbrev hJ:Stmt:=iQ 78
theorem nN:aI ["_law_found"] ["_law_found"] (ar hJ):=⟨rfl,rfl,rfl,by decide +kernel,rfl,by decide +kernel,by decide +kernel⟩
abbrev gZ:Stmt:=iQ 80
theorem sc_law_cells:aI ["_law_script","_law_start","_law_many","_law_found","_law_k"] ["_law_script","_law_start","_law_many"] (ar gZ):=⟨rfl,rfl,rfl,by decide +kernel,rfl,by decide +kernel,by decide +kernel⟩
abbrev g9:Stmt:=iQ 79
theorem sc_law_given:aI ["_law_pair","_law_way","_law_long","_law_low","_law_high"] ["_law_pair","_law_way","_law_long"] (ar g9):=⟨rfl,rfl,rfl,by decide +kernel,rfl,by decide +kernel,by decide +kernel⟩
abbrev gj:Stmt:=iQ 81
theorem sc_law_factor:aI ["_law_ranges_here","_law_column","_law_found","_law_k","_law_low","_law_high"] ["_law_ranges_here","_law_column"] (ar gj):=⟨rfl,rfl,rfl,by decide +kernel,rfl,by decide +kernel,by decide +kernel⟩
abbrev mE:Stmt:=iQ 82
theorem sc_law:aI ["_law_script","_law_ranges_here","_law_many","_law_pattern","_law_due","_law_cell","_law_ways","_law_column","_law_machine","_law_handed","_law_found","_law_more"] ["_law_script"] (ar mE):=⟨rfl,rfl,rfl,by decide +kernel,rfl,by decide +kernel,by decide +kernel⟩
structure Txt(mg:Str→Option Value)(aM:Addr):Prop where
 n_len:mg "len"=none
 n_range:mg "range"=none
 n_all:mg "all"=none
 n_min:mg "min"=none
 n_max:mg "max"=none
 n_tuple:mg "tuple"=none
 n_list:mg "list"=none
 n_isinstance:mg "isinstance"=none
 n_bool:mg "bool"=none
 n_int:mg "int"=none
 n_str:mg "str"=none
 n_enumerate:mg "enumerate"=none
 n_zip:mg "zip"=none
 n_sum:mg "sum"=none
 n_reversed:mg "reversed"=none
 g_FIGURES:∃u,mg "FIGURES"=some u∧aK (.str "0123456789") u
 g_MOST_FIGURES:∃u,mg "MOST_FIGURES"=some u∧aK (.int 40) u
 g_MOST_VOICES:∃u,mg "MOST_VOICES"=some u∧aK (.int 4) u
 g_MOST_RULES:∃u,mg "MOST_RULES"=some u∧aK (.int 12) u
 g_MOST_WEIGHT:∃u,mg "MOST_WEIGHT"=some u∧aK (.int 400) u
 g_START:∃u,mg "START"=some u∧aK (.int 0) u
local macro_rules | `(tactic| walk_at "rd") => `(tactic| (try dsimp only [↓aS, ↓aR, ↓aw, ↓aD, ↓aE, ↓aF, ↓aG, ↓aH, ↓ax, ↓ay, j5, jM, jI, jU, cD, cC, eQ, cA, eR, cB, du, cI, eL, cc, tC, jE, lu, fc, fJ, dn, c8, j4, cE, c7, fe, fC, lj, fG, lh, lq, a0, L2.start, List.map_cons, List.map_nil, List.length_cons, List.length_nil, List.replicate, List.cons_append, List.nil_append, List.set_cons_zero, List.set_cons_succ, aS, aR, aw, aD, aE, aF, aG, aH, ax, ay]) <;> (try simp only [↓aS, ↓aR, ↓aw, ↓aD, ↓aE, ↓aF, ↓aG, ↓aH, ↓ax, ↓ay, ↓uh, ↓ui, j5, jM, jI, jU, cD, cC, eQ, cA, eR, cB, du, cI, eL, cc, jw, tC, jE, lu, fc, e8, fJ, dn, c8, j4, cE, c7, fe, fC, lj, fG, fE, iP, fH, lh, lq, fP, a0, tE, k8, jg, gq, jG, jO, rI, rU, L2.start, bC, bD, br, bA, bB, bE, bF, bG, bt, cW, dQ, cP, cT, cQ, bS, bX, bT, bY, bR, bW, cU, cO, cS, cR, bo, List.map_cons, List.map_nil, List.length_cons, List.length_nil, List.replicate, List.cons_append, List.nil_append, List.append_nil, List.getElem?_cons_zero, List.getElem?_cons_succ, List.set_cons_zero, List.set_cons_succ, Option.some.injEq, fk, gL, bI, dm, dj, V.int.injEq, V.str.injEq, V.bl.injEq, V.ref.injEq, V.ty.injEq, List.cons.injEq, and_true, true_and, rf, gu, gv, eP, fY, hZ, f6, gy, gO, dy, d0, gr, cG, eY, jJ, gN, eO, eA, km, cX, cY, jH, gx, eX, fF, jR, jP, fZ, iO, bU, bZ, bV, b0, dw, c6, jQ, Int.zero_add, if_true, Bool.false_eq_true, if_false, cσ, List.getD_cons_zero, List.getD_cons_succ, di, fj, gJ, decide_eq_true_eq, reduceCtorEq, false_and, dk, false_or, or_false, gK, List.length_map, jS, jT, tP, ll, cL, dR, Bool.not_eq_true', ke, ite_not, aS, aR, aw, aD, aE, aF, aG, aH, ax, ay]) <;> try simp only [cb, bP, bO, dJ, dP, bJ, bK, cM, cN, bQ, bI, dm, dj, di, and_true, true_and, V.int.injEq, V.str.injEq, V.bl.injEq, V.ref.injEq, reduceCtorEq, false_and, dk, false_or, or_false])
local macro_rules | `(tactic| walk_at "flds") => `(tactic| simp only [aV, aZ, String.reduceEq, if_false, if_true, List.lookup])
def vk:Sp:=fun vs H Q _=>∃z,vs=[.str z]∧z.length≤10000∧∀H',aq H H'→Q (.bl (oG z.cps.toList)) H'
theorem xF{H H':Hp}{q:Addr}{x:HO}(h0:H q=none)(s:aq H H'):aq H (upd H' q x):=fun b o hb=>by
 rw [ai (aj hb h0)]
 exact s _ _ hb
def y9(P:Program)(w:World)(K:PySem.W.Frag)(mg:Str→Option Value)(base:Heap)(nv:Nat)(S:bh)(G:Int→Prop)(r:Addr)(H:Hp):Prop:=∃(C:Addr) (RI:y8),vI P w K mg base 7 nv C S RI G∧RI r H
structure iA(P:Program)(w:World)(K:PySem.W.Frag)(mg:Str→Option Value)(base:Heap)(nv:Nat)(Ss:List bh)(Gs:List (Int→Prop))(H:Hp)(b:Addr)(rs:List Addr):Prop where
 sq:aL K H b (rs.map V.ref)
 len:rs.length=Ss.length
 gl:Gs.length=Ss.length
 at_:∀(j:Nat) (r:Addr) (S:bh) (G:Int→Prop),rs[j]?=some r→Ss[j]?=some S→Gs[j]?=some G→y9 P w K mg base nv S G r H
theorem iA.same{P:Program}{w:World}{K:PySem.W.Frag}{mg:Str→Option Value}{base:Heap}{nv:Nat}{Ss:List bh}{Gs:List (Int→Prop)}{H H':Hp}{b:Addr}{rs:List Addr}(h:iA P w K mg base nv Ss Gs H b rs)(s:aq H H'):iA P w K mg base nv Ss Gs H' b rs:=
 ⟨s.seq h.sq,h.len,h.gl,fun j r S G e1 e2 e3=>let ⟨C,RI,h1,h2⟩:=h.at_ j r S G e1 e2 e3;⟨C,RI,h1,h1.mono _ _ _ s h2⟩⟩
def n5(Gs:List (Int→Prop))(ms:List Int):Prop:=ms.length=Gs.length∧∀(j:Nat) (G:Int→Prop) (m:Int),Gs[j]?=some G→ms[j]?=some m→G m
def iN(P:Program)(w:World)(K:PySem.W.Frag)(mg:Str→Option Value)(base:Heap):Sp:=fun vs H Q _=>∃(rb ma ca:Addr) (bx:V) (nv:Nat) (Ss:List bh) (Gs:List (Int→Prop)) (rs:List Addr) (ms c:List Int) (b:Option (List Int)),vs=[.ref rb,.ref ma,bx,.ref ca]∧
 iA P w K mg base nv Ss Gs H rb rs∧Ss.length≤100∧cq K H ma (ms.map V.int)∧n5 Gs ms∧BV K H nv b bx∧cq K H ca (c.map V.int)∧c.length=nv∧(ig Ss ms b c=none→∀H',aq H H'→Q .non H')∧∀ms',ig Ss ms b c=some ms'→n5 Gs ms'→∀p H',H' p=some (.tup (ms'.map V.int))→H p=none→aq H H'→Q (.ref p) H'
def iL(P:Program)(w:World)(K:PySem.W.Frag)(mg:Str→Option Value)(base:Heap):Sp:=fun vs H Q _=>∃(rb ma:Addr) (bx:V) (nv:Nat) (Ss:List bh) (Gs:List (Int→Prop)) (rs:List Addr) (ms:List Int) (b:Option (List Int)),vs=[.ref rb,.ref ma,bx]∧
 iA P w K mg base nv Ss Gs H rb rs∧Ss.length≤100∧cq K H ma (ms.map V.int)∧n5 Gs ms∧BV K H nv b bx∧∀H',aq H H'→Q (.bl (c9 Ss ms b)) H'
section
variable {P:Program} {w:World} {K:PySem.W.Frag} {mg:Str→Option Value} {base:Heap} {aM:Addr}
theorem sO{f:Addr}{fd:FuncData}(F:f9 K "is_number" "is_number" gY f fd)(T:Txt mg aM):bj P w K mg base fK 1 f fd ["word"] vk:=by
 refine F.ok sc_is_number (fun vs H Q E h=>?_) (fun cdv A outer s H vs Q E hr h=>?_)
 ·obtain⟨z,rfl,_⟩:=h
  rfl
 obtain⟨z,rfl,hz,k⟩:=h
 refine⟨_,(ag (az (i:=1) sc_is_number.nd rfl (Or.inl rfl) (kF (eK (c5 K PySem.F.plainAttrs_str PySem.F.slot_str_startswith PySem.F.type_str_startswith lN (pr 0) (aa fv af)) (fun _=>rfl)) (oZ (zS K) (pr 0) (zM ah) rC) (pr 0)))
 (ag (eJ (PW.pt (kJ (eU (aX uE (pr 1) fv (aT _))) (kK (eU (aX (o0 uO) (aJ (aU K) (by rfl) T.n_len boot_len (aa (pr 1) af)) (qj T.g_MOST_FIGURES) (aT _)))))) (ak (aQ oX)) dh)
 (ag (eJ (kI (eK (aJ (ib K rfl) (by rfl) T.n_all boot_all (aa (dW (own:=["sign"]) (js:=[]) rfl (cu K (pr 1)) (bf.of (by rfl)) (fun _ _ _ _ _=>(aC (i:=0) (show List.Nodup (["sign"]:List Str)from by decide +kernel) rfl (Or.inl rfl))) (fun _ _ _ _ _=>dY) (fun _ _ _ _ _=>(dU (zC K) (pr 0) (qj T.g_FIGURES) (by with_unfolding_all rfl)))) af)) (fun _=>rfl))) (ak (aQ oX)) dh)
 (ak (aQ (xC (xE (dU Au (bu (dC K) (pr 1) ah (fun _ _=>rfl)) fv (aT _)) (nk (dU uE (pr 0) fv (aT _)))))))))),?_⟩
 have hs:sizeLine=16777216:=sizeLine_eq
 have c0:(Str.ofString "").cps.toList=[]:=by decide +kernel
 have c45:(Str.ofString "-")=⟨#[45]⟩:=by decide +kernel
 have c48:(Str.ofString "0").cps.toList=[48]:=by decide +kernel
 have cF:(Str.ofString "0123456789").cps.toList=[48,49,50,51,52,53,54,55,56,57]:=by decide +kernel
 refine ba (fun σ H'=>∃y,σ=[some (.str z),some (.str y)]∧H=H'∧y.cps.toList=fU z.cps.toList) ?_ ?_
 ·rintro _ _ ⟨y,rfl,rfl,hy⟩
  have hyl:y.length≤10000:=by
   rw [aY,hy]
   rw [aY]at hz
   refine Nat.le_trans ?_ hz
   unfold fU
   split
   ·rw [List.length_tail];omega
   ·exact Nat.le_refl _
  walk_at "rd"
  have hk:=k
  rw [p7,←hy,←aY]at hk
  have q0:=hk H (aq.refl H)
  by_cases h1:y=Str.ofString ""
  ·rw [if_pos h1]
   rw [if_pos (Or.inl (by rw [h1,c0]))]at q0
   exact q0
  rw [if_neg h1]
  refine⟨by omega,?_⟩
  by_cases h2:(40:Int) < y.length
  ·rw [if_pos h2]
   rw [if_pos (Or.inr (by omega))]at q0
   exact q0
  rw [if_neg h2]
  have h3:¬(y.cps.toList=[]∨40 < y.length):=by
   rintro(e | e)
   ·exact h1 (str_iff.mpr (by rw [e,c0]))
   ·omega
  rw [if_neg h3]at hk
  have e0:y.cps.toList≠[]:=fun e=>h3 (Or.inl e)
  refine w4 (r9 (fun i ys H'=>ys=(y.cps.toList.take i).map (fun c=>V.bl (decide (c∈[48,49,50,51,52,53,54,55,56,57])))∧H=H') (by omega) ⟨rfl,rfl⟩ ?_ ?_ ?_)
  ·rintro i ys H' ⟨rfl,rfl⟩
   rw [List.length_map,List.length_take]
   omega
  ·rintro i c ys H' hc ⟨rfl,rfl⟩
   walk_at "rd"
   rw [cF,List.take_add_one,hc]
   simp
  ·rintro ys H' ⟨rfl,rfl⟩ p hp
   rw [aY,List.take_length]
   refine⟨y.cps.toList.map (fun c=>decide (c∈[48,49,50,51,52,53,54,55,56,57])),aL.of (by rw [ae,List.map_map];rfl),?_⟩
   have ed:(List.map (fun c=>decide (c∈[48,49,50,51,52,53,54,55,56,57])) y.cps.toList).all id=ox y.cps.toList:=by
    unfold ox
    rw [List.all_map]
    rfl
   have q1:=hk _ (ao (o:=.lst ((y.cps.toList.take y.cps.toList.length).map (fun c=>V.bl (decide (c∈[48,49,50,51,52,53,54,55,56,57]))))) hp)
   rw [List.take_length]at q1
   rw [ed]
   by_cases h4:ox y.cps.toList=false
   ·rw [if_pos h4]
    rw [if_pos h4]at q1
    exact q1
   rw [if_neg h4]
   rw [if_neg h4]at q1
   refine⟨by rw [←aY];omega,?_⟩
   cases hh:y.cps.toList with
   | nil=>exact absurd hh e0
   | cons a l=>
    rw [hh]at q1
    refine⟨a,gH rfl,?_⟩
    by_cases ha:a=48
    ·subst ha
     rw [if_pos (str_iff.mpr (by rw [c48])),jb,c48]
     simpa using q1
    ·rw [if_neg (fun e=>ha (by have:=str_iff.mp e;rw [c48]at this;simpa using this))]
     simpa [ha]using q1
 ·intro u' hu
  walk_at "rd"
  rw [c45,qG]
  by_cases h1:z.cps.toList.head?=some 45
  ·rw [if_pos (by simpa using h1)]
   exact⟨by omega,hu _ _ ⟨_,rfl,rfl,by rw [qC (by decide)];unfold fU;rw [if_pos h1];simp⟩⟩
  ·rw [if_neg (by simpa using h1)]
   exact hu _ _ ⟨_,rfl,rfl,by unfold fU;rw [if_neg h1]⟩
theorem nc{f:Addr}{fd:FuncData}(F:f9 K "memories_after" "memories_after" eu f fd)(T:Txt mg aM):bj P w K mg base fK 8 f fd ["rules","memories","before","column"] (iN P w K mg base):=by
 refine F.ok sc_memories_after (fun vs H Q E h=>?_) (fun cdv A outer s H vs Q E hr h=>?_)
 ·obtain⟨rb,ma,ca,bx,nv,Ss,Gs,rs,ms,c,b,rfl,_⟩:=h
  rfl
 obtain⟨rb,ma,ca,bx,nv,Ss,Gs,rs,ms,c,b,rfl,RM,lS,hma,hM,hb,hc,hcl,k1,k2⟩:=h
 refine⟨_,(ag (az (i:=4) sc_memories_after.nd rfl (Or.inl rfl) (cg af))
 (ag (dX PassesOwn.never rfl (pb rfl T.n_enumerate (aa (pr 0) af)) (eE K (n:=2) rfl (aW (aC (i:=5) sc_memories_after.nd rfl (Or.inl rfl)) (aW (aC (i:=6) sc_memories_after.nd rfl (Or.inl rfl)) eF)))
 (ag (az (i:=7) sc_memories_after.nd rfl (Or.inl rfl) (gW P w K mg base hr (pr 6) (aa (bu (dC K) (pr 1) (pr 5) (fun _ _=>rfl)) (aa (pr 2) (aa (pr 3) af)))))
 (ag (eJ (eU (aX ng (pr 7) eS (aT _))) (ak (aQ eS)) dh)
 (ak (cv (c5 K PySem.F.plainAttrs_list PySem.F.slot_list_append PySem.F.type_list_append bL (pr 4) (aa (pr 7) af)))))))
 (ak (aQ (bz (fM K) (by rfl) T.n_tuple boot_tuple (aa (pr 4) af)))))),?_⟩
 have hs:sizeLine=16777216:=sizeLine_eq
 have lr:=RM.len
 have lg:=RM.gl
 have lm:=hM.1
 have lres:(nK Ss ms b c).length=Ss.length:=by
  unfold nK
  rw [List.length_zipWith]
  omega
 refine ba (fun σ H'=>∃q:Addr,H q=none∧H' q=some (.lst [])∧σ=[some (.ref rb),some (.ref ma),some bx,some (.ref ca),some (.ref q),none,none,none]∧aq H H') ?_ ?_
 rotate_left
 ·intro u' hu
  walk_at "rd"
  exact⟨by omega,fun q hq=>hu _ _ ⟨q,hq,ae,rfl,ao hq⟩⟩
 rintro _ H1 ⟨q,hq0,hq1,rfl,s1⟩
 refine ba (fun σ H'=>∃(r:List Int) (o5 o6 o7:Option V),nK Ss ms b c=r.map some∧H' q=some (.lst (r.map V.int))∧σ=[some (.ref rb),some (.ref ma),some bx,some (.ref ca),some (.ref q),o5,o6,o7]∧aq H H') ?_ ?_
 rotate_left
 ·intro u' hu
  walk_at "rd"
  obtain⟨Pv,hPv⟩:∃Pv:Nat→L2.St→Hp→Prop,Pv=fun i σ H'=>∃(r:List Int) (o5 o6 o7:Option V),(nK Ss ms b c).take i=r.map some∧r.length=i∧H' q=some (.lst (r.map V.int))∧σ=[some (.ref rb),some (.ref ma),some bx,some (.ref ca),some (.ref q),o5,o6,o7]∧aq H H':=⟨_,rfl⟩
  refine⟨true,⟨_,s1.seq RM.sq⟩,ky (l:=true) (us:=rs.map V.ref) Pv (by rw [hPv];exact⟨[],none,none,none,rfl,rfl,hq1,rfl,s1⟩) (fun i σ H' _ h=>?_) ?_ ?_⟩
  ·rw [hPv]at h
   obtain⟨_,_,_,_,_,_,_,_,s'⟩:=h
   exact s'.seq RM.sq
  ·intro i y σ H2 p hx hI hp0
   rw [hPv]at hI
   obtain⟨r,o5,o6,o7,hr1,hrl,hq2,rfl,s2⟩:=hI
   rw [List.getElem?_map]at hx
   cases hri:rs[i]? with
   | none=>rw [hri]at hx;cases hx
   | some ra=>
    rw [hri]at hx
    cases hx
    have hi:i < Ss.length:=by rw [←lr];exact(List.getElem?_eq_some_iff.mp hri).1
    obtain⟨S,hS⟩:∃S,Ss[i]?=some S:=⟨_,List.getElem?_eq_getElem hi⟩
    obtain⟨G,hG⟩:∃G,Gs[i]?=some G:=⟨_,List.getElem?_eq_getElem (by omega)⟩
    obtain⟨m,hm⟩:∃m,ms[i]?=some m:=⟨_,List.getElem?_eq_getElem (by omega)⟩
    have hres:(nK Ss ms b c)[i]?=some (S.after m b c):=by
     unfold nK
     rw [List.getElem?_zipWith,hS,hm]
    have s3:aq H (upd H2 p (.tup [.int i,.ref ra])):=s2.upd hp0
    have hq3:=(ao (o:=HO.tup [.int i,.ref ra]) hp0) _ _ hq2
    have s23:=ao (o:=HO.tup [.int i,.ref ra]) hp0
    walk_at "rd"
    refine⟨_,cq.of ae,rfl,?_⟩
    walk_at "rd"
    generalize upd H2 p (.tup [.int i,.ref ra])=H3 at s3 hq3 s23
    obtain⟨C,RI,RO,hRI⟩:=(RM.same s3).at_ i ra S G hri hS hG
    obtain⟨dx,fs,hir,z1,z2,z3,z4,z5⟩:=RO.ins ra H3 hRI
    refine⟨C,dx,fs,hir,z3,_,_,RO.after,jC (s3.tup hma) (bq (by rw [List.getElem?_map,hm];rfl)) ⟨ra,m,bx,ca,b,c,rfl,hRI,hM.2 i G m hG hm,hb.same s3,s3.tup hc,hcl,?_⟩⟩
    cases ha:S.after m b c with
    | none=>
     show if zu none=V.non then _ else _
     rw [if_pos (show zu none=V.non from rfl)]
     exact k1 (mF (i:=i) (by rw [hres,ha])) _ s3
    | some m'=>
     show if zu (some m')=V.non then _ else _
     rw [if_neg (show ¬(zu (some m')=V.non)from fun z=>by cases z)]
     refine⟨.inl ⟨rfl,_,aL.of hq3⟩,q,_,_,rfl,rfl,hq3,by rw [List.length_map];omega,?_⟩
     rw [hPv]
     refine⟨r++[m'],_,_,_,?_,by rw [List.length_append,hrl];rfl,?_,rfl,xF hq0 s3⟩
     ·rw [List.take_add_one,hr1,hres,ha,List.map_append]
      rfl
     ·rw [ae,List.map_append]
      rfl
  ·intro σ H2 hI
   rw [hPv]at hI
   obtain⟨r,o5,o6,o7,hr1,hrl,hq2,rfl,s2⟩:=hI
   rw [List.length_map,lr,←lres,List.take_length]at hr1
   exact hu _ _ ⟨r,o5,o6,o7,hr1,hq2,rfl,s2⟩
 rintro _ H2 ⟨r,o5,o6,o7,hr1,hq2,rfl,s2⟩
 walk_at "rd"
 have hsome:=mG hr1
 refine⟨_,.inl ⟨aL.of hq2,fun p hp=>k2 r hsome ⟨?_,fun j G m' hG hm'=>?_⟩ p _ ae (s2.free hp) (s2.upd hp)⟩⟩
 ·have:=congrArg List.length hr1
  rw [List.length_map]at this
  omega
 ·have hj:j < Gs.length:=(List.getElem?_eq_some_iff.mp hG).1
  obtain⟨S,hS⟩:∃S,Ss[j]?=some S:=⟨_,List.getElem?_eq_getElem (by omega)⟩
  obtain⟨m,hm⟩:∃m,ms[j]?=some m:=⟨_,List.getElem?_eq_getElem (by omega)⟩
  obtain⟨ra,hra⟩:∃ra,rs[j]?=some ra:=⟨_,List.getElem?_eq_getElem (by omega)⟩
  obtain⟨C,RI,RO,_⟩:=RM.at_ j ra S G hra hS hG
  have hres:(nK Ss ms b c)[j]?=some (S.after m b c):=by
   unfold nK
   rw [List.getElem?_zipWith,hS,hm]
  rw [hr1,List.getElem?_map,hm']at hres
  exact RO.gS m b c m' (hM.2 j G m hG hm) (Option.some.inj hres).symm
theorem m9{f:Addr}{fd:FuncData}(F:f9 K "all_close" "all_close" gX f fd)(T:Txt mg aM):bj P w K mg base fK 8 f fd ["rules","memories","last"] (iL P w K mg base):=by
 refine F.ok nM (fun vs H Q E h=>?_) (fun cdv A outer s H vs Q E hr h=>?_)
 ·obtain⟨rb,ma,bx,nv,Ss,Gs,rs,ms,b,rfl,_⟩:=h
  rfl
 obtain⟨rb,ma,bx,nv,Ss,Gs,rs,ms,b,rfl,RM,lS,hma,hM,hb,k⟩:=h
 refine⟨_,(ak (aQ (aJ (ib K rfl) (by rfl) T.n_all boot_all (aa (dW (own:=["rule","memory"]) (js:=[2]) rfl (uU rfl T.n_zip (aa (pr 0) (aa (pr 1) af))) (bf.of (by rfl)) (fun _ _ _ _ _=>(eE K (n:=2) rfl (aW (aC (i:=0) (show List.Nodup (["rule","memory","last"]:List Str)from by decide +kernel) rfl (Or.inl rfl)) (aW (aC (i:=1) (show List.Nodup (["rule","memory","last"]:List Str)from by decide +kernel) rfl (Or.inl rfl)) eF)))) (fun _ _ _ _ _=>dY) (fun _ _ _ _ _=>(gW P w K mg base hr (pr 0) (aa (pr 1) (aa (pr 2) af))))) af)))),?_⟩
 have hs:sizeLine=16777216:=sizeLine_eq
 have lr:=RM.len
 have lg:=RM.gl
 have lm:=hM.1
 walk_at "rd"
 refine⟨true,⟨_,RM.sq⟩,false,⟨_,hma⟩,md (l1:=true) (l2:=false) (us:=rs.map V.ref) (vs:=ms.map V.int) (fun i ys H'=>ys=((List.zipWith (fun S m=>S.closes m b) Ss ms).take i).map V.bl∧aq H H') (by rw [List.length_map];omega) (by rw [List.length_map,List.length_map];omega) ⟨rfl,aq.refl _⟩ ?_ ?_ ?_ ?_⟩
 ·rintro i ys H' ⟨rfl,_⟩
  rw [List.length_map,List.length_take]
  omega
 ·rintro i ys H' ⟨rfl,s'⟩
  exact⟨s'.seq RM.sq,s'.tup hma⟩
 ·rintro i x y ys H1 p hx hy ⟨rfl,s1⟩ hp
  rw [List.getElem?_map]at hx hy
  cases hri:rs[i]? with
  | none=>rw [hri]at hx;cases hx
  | some ra=>
   cases hm:ms[i]? with
   | none=>rw [hm]at hy;cases hy
   | some m=>
    rw [hri]at hx
    rw [hm]at hy
    cases hx
    cases hy
    have hi:i < Ss.length:=by rw [←lr];exact(List.getElem?_eq_some_iff.mp hri).1
    obtain⟨S,hS⟩:∃S,Ss[i]?=some S:=⟨_,List.getElem?_eq_getElem hi⟩
    obtain⟨G,hG⟩:∃G,Gs[i]?=some G:=⟨_,List.getElem?_eq_getElem (by omega)⟩
    have s2:aq H (upd H1 p (.tup [.ref ra,.int m])):=s1.upd hp
    simp only [fi]
    walk_at "rd"
    refine⟨_,cq.of ae,rfl,?_⟩
    walk_at "rd"
    generalize upd H1 p (.tup [.ref ra,.int m])=H2 at s2
    obtain⟨C,RI,RO,hRI⟩:=(RM.same s2).at_ i ra S G hri hS hG
    obtain⟨dx,fs,hir,z1,z2,z3,z4,z5⟩:=RO.ins ra H2 hRI
    refine⟨C,dx,fs,hir,z4,_,_,RO.closes,ra,m,bx,b,rfl,hRI,hM.2 i G m hG hm,hb.same s2,?_⟩
    have hz:(List.zipWith (fun S m=>S.closes m b) Ss ms)[i]?=some (S.closes m b):=by rw [List.getElem?_zipWith,hS,hm]
    refine⟨?_,s2⟩
    rw [List.take_add_one,hz,List.map_append]
    rfl
 ·rintro ys H1 ⟨rfl,s1⟩ p hp
  refine⟨_,aL.of ae,?_⟩
  rw [List.length_map]
  have e:(List.zipWith (fun S m=>S.closes m b) Ss ms).take rs.length=List.zipWith (fun S m=>S.closes m b) Ss ms:=List.take_of_length_le (by rw [List.length_zipWith];omega)
  rw [e]
  exact k _ (s1.upd hp)
end
local macro_rules | `(tactic| walk_at "rd") => `(tactic| (try dsimp only [↓aS, ↓aR, ↓aw, ↓aD, ↓aE, ↓aF, ↓aG, ↓aH, ↓ax, ↓ay, j5, jM, jI, jU, cD, cC, eQ, cA, eR, cB, du, cI, eL, cc, tC, jE, lu, fc, fJ, dn, c8, j4, cE, c7, fe, fC, lj, fG, lh, lq, a0, L2.start, List.map_cons, List.map_nil, List.length_cons, List.length_nil, List.replicate, List.cons_append, List.nil_append, List.set_cons_zero, List.set_cons_succ, aS, aR, aw, aD, aE, aF, aG, aH, ax, ay]) <;> (try simp only [↓aS, ↓aR, ↓aw, ↓aD, ↓aE, ↓aF, ↓aG, ↓aH, ↓ax, ↓ay, ↓uh, ↓ui, j5, jM, jI, jU, cD, cC, eQ, cA, eR, cB, du, cI, eL, cc, jw, tC, jE, lu, fc, e8, fJ, dn, c8, j4, cE, c7, fe, fC, lj, fG, fE, iP, fH, lh, lq, fP, a0, tE, k8, jg, gq, jG, jO, rI, rU, L2.start, bC, bD, br, bA, bB, bE, bF, bG, bt, cW, dQ, cP, cT, cQ, bS, bX, bT, bY, bR, bW, cU, cO, cS, cR, bo, List.map_cons, List.map_nil, List.length_cons, List.length_nil, List.replicate, List.cons_append, List.nil_append, List.append_nil, List.getElem?_cons_zero, List.getElem?_cons_succ, List.set_cons_zero, List.set_cons_succ, Option.some.injEq, fk, gL, bI, dm, dj, V.int.injEq, V.str.injEq, V.bl.injEq, V.ref.injEq, V.ty.injEq, List.cons.injEq, and_true, true_and, rf, gu, gv, eP, fY, hZ, f6, gy, gO, dy, d0, gr, cG, eY, jJ, gN, eO, eA, km, cX, cY, jH, gx, eX, fF, jR, jP, fZ, iO, bU, bZ, bV, b0, dw, c6, jQ, Int.zero_add, if_true, Bool.false_eq_true, if_false, cσ, List.getD_cons_zero, List.getD_cons_succ, di, fj, gJ, decide_eq_true_eq, reduceCtorEq, false_and, dk, false_or, or_false, gK, List.length_map, jS, jT, tP, ll, cL, dR, Bool.not_eq_true', ke, ite_not, aS, aR, aw, aD, aE, aF, aG, aH, ax, ay]) <;> try simp only [cb, bP, bO, dJ, dP, bJ, bK, cM, cN, bQ, bI, dm, dj, di, and_true, true_and, V.int.injEq, V.str.injEq, V.bl.injEq, V.ref.injEq, reduceCtorEq, false_and, dk, false_or, or_false])
local macro_rules | `(tactic| walk_at "flds") => `(tactic| simp only [aV, aZ, String.reduceEq, if_false, if_true, List.lookup])
structure gC(P:Program)(w:World)(Ss:List bh)(Gs:List (Int→Prop))(cols:List (List Int))(nv:Nat)(U:List MS)(H:Hp)(ma na la wa:Addr)(H':Hp)(met:List MS)(ds:List Addr):Prop where
 mt:∃ps:List Addr,H' ma=some (.lst (ps.map V.ref))∧ps.length=met.length∧∀(j:Nat) (p:Addr) (s:MS),ps[j]?=some p→met[j]?=some s→(gB P w).at_ H' (bp s) p
 nm:∃xs,aP (gB P w) H' na xs∧iT met xs∧xs.length≤met.length
 la_:H' la=some (.lst (ds.map V.ref))
 ld:∀(i:Nat) (d:Addr) (s:MS),ds[i]?=some d→met[i]?=some s→∃xs,aP (n9 P w) H' d xs∧dH Ss cols met s xs
 fr:∀d∈ds,H d=none
 wl:H' wa=some (.lst ((met.take ds.length).map fun s=>V.bl (c9 Ss s.2 s.1)))
 le:ds.length≤met.length
 mf:qR Ss cols met
 al:∀s∈met,s∈U∧n5 Gs s.2∧∀c,s.1=some c→c.length=nv
 sx:lZ [ma,na,la,wa] H H'
section
variable {P:Program} {w:World} {Ss:List bh} {Gs:List (Int→Prop)} {cols:List (List Int)} {nv:Nat} {U:List MS} {H H' H'':Hp} {ma na la wa:Addr} {met:List MS} {ds:List Addr}
theorem gC.same(B:gC P w Ss Gs cols nv U H ma na la wa H' met ds)(s:aq H' H''):gC P w Ss Gs cols nv U H ma na la wa H'' met ds where
 mt:=let ⟨ps,h1,h2,h3⟩:=B.mt;⟨ps,s _ _ h1,h2,fun j p t e1 e2=>(gB P w).same s (h3 j p t e1 e2)⟩
 nm:=let ⟨xs,h1,h2,h3⟩:=B.nm;⟨xs,h1.same s,h2,h3⟩
 la_:=s _ _ B.la_
 ld:=fun i d t e1 e2=>let ⟨xs,h1,h2⟩:=B.ld i d t e1 e2;⟨xs,h1.same s,h2⟩
 fr:=B.fr
 wl:=s _ _ B.wl
 le:=B.le
 mf:=B.mf
 al:=B.al
 sx:=fun b o hb e=>s _ _ (B.sx b o hb e)
theorem gC.upd{z:Addr}{o:HO}(B:gC P w Ss Gs cols nv U H ma na la wa H' met ds)(nt:∀vs,H' z≠some (.tup vs))(h0:H z=none)(n1:z≠ma)(n2:z≠na)(n3:z≠la)(n4:z≠wa)(nd:∀d∈ds,d≠z):gC P w Ss Gs cols nv U H ma na la wa (upd H' z o) met ds where
 mt:=let ⟨ps,h1,h2,h3⟩:=B.mt;⟨ps,by rw [ai n1.symm];exact h1,h2,fun j p t e1 e2=>(gB P w).upd_ (h3 j p t e1 e2) nt⟩
 nm:=let ⟨xs,h1,h2,h3⟩:=B.nm;⟨xs,h1.upd n2.symm nt,h2,h3⟩
 la_:=by rw [ai n3.symm];exact B.la_
 ld:=fun i d t e1 e2=>let ⟨xs,h1,h2⟩:=B.ld i d t e1 e2;⟨xs,h1.upd (nd d (List.mem_of_getElem? e1)) nt,h2⟩
 fr:=B.fr
 wl:=by rw [ai n4.symm];exact B.wl
 le:=B.le
 mf:=B.mf
 al:=B.al
 sx:=fun b o' hb e=>by rw [ai (fun q=>by rw [q,h0]at e;cases e)];exact B.sx b o' hb e
theorem gC.put{xs:List (List (Option (List Int))×Addr×V)}{ps:List Addr}{p:Addr}{s' t:MS}{i:Nat}{c:List Int}(B:gC P w Ss Gs cols nv U H ma na la wa H' met ds)(D:aP (gB P w) H' na xs)(hN:iT met xs)(hx:xs.length≤met.length)(h1:H' ma=some (.lst (ps.map V.ref)))(h2:ps.length=met.length)
  (h3:∀(j:Nat) (p:Addr) (s:MS),ps[j]?=some p→met[j]?=some s→(gB P w).at_ H' (bp s) p) (hp:(gB P w).at_ H' (bp s') p) (hnew:s'∉met) (hU:s'∈U) (hM:n5 Gs s'.2) (hw:∀c,s'.1=some c→c.length=nv) (hfrom:met[i]?=some t) (hc:c∈cols) (hn:bH Ss t c=some s')
  (lm:met.length < 100000) (n1:ma≠na) (n3:ma≠la) (n4:ma≠wa) (m3:na≠la) (m4:na≠wa) (hma:H ma≠none) (hna:H na≠none) :
  gC P w Ss Gs cols nv U H ma na la wa (L2.upd (L2.upd H' na (dO (gB P w) na (ee xs (bp s') p (.int met.length)))) ma (.lst (ps.map V.ref++[.ref p]))) (met++[s']) ds:=by
 have ntN:∀vs,H' na≠some (.tup vs):=fun vs e=>by rw [D.ob]at e;cases e
 have ntM:∀vs,(L2.upd H' na (dO (gB P w) na (ee xs (bp s') p (.int met.length)))) ma≠some (.tup vs):=fun vs e=>by rw [ai n1,h1]at e;cases e
 have dM:∀d∈ds,d≠ma:=fun d hd e=>hma (by rw [←e];exact B.fr d hd)
 have dN:∀d∈ds,d≠na:=fun d hd e=>hna (by rw [←e];exact B.fr d hd)
 have up2:∀{k:List (Option (List Int))} {a:Addr},(gB P w).at_ H' k a→(gB P w).at_ (L2.upd (L2.upd H' na (dO (gB P w) na (ee xs (bp s') p (.int met.length)))) ma (.lst (ps.map V.ref++[.ref p]))) k a:=fun h=>(gB P w).upd_ ((gB P w).upd_ h ntN) ntM
 have hput:(ee xs (bp s') p (V.int met.length)).length≤met.length+1:=by
  unfold ee
  split
  ·rw [List.length_map];omega
  ·rw [List.length_append];simp;omega
 refine⟨⟨ps++[p],by rw [ae,List.map_append];rfl,by rw [List.length_append,List.length_append,h2];rfl,fun j q t e1 e2=>?_⟩,⟨_,(D.put hp (by omega)).upd n1.symm ntM,hN.put hnew,by rw [List.length_append];exact hput⟩,?_,fun i d t e1 e2=>?_,B.fr,?_,?_,⟨?_,?_,fun i' t' e1 hi=>?_⟩,fun t ht=>?_,fun b o hb e=>?_⟩
 ·by_cases hj:j < ps.length
  ·rw [List.getElem?_append_left hj]at e1
   rw [List.getElem?_append_left (by rw [←h2];exact hj)]at e2
   exact up2 (h3 j q t e1 e2)
  ·rw [List.getElem?_append_right (by omega)]at e1
   rw [List.getElem?_append_right (by rw [←h2];omega),←h2]at e2
   have h0:j - ps.length=0:=by
    have:=(List.getElem?_eq_some_iff.mp e1).1
    simp at this
    omega
   rw [h0]at e1 e2
   cases e1
   cases e2
   exact up2 hp
 ·rw [ai n3.symm,ai m3.symm]
  exact B.la_
 ·have hlt:i < met.length:=Nat.lt_of_lt_of_le (List.getElem?_eq_some_iff.mp e1).1 B.le
  rw [List.getElem?_append_left hlt]at e2
  obtain⟨ys,g1,g2⟩:=B.ld i d t e1 e2
  have hd:=List.mem_of_getElem? e1
  exact⟨ys,(g1.upd (dN d hd) ntN).upd (dM d hd) ntM,g2.more _⟩
 ·rw [ai n4.symm,ai m4.symm,List.take_append_of_le_length B.le]
  exact B.wl
 ·rw [List.length_append]
  have:=B.le
  omega
 ·refine List.nodup_append.mpr ⟨B.mf.nd,by simp,fun x hx y hy=>?_⟩
  rw [List.mem_singleton.mp hy]
  rintro rfl
  exact hnew hx
 ·rw [List.getElem?_append_left (List.getElem?_eq_some_iff.mp B.mf.st).1]
  exact B.mf.st
 ·by_cases hj:i' < met.length
  ·rw [List.getElem?_append_left hj]at e1
   obtain⟨j,t0,c0,g1,g2,g3,g4⟩:=B.mf.sub i' t' e1 hi
   exact⟨j,t0,c0,g1,by rw [List.getElem?_append_left (by omega)];exact g2,g3,g4⟩
  ·rw [List.getElem?_append_right (by omega)]at e1
   have h0:i' - met.length=0:=by
    have:=(List.getElem?_eq_some_iff.mp e1).1
    simp at this
    omega
   rw [h0]at e1
   cases e1
   have hlt:=(List.getElem?_eq_some_iff.mp hfrom).1
   exact⟨i,t,c,by omega,by rw [List.getElem?_append_left hlt];exact hfrom,hc,hn⟩
 ·rcases List.mem_append.mp ht with ht | ht
  ·exact B.al t ht
  ·rw [List.mem_singleton.mp ht]
   exact⟨hU,hM,hw⟩
 ·have hb1:b≠ma:=fun q=>hb (by simp [q])
  have hb2:b≠na:=fun q=>hb (by simp [q])
  rw [ai hb1,ai hb2]
  exact B.sx b o hb e
theorem gC.close{dA:Addr}{ys:List (List Int×Addr×V)}{st:MS}{H4:Hp}(B:gC P w Ss Gs cols nv U H ma na la wa H' met ds)(D:aP (n9 P w) H' dA ys)(L:dH Ss cols met st ys)(hst:met[ds.length]?=some st)(h0:H dA=none)(n3:ma≠la)(n4:ma≠wa)(m3:na≠la)(m4:na≠wa)(lw:la≠wa)(hla:H la≠none)(hwa:H wa≠none)
  (s:aq (L2.upd H' la (.lst (ds.map V.ref++[.ref dA]))) H4):gC P w Ss Gs cols nv U H ma na la wa (L2.upd H4 wa (.lst (((met.take ds.length).map fun s=>V.bl (c9 Ss s.2 s.1))++[.bl (c9 Ss st.2 st.1)]))) met (ds++[dA]):=by
 have ntL:∀vs,H' la≠some (.tup vs):=fun vs e=>by rw [B.la_]at e;cases e
 have hw4:H4 wa=some (.lst ((met.take ds.length).map fun s=>V.bl (c9 Ss s.2 s.1))):=s _ _ (by rw [ai lw.symm];exact B.wl)
 have ntW:∀vs,H4 wa≠some (.tup vs):=fun vs e=>by rw [hw4]at e;cases e
 have dL:∀d∈ds++[dA],d≠la∧d≠wa:=fun d hd=>by
  have:H d=none:=by
   rcases List.mem_append.mp hd with hd | hd
   ·exact B.fr d hd
   ·rw [List.mem_singleton.mp hd];exact h0
  exact⟨fun e=>hla (by rw [←e];exact this),fun e=>hwa (by rw [←e];exact this)⟩
 have hlt:=(List.getElem?_eq_some_iff.mp hst).1
 have kN:∀{k:List (Option (List Int))} {a:Addr},(gB P w).at_ H' k a→(gB P w).at_ (L2.upd H4 wa (.lst (((met.take ds.length).map fun s=>V.bl (c9 Ss s.2 s.1))++[.bl (c9 Ss st.2 st.1)]))) k a:=fun h=>(gB P w).upd_ ((gB P w).same s ((gB P w).upd_ h ntL)) ntW
 obtain⟨ps,g1,g2,g3⟩:=B.mt
 obtain⟨xs,d1,d2,d3⟩:=B.nm
 refine⟨⟨ps,by rw [ai n4];exact s _ _ (by rw [ai n3];exact g1),g2,fun j p t e1 e2=>kN (g3 j p t e1 e2)⟩,⟨xs,((d1.upd m3 ntL).same s).upd m4 ntW,d2,d3⟩,?_,fun i d t e1 e2=>?_,fun d hd=>?_,?_,by rw [List.length_append];simp;omega,B.mf,B.al,fun b o hb e=>?_⟩
 ·rw [ai lw,List.map_append]
  exact s _ _ ae
 ·have hd:=List.mem_of_getElem? e1
  by_cases hi:i < ds.length
  ·rw [List.getElem?_append_left hi]at e1
   obtain⟨zs,q1,q2⟩:=B.ld i d t e1 e2
   exact⟨zs,((q1.upd (dL d hd).1 ntL).same s).upd (dL d hd).2 ntW,q2⟩
  ·rw [List.getElem?_append_right (by omega)]at e1
   have h0':i - ds.length=0:=by
    have:=(List.getElem?_eq_some_iff.mp e1).1
    simp at this
    omega
   rw [h0']at e1
   cases e1
   rw [show i=ds.length by omega,hst]at e2
   cases e2
   exact⟨ys,((D.upd (dL dA hd).1 ntL).same s).upd (dL dA hd).2 ntW,L⟩
 ·rcases List.mem_append.mp hd with hd | hd
  ·exact B.fr d hd
  ·rw [List.mem_singleton.mp hd];exact h0
 ·rw [ae,List.length_append]
  show _=some (HO.lst (List.map _ (List.take (ds.length+1) met)))
  rw [List.take_add_one,hst,List.map_append]
  rfl
 ·have hb1:b≠la:=fun q=>hb (by simp [q])
  have hb2:b≠wa:=fun q=>hb (by simp [q])
  rw [ai hb2]
  exact s _ _ (by rw [ai hb1];exact B.sx b o hb e)
end
local macro_rules | `(tactic| walk_at "rd") => `(tactic| (try dsimp only [↓aS, ↓aR, ↓aw, ↓aD, ↓aE, ↓aF, ↓aG, ↓aH, ↓ax, ↓ay, j5, jM, jI, jU, cD, cC, eQ, cA, eR, cB, du, cI, eL, cc, tC, jE, lu, fc, fJ, dn, c8, j4, cE, c7, fe, fC, lj, fG, lh, lq, a0, L2.start, List.map_cons, List.map_nil, List.length_cons, List.length_nil, List.replicate, List.cons_append, List.nil_append, List.set_cons_zero, List.set_cons_succ, aS, aR, aw, aD, aE, aF, aG, aH, ax, ay]) <;> (try simp only [↓aS, ↓aR, ↓aw, ↓aD, ↓aE, ↓aF, ↓aG, ↓aH, ↓ax, ↓ay, ↓uh, ↓ui, j5, jM, jI, jU, cD, cC, eQ, cA, eR, cB, du, cI, eL, cc, jw, tC, jE, lu, fc, e8, fJ, dn, c8, j4, cE, c7, fe, fC, lj, fG, fE, iP, fH, lh, lq, fP, a0, tE, k8, jg, gq, jG, jO, rI, rU, L2.start, bC, bD, br, bA, bB, bE, bF, bG, bt, cW, dQ, cP, cT, cQ, bS, bX, bT, bY, bR, bW, cU, cO, cS, cR, bo, List.map_cons, List.map_nil, List.length_cons, List.length_nil, List.replicate, List.cons_append, List.nil_append, List.append_nil, List.getElem?_cons_zero, List.getElem?_cons_succ, List.set_cons_zero, List.set_cons_succ, Option.some.injEq, fk, gL, bI, dm, dj, V.int.injEq, V.str.injEq, V.bl.injEq, V.ref.injEq, V.ty.injEq, List.cons.injEq, and_true, true_and, rf, gu, gv, eP, fY, hZ, f6, gy, gO, dy, d0, gr, cG, eY, jJ, gN, eO, eA, km, cX, cY, jH, gx, eX, fF, jR, jP, fZ, iO, bU, bZ, bV, b0, dw, c6, jQ, Int.zero_add, if_true, Bool.false_eq_true, if_false, cσ, List.getD_cons_zero, List.getD_cons_succ, di, fj, gJ, decide_eq_true_eq, reduceCtorEq, false_and, dk, false_or, or_false, gK, List.length_map, jS, jT, tP, ll, cL, dR, Bool.not_eq_true', ke, ite_not, aS, aR, aw, aD, aE, aF, aG, aH, ax, ay]) <;> try simp only [cb, bP, bO, dJ, dP, bJ, bK, cM, cN, bQ, bI, dm, dj, di, and_true, true_and, V.int.injEq, V.str.injEq, V.bl.injEq, V.ref.injEq, reduceCtorEq, false_and, dk, false_or, or_false])
local macro_rules | `(tactic| walk_at "flds") => `(tactic| simp only [aV, aZ, String.reduceEq, if_false, if_true, List.lookup])
def da(a b:Addr):List (Str×V):=dF "rules" (.ref b) (dF "ranges" (.ref a) [])
structure dG(K:PySem.W.Frag)(C:Addr):Prop where
 cl:tJ K C
 n1:NoAttr K C "ranges"
 n2:NoAttr K C "rules"
theorem mr(a b:Addr):(da a b).lookup (Str.ofString "ranges")=some (.ref a):=by unfold da;walk_at "flds"
theorem kx(a b:Addr):(da a b).lookup (Str.ofString "rules")=some (.ref b):=by unfold da;walk_at "flds"
def cz(K:PySem.W.Frag)(H:Hp)(a:Addr)(bs:List (Int×Int)):Prop:=∃ts:List Addr,aL K H a (ts.map V.ref)∧ts.length=bs.length∧∀(i:Nat) (t:Addr) (b:Int×Int),ts[i]?=some t→bs[i]?=some b→cq K H t [.int b.1,.int b.2]
theorem cz.same{K:PySem.W.Frag}{H H':Hp}{a:Addr}{bs:List (Int×Int)}(s:aq H H')(h:cz K H a bs):cz K H' a bs:=by
 obtain⟨ts,h1,h2,h3⟩:=h
 exact⟨ts,s.seq h1,h2,fun i t b e1 e2=>s.tup (h3 i t b e1 e2)⟩
def h8(b:Int×Int):Int:=b.2 - b.1+1
def tR(bs:List (Int×Int)):Int:=bs.foldl (fun t b=>t * h8 b) 1
theorem j0{α:Type}(f:α→Int):∀(l:List α) (t:Int) (m:Nat),t.natAbs < 2 ^ m→(∀b∈l,(f b).natAbs < 2 ^ 200)→(l.foldl (fun t b=>t * f b) t).natAbs < 2 ^ (m+200 * l.length)
 | [],t,m,h,_=>by simpa using h
 | b::l,t,m,h,hb=>by
  have h1:(t * f b).natAbs < 2 ^ (m+200):=by
   rw [Int.natAbs_mul,Nat.pow_add]
   exact Nat.mul_lt_mul_of_lt_of_le h (Nat.le_of_lt (hb b (by simp))) (Nat.pow_pos (by decide))
  have:=j0 f l (t * f b) (m+200) h1 fun x hx=>hb x (by simp [hx])
  rw [List.length_cons,show m+200 * (l.length+1)=m+200+200 * l.length by omega]
  exact this
theorem vw{bs:List (Int×Int)}(h:∀b∈bs,(h8 b).natAbs < 2 ^ 200):(tR bs).natAbs < 2 ^ (1+200 * bs.length):=j0 h8 bs 1 1 (by decide) h
theorem m5{a b:Int}{m:Nat}(ha:a.natAbs < 2 ^ m)(hb:b.natAbs < 2 ^ 200)(h:m≤100000):IntMulOk a b:=IntMulOk.of_le (m:=m) (n:=200) (intBits_le_iff.mpr ha) (intBits_le_iff.mpr hb) (by omega)
def hV(K:PySem.W.Frag)(C:Addr):Sp:=fun vs H Q _=>∃(x dx a b:Addr) (xs ys:List V),vs=[.ref x,.ref a,.ref b]∧H x=some (.ins C dx [])∧aL K H a xs∧aL K H b ys∧
 ∀p q H',H p=none→H q=none→q≠p→H'=upd (upd (upd H p (.lst xs)) q (.lst ys)) x (.ins C dx (da p q))→Q .non H'
def wN(b:Int×Int):Nat:=(b.2 - b.1+1).toNat
def fb(b:Int×Int)(c:List Int):List (List Int):=(List.range (wN b)).map fun(j:Nat)=>c++[b.1+(j:Int)]
def aB(bs:List (Int×Int)):List (List Int):=bs.foldl (fun told b=>told.flatMap (fb b)) [[]]
def ix(bs:List (Int×Int)):Nat:=bs.foldl (fun t b=>t * wN b) 1
theorem iC(bs:List (Int×Int))(b:Int×Int):aB (bs++[b])=(aB bs).flatMap (fb b):=by
 unfold aB
 rw [List.foldl_append]
 rfl
theorem ka(bs:List (Int×Int))(b:Int×Int):ix (bs++[b])=ix bs * wN b:=by
 unfold ix
 rw [List.foldl_append]
 rfl
theorem kg{α β:Type}{w:Nat}{f:α→List β}(h:∀x,(f x).length=w):∀l:List α,(l.flatMap f).length=l.length * w
 | []=>by simp
 | x::l=>by rw [List.flatMap_cons,List.length_append,h,kg h l,List.length_cons,Nat.add_mul,Nat.one_mul,Nat.add_comm]
theorem q9{α β:Type}{w:Nat}{f:α→List β}(hw:0 < w)(h:∀x,(f x).length=w):∀(l:List α) (k:Nat),(l.flatMap f)[k]?=(l[k / w]?).bind fun x=>(f x)[k % w]?
 | [],k=>by simp
 | x::l,k=>by
  rw [List.flatMap_cons]
  by_cases hk:k < w
  ·rw [List.getElem?_append_left (by rw [h];exact hk),Nat.div_eq_of_lt hk,Nat.mod_eq_of_lt hk]
   rfl
  ·rw [List.getElem?_append_right (by rw [h];omega),h,q9 hw h l (k - w)]
   have e1:k / w=(k - w) / w+1:=by
    rw [Nat.div_eq_sub_div hw (by omega)]
   have e2:k % w=(k - w) % w:=by rw [Nat.mod_eq_sub_mod (by omega)]
   rw [e1,e2]
   rfl
theorem gM(b:Int×Int)(c:List Int):(fb b c).length=wN b:=by
 unfold fb
 rw [List.length_map,List.length_range]
theorem zf{bs:List (Int×Int)}{b:Int×Int}{k:Nat}{c:List Int}(hw:0 < wN b)(h:(aB (bs++[b]))[k]?=some c):∃p,(aB bs)[k / wN b]?=some p∧c=p++[b.1+((k % wN b:Nat):Int)]:=by
 rw [iC,q9 hw (gM b)]at h
 cases e:(aB bs)[k / wN b]? with
 | none=>rw [e]at h;cases h
 | some p=>
  rw [e]at h
  have h:(fb b p)[k % wN b]?=some c:=h
  unfold fb at h
  rw [List.getElem?_map,List.getElem?_range (Nat.mod_lt _ hw)]at h
  exact⟨p,rfl,(Option.some.inj h).symm⟩
theorem eh(bs:List (Int×Int)):(aB bs).length=ix bs:=by
 have go:∀(bs:List (Int×Int)) (told:List (List Int)),(bs.foldl (fun told b=>told.flatMap (fb b)) told).length=bs.foldl (fun t b=>t * wN b) told.length:=by
  intro bs
  induction bs with
  | nil=>intro told;rfl
  | cons b bs ih=>intro told;rw [List.foldl_cons,List.foldl_cons,ih,kg (gM b)]
 exact go bs [[]]
theorem xj{bs:List (Int×Int)}(h:∀b∈bs,b.1≤b.2):tR bs=(ix bs:Int):=by
 have go:∀(bs:List (Int×Int)) (t:Nat),(∀b∈bs,b.1≤b.2)→bs.foldl (fun t b=>t * h8 b) (t:Int)=((bs.foldl (fun t b=>t * wN b) t:Nat):Int):=by
  intro bs
  induction bs with
  | nil=>intro t _;rfl
  | cons b bs ih=>
   intro t hb
   have:=hb b (by simp)
   rw [List.foldl_cons,List.foldl_cons,←ih _ fun x hx=>hb x (by simp [hx]),Int.natCast_mul]
   congr 2
   unfold h8 wN
   omega
 exact go bs 1 h
theorem pV:∀(bs:List (Int×Int)) (t:Nat),(∀b∈bs,1≤wN b)→t≤bs.foldl (fun t b=>t * wN b) t
 | [],t,_=>Nat.le_refl _
 | b::bs,t,h=>Nat.le_trans (Nat.le_mul_of_pos_right t (h b (by simp))) (pV bs _ fun x hx=>h x (by simp [hx]))
theorem gI{bs:List (Int×Int)}(h:∀b∈bs,1≤wN b)(i:Nat):1≤ix (bs.take i)∧ix (bs.take i)≤ix bs:=by
 refine⟨pV _ 1 fun b hb=>h b (List.mem_of_mem_take hb),?_⟩
 conv=>rhs;unfold ix;rw [←List.take_append_drop i bs,List.foldl_append]
 exact pV _ _ fun b hb=>h b (List.mem_of_mem_drop hb)
theorem zY{bs:List (Int×Int)}(h:∀b∈bs,1≤wN b){i:Nat}{b:Int×Int}(hb:bs[i]?=some b):wN b≤ix bs:=by
 have h1:=(gI h (i+1)).2
 rw [List.take_add_one,hb]at h1
 have h2:ix (bs.take i++[b])=ix (bs.take i) * wN b:=ka _ _
 have h3:=(gI h i).1
 refine Nat.le_trans ?_ h1
 show wN b≤ix (bs.take i++[b])
 rw [h2]
 exact Nat.le_mul_of_pos_left _ h3
def jc(H:Hp)(ps:List Addr)(cols:List (List Int)):Prop:=ps.length=cols.length∧∀(i:Nat) (p:Addr) (us:List Int),ps[i]?=some p→cols[i]?=some us→H p=some (.tup (us.map V.int))
def ef(H:Hp)(q:Addr)(cols:List (List Int)):Prop:=∃ps:List Addr,H q=some (.lst (ps.map V.ref))∧jc H ps cols
theorem jc.same{H H':Hp}{ps:List Addr}{cols:List (List Int)}(h:jc H ps cols)(s:aq H H'):jc H' ps cols:=⟨h.1,fun i p us e1 e2=>s _ _ (h.2 i p us e1 e2)⟩
theorem jc.upd{H:Hp}{ps:List Addr}{cols:List (List Int)}{z:Addr}{xs ys:List V}(h:jc H ps cols)(hz:H z=some (.lst xs)):jc (upd H z (.lst ys)) ps cols:=⟨h.1,fun i p us e1 e2=>by
 have:=h.2 i p us e1 e2
 rw [ai (fW this hz (fun e=>by cases e))]
 exact this⟩
theorem jc.append{H:Hp}{ps qs:List Addr}{cols dols:List (List Int)}(h:jc H ps cols)(g:jc H qs dols):jc H (ps++qs) (cols++dols):=by
 refine⟨by rw [List.length_append,List.length_append,h.1,g.1],fun i p us e1 e2=>?_⟩
 by_cases hi:i < ps.length
 ·rw [List.getElem?_append_left hi]at e1
  rw [List.getElem?_append_left (by rw [←h.1];exact hi)]at e2
  exact h.2 i p us e1 e2
 ·rw [List.getElem?_append_right (by omega)]at e1
  rw [List.getElem?_append_right (by rw [←h.1];omega),←h.1]at e2
  exact g.2 _ p us e1 e2
theorem fN(bs:List (Int×Int)):∀c∈aB bs,c.length=bs.length:=by
 have go:∀(bs:List (Int×Int)) (told:List (List Int)) (n:Nat),(∀c∈told,c.length=n)→∀c∈bs.foldl (fun told b=>told.flatMap (fb b)) told,c.length=n+bs.length:=by
  intro bs
  induction bs with
  | nil=>intro told n h c hc;exact h c hc
  | cons b bs ih=>
   intro told n h c hc
   rw [List.foldl_cons]at hc
   have:=ih _ (n+1) (fun c hc=>by
    obtain⟨d,hd,hc⟩:=List.mem_flatMap.mp hc
    unfold fb at hc
    obtain⟨j,_,rfl⟩:=List.mem_map.mp hc
    rw [List.length_append,h d hd]
    rfl) c hc
   rw [this,List.length_cons]
   omega
 intro c hc
 have:=go bs [[]] 0 (fun c hc=>by rw [List.mem_singleton.mp hc];rfl) c hc
 omega
theorem kh{α β:Type}{f:α→List β}:∀{l:List α},l.Nodup→(∀x∈l,(f x).Nodup)→(∀x y z,z∈f x→z∈f y→x=y)→(l.flatMap f).Nodup
 | [],_,_,_=>by simp
 | x::l,h,h1,h2=>by
  have hn:=List.nodup_cons.mp h
  rw [List.flatMap_cons]
  refine List.nodup_append.mpr ⟨h1 x (by simp),kh hn.2 (fun y hy=>h1 y (by simp [hy])) h2,fun a ha b hb e=>?_⟩
  obtain⟨y,hy,hb⟩:=List.mem_flatMap.mp hb
  rw [←e]at hb
  rw [h2 x y a ha hb]at hn
  exact hn.1 hy
theorem oo(bs:List (Int×Int)):(aB bs).Nodup:=by
 have go:∀(bs:List (Int×Int)) (told:List (List Int)),told.Nodup→(bs.foldl (fun told b=>told.flatMap (fb b)) told).Nodup:=by
  intro bs
  induction bs with
  | nil=>intro told h;exact h
  | cons b bs ih=>
   intro told h
   rw [List.foldl_cons]
   refine ih _ (kh h (fun c _=>?_) fun x y z hx hy=>?_)
   ·unfold fb
    refine List.pairwise_map.mpr (List.nodup_range.imp fun {i j} hij e=>?_)
    have:=List.append_cancel_left e
    simp at this
    omega
   ·unfold fb at hx hy
    obtain⟨i,_,rfl⟩:=List.mem_map.mp hx
    obtain⟨j,_,e⟩:=List.mem_map.mp hy
    have:=congrArg List.dropLast e
    simp at this
    exact this.symm
 exact go bs [[]] (by simp)
theorem ef.same{H H':Hp}{q:Addr}{cols:List (List Int)}(s:aq H H')(h:ef H q cols):ef H' q cols:=by
 obtain⟨ps,h1,h2⟩:=h
 exact⟨ps,s _ _ h1,h2.same s⟩
def vj(K:PySem.W.Frag):Sp:=fun vs H Q _=>∃(c:Addr) (us:List Int) (b:Int×Int),vs=[.ref c,.int b.1,.int b.2]∧H c=some (.tup (us.map V.int))∧us.length≤10∧wN b≤400∧∀q H',H q=none→ef H' q (fb b us)→aq H H'→Q (.ref q) H'
def gG(P:Program)(w:World)(K:PySem.W.Frag)(mg:Str→Option Value)(base:Heap)(C:Addr)(nv:Nat)(bs:List (Int×Int))(Ss:List bh)(Gs:List (Int→Prop))(x:Addr)(H:Hp):Prop:=∃(dx a b:Addr) (rs:List Addr),H x=some (.ins C dx (da a b))∧cz K H a bs∧iA P w K mg base nv Ss Gs H b rs
theorem gG.same{P:Program}{w:World}{K:PySem.W.Frag}{mg:Str→Option Value}{base:Heap}{C:Addr}{nv:Nat}{bs:List (Int×Int)}{Ss:List bh}{Gs:List (Int→Prop)}{x:Addr}{H H':Hp}(h:gG P w K mg base C nv bs Ss Gs x H)(s:aq H H'):gG P w K mg base C nv bs Ss Gs x H':=by
 obtain⟨dx,a,b,rs,h1,h2,h3⟩:=h
 exact⟨dx,a,b,rs,s _ _ h1,h2.same s,h3.same s⟩
def AE(bs:List (Int×Int))(Ss:List bh):Int:=Ss.foldl (fun t S=>t * S.size) (tR bs)
def kX(P:Program)(w:World)(K:PySem.W.Frag)(mg:Str→Option Value)(base:Heap)(C:Addr):Sp:=fun vs H Q _=>∃(x:Addr) (nv:Nat) (bs:List (Int×Int)) (Ss:List bh) (Gs:List (Int→Prop)),vs=[.ref x]∧gG P w K mg base C nv bs Ss Gs x H∧bs.length≤100∧Ss.length≤100∧(∀b∈bs,(h8 b).natAbs < 2 ^ 200)∧(∀S∈Ss,(S.size).natAbs < 2 ^ 200)∧Q (.int (AE bs Ss)) H
def ju(P:Program)(w:World)(K:PySem.W.Frag)(mg:Str→Option Value)(base:Heap)(C:Addr):Sp:=fun vs H Q _=>∃(x:Addr) (nv:Nat) (bs:List (Int×Int)) (Ss:List bh) (Gs:List (Int→Prop)),vs=[.ref x]∧gG P w K mg base C nv bs Ss Gs x H∧bs.length≤100∧Ss.length≤100∧(∀b∈bs,(h8 b).natAbs < 2 ^ 200)∧(∀S∈Ss,(S.size).natAbs < 2 ^ 200)∧AE bs Ss≤400∧Q (.ref x) H
def fX(K:PySem.W.Frag)(C:Addr):Sp:=fun vs H Q _=>∃(x dx a b:Addr) (bs:List (Int×Int)),vs=[.ref x]∧H x=some (.ins C dx (da a b))∧cz K H a bs∧bs.length≤4∧(∀b∈bs,1≤wN b)∧ix bs≤400∧∀q H',H q=none→ef H' q (aB bs)→aq H H'→Q (.ref q) H'
def bc(la wa sc:Addr):List (Str×V):=dF "score" (.ref sc) (dF "well" (.ref wa) (dF "leads" (.ref la) []))
structure eB(K:PySem.W.Frag)(C:Addr):Prop where
 cl:tJ K C
 n1:NoAttr K C "leads"
 n2:NoAttr K C "well"
 n3:NoAttr K C "score"
theorem fV(a b c:Addr):(bc a b c).lookup (Str.ofString "leads")=some (.ref a):=by unfold bc;walk_at "flds"
theorem rm(a b c:Addr):(bc a b c).lookup (Str.ofString "well")=some (.ref b):=by unfold bc;walk_at "flds"
theorem oO(a b c:Addr):(bc a b c).lookup (Str.ofString "score")=some (.ref c):=by unfold bc;walk_at "flds"
structure pK(Ss:List bh)(cols:List (List Int))(U:List MS):Prop where
 st:(none,Ss.map (·.start))∈U
 cl:∀s∈U,∀c∈cols,∀s',bH Ss s c=some s'→s'∈U
 sz:U.length≤10000
def j6(P:Program)(w:World)(Ss:List bh)(cols:List (List Int))(la wa:Addr)(H:Hp)(met:List MS):Prop:=∃ds:List Addr,H la=some (.lst (ds.map V.ref))∧ds.length=met.length∧H wa=some (.lst (met.map fun s=>V.bl (c9 Ss s.2 s.1)))∧
 ∀(i:Nat) (d:Addr) (s:MS),ds[i]?=some d→met[i]?=some s→∃xs,aP (n9 P w) H d xs∧dH Ss cols met s xs
def nP(P:Program)(w:World)(K:PySem.W.Frag)(mg:Str→Option Value)(base:Heap)(C Cs:Addr):Sp:=fun vs H Q _=>∃(x dx ma na sa la wa sc dsc ra rb p0:Addr) (nv:Nat) (Ss:List bh) (Gs:List (Int→Prop)) (rs cs:List Addr) (cols:List (List Int)) (U:List MS) (Hs:Hp),vs=[.ref x,.ref ma,.ref na,.ref sa]∧
 H x=some (.ins C dx (bc la wa sc))∧H sc=some (.ins Cs dsc (da ra rb))∧aq Hs H∧Hs ma=none∧Hs na=none∧Hs la=none∧Hs wa=none∧iA P w K mg base nv Ss Gs Hs rb rs∧Ss.length≤100∧n5 Gs (Ss.map (·.start))∧
 H ma=some (.lst [.ref p0])∧(gB P w).at_ H (bp (none,Ss.map (·.start))) p0∧aP (gB P w) H na [(bp (none,Ss.map (·.start)),p0,.int 0)]∧H la=some (.lst [])∧H wa=some (.lst [])∧ma≠la∧ma≠wa∧la≠wa∧
 H sa=some (.lst (cs.map V.ref))∧sa≠ma∧sa≠la∧sa≠wa∧jc H cs cols∧(∀c∈cols,c.length=nv)∧cols.length≤1000∧cols.Nodup∧pK Ss cols U∧
 ∀met H',qR Ss cols met→(∀s∈met,s∈U)→(∀(s:MS),s∈met→∀c∈cols,∀s',bH Ss s c=some s'→s'∈met)→j6 P w Ss cols la wa H' met→lZ [ma,na,la,wa] H H'→Q .non H'
section
variable {P:Program} {w:World} {K:PySem.W.Frag} {mg:Str→Option Value} {base:Heap} {aM:Addr}
theorem lP{f C:Addr}{fd:FuncData}(F:f9 K "__init__" "Score.__init__" er f fd)(T:Txt mg aM)(TC:dG K C):bj P w K mg base fK 1 f fd ["self","ranges","rules"] (hV K C):=by
 refine F.ok i8 (fun vs H Q E h=>?_) (fun cdv A outer s H vs Q E hr h=>?_)
 ·obtain⟨x,dx,a,b,xs,ys,rfl,_⟩:=h
  rfl
 obtain⟨x,dx,a,b,xs,ys,rfl,hx,ha,hb,k⟩:=h
 refine⟨_,(ag (kH (pr 0) (bz (iB K) (by rfl) T.n_list boot_list (aa (pr 1) af)) rfl)
 (ak (kH (pr 0) (bz (iB K) (by rfl) T.n_list boot_list (aa (pr 2) af)) rfl))),?_⟩
 walk_at "rd"
 have ln:∀(f:Str) (v:V) (l:List (Str×V)) (n:Nat),l.length≤n→(dF f v l).length≤n+1:=fun f v l n h=>Nat.le_trans (eH f v l) (Nat.succ_le_succ h)
 refine⟨xs,.inl ha,fun p hp=>?_⟩
 have px:p≠x:=fun e=>by subst e;rw [hx]at hp;cases hp
 refine⟨C,dx,[],by rw [ai (Ne.symm px)];exact hx,TC.cl,TC.n1,by decide,ys,.inl (((ao hp).seq hb).at_ins (by rw [ai (Ne.symm px)];exact hx)),fun q hq=>?_⟩
 have qx:q≠x:=fun e=>by subst e;rw [ae]at hq;cases hq
 rw [ai qx]at hq
 have qp:q≠p:=fun e=>by subst e;rw [ae]at hq;cases hq
 rw [ai qp]at hq
 refine⟨C,dx,_,by rw [ai (Ne.symm qx),ae],TC.cl,TC.n2,Nat.lt_of_le_of_lt (ln _ _ _ _ (Nat.zero_le 0)) (by decide),?_⟩
 refine k p q _ hp hq qp ?_
 rw [pG]
 rfl
theorem sR{f C:Addr}{fd:FuncData}(F:f9 K "weight" "weight" kO f fd)(T:Txt mg aM)(TC:dG K C):bj P w K mg base fK 8 f fd ["score"] (kX P w K mg base C):=by
 refine F.ok sc_weight (fun vs H Q E h=>?_) (fun cdv A outer s H vs Q E hr h=>?_)
 ·obtain⟨x,nv,bs,Ss,Gs,rfl,_⟩:=h
  rfl
 obtain⟨x,nv,bs,Ss,Gs,rfl,⟨dx,a,b,rs,hx,⟨ts,hts,htl,htc⟩,RM⟩,lb,lr,hwb,hwr,q⟩:=h
 have hrs:=RM.sq
 have hrl:=RM.len
 have lg:=RM.gl
 refine⟨_,(ag (az (i:=1) sc_weight.nd rfl (Or.inl rfl) ah)
 (ag (dX PassesOwn.never rfl (cu K (dD (pr 0) rfl)) (eE K (n:=2) rfl (aW (aC (i:=2) sc_weight.nd rfl (Or.inl rfl)) (aW (aC (i:=3) sc_weight.nd rfl (Or.inl rfl)) eF)))
 (ak (zN (uW (i:=1) sc_weight.nd rfl (Or.inl rfl) (au (eI K) (au (o0 gg) (pr 3) (pr 2)) ah) (o1 oF)))))
 (ag (dX PassesOwn.never rfl (cu K (dD (pr 0) rfl)) (aC (i:=4) sc_weight.nd rfl (Or.inl rfl))
 (ak (zN (uW (i:=1) sc_weight.nd rfl (Or.inl rfl) (ij P w K mg base hr (pr 4)) (o1 oF)))))
 (ak (aQ (pr 1)))))),?_⟩
 refine ba (fun σ H'=>σ=[some (.ref x),some (.int 1),none,none,none]∧H=H') ?_ ?_
 rotate_left
 ·intro u' hu
  walk_at "rd"
  exact hu _ _ ⟨rfl,rfl⟩
 rintro _ _ ⟨rfl,rfl⟩
 refine ba (fun σ H'=>∃o1 o2:Option V,σ=[some (.ref x),some (.int (tR bs)),o1,o2,none]∧H=H') ?_ ?_
 rotate_left
 ·intro u' hu
  walk_at "rd"
  refine⟨C,dx,_,hx,TC.cl,TC.n1,_,mr a b,cH hts (el (xs:=ts.map V.ref) (fun i σ H'=>∃o1 o2:Option V,σ=[some (.ref x),some (.int (tR (bs.take i))),o1,o2,none]∧H=H') ⟨none,none,rfl,rfl⟩ (fun i σ H' _ z=>by obtain⟨_,_,_,z⟩:=z;exact z▸hts) ?_ ?_)⟩
  ·rintro i y σ H1 hy ⟨o1,o2,rfl,rfl⟩
   rw [List.getElem?_map]at hy
   cases ht:ts[i]? with
   | none=>rw [ht]at hy;cases hy
   | some t=>
    rw [ht]at hy
    cases hy
    have hi:i < bs.length:=by rw [←htl];exact(List.getElem?_eq_some_iff.mp ht).1
    have hb:bs[i]?=some bs[i]:=List.getElem?_eq_getElem hi
    have e:tR (bs.take (i+1))=tR (bs.take i) * h8 bs[i]:=by
     unfold tR
     rw [List.take_add_one,hb,List.foldl_append]
     rfl
    walk_at "rd"
    refine⟨_,htc i t _ ht hb,rfl,?_⟩
    walk_at "rd"
    rw [e]
    have hw:=hwb _ (List.getElem_mem hi)
    have ht:=vw (bs:=bs.take i) fun b hb=>hwb b (List.mem_of_mem_take hb)
    exact⟨m5 ht hw (by rw [List.length_take];omega),rfl⟩
  ·rintro σ H1 ⟨o1,o2,rfl,rfl⟩
   rw [List.length_map,htl,List.take_length]
   exact hu _ _ ⟨o1,o2,rfl,rfl⟩
 rintro _ _ ⟨o1,o2,rfl,rfl⟩
 walk_at "rd"
 refine⟨C,dx,_,hx,TC.cl,TC.n2,_,kx a b,cH hrs (el (xs:=rs.map V.ref) (fun i σ H'=>∃o3:Option V,σ=[some (.ref x),some (.int ((Ss.take i).foldl (fun t S=>t * S.size) (tR bs))),o1,o2,o3]∧H=H') ⟨none,rfl,rfl⟩ (fun i σ H' _ z=>by obtain⟨_,_,z⟩:=z;exact z▸hrs) ?_ ?_)⟩
 ·rintro i y σ H1 hy ⟨o3,rfl,rfl⟩
  rw [List.getElem?_map]at hy
  cases ht:rs[i]? with
  | none=>rw [ht]at hy;cases hy
  | some r=>
   rw [ht]at hy
   cases hy
   have hi:i < Ss.length:=by rw [←hrl];exact(List.getElem?_eq_some_iff.mp ht).1
   have hb:Ss[i]?=some Ss[i]:=List.getElem?_eq_getElem hi
   obtain⟨Cr,RI,RB,hri⟩:=RM.at_ i r _ (Gs[i]'(by omega)) ht hb (List.getElem?_eq_getElem (by omega))
   obtain⟨dr,fr,hir,q1,_⟩:=RB.ins r _ hri
   walk_at "rd"
   refine⟨Cr,dr,fr,hir,q1,_,_,RB.size,r,rfl,hri,?_⟩
   walk_at "rd"
   rw [List.take_add_one,hb,List.foldl_append]
   have hw:=hwr _ (List.getElem_mem hi)
   have ht:=j0 (fun S:bh=>S.size) (Ss.take i) (tR bs) _ (vw hwb) fun S hS=>hwr S (List.mem_of_mem_take hS)
   exact⟨m5 ht hw (by rw [List.length_take];omega),rfl⟩
 ·rintro σ H1 ⟨o3,rfl,rfl⟩
  rw [List.length_map,hrl,List.take_length]
  walk_at "rd"
  exact q
theorem jN{f C:Addr}{fd:FuncData}(F:f9 K "not_too_wide" "not_too_wide" fB f fd)(T:Txt mg aM)(D_weight:eC P w K mg base "weight" 8 ["score"] (kX P w K mg base C)):bj P w K mg base fK 9 f fd ["score"] (ju P w K mg base C):=by
 refine F.ok sc_not_too_wide (fun vs H Q E h=>?_) (fun cdv A outer s H vs Q E hr h=>?_)
 ·obtain⟨x,nv,bs,Ss,Gs,rfl,_⟩:=h
  rfl
 obtain⟨x,nv,bs,Ss,Gs,rfl,S,lb,lr,hwb,hwr,hle,q⟩:=h
 refine⟨_,(ag (az (i:=1) sc_not_too_wide.nd rfl (Or.inl rfl) (aO D_weight hr (by rfl) (aa (pr 0) af)))
 (ag (eJ (eU (aX (o0 uO) (pr 1) (qj T.g_MOST_WEIGHT) (aT _))) (ak pf) dh)
 (ak (aQ (pr 0))))),?_⟩
 walk_at "rd"
 refine⟨x,nv,bs,Ss,Gs,rfl,S,lb,lr,hwb,hwr,?_⟩
 walk_at "rd"
 rw [if_neg (by omega)]
 exact q
theorem lR{f:Addr}{fd:FuncData}(F:f9 K "lengthened" "lengthened" gm f fd)(T:Txt mg aM):bj P w K mg base fK 1 f fd ["column","low","high"] (vj K):=by
 refine F.ok lU (fun vs H Q E h=>?_) (fun cdv A outer s H vs Q E hr h=>?_)
 ·obtain⟨c,us,b,rfl,_⟩:=h
  rfl
 obtain⟨c,us,b,rfl,hc,hu,hw,k⟩:=h
 refine⟨_,(ak (aQ (dW (own:=["note"]) (js:=[0]) rfl (qm rfl T.n_range (aa (pr 1) (aa (au (xA K) (pr 2) ah) af))) (bf.of (by rfl)) (fun _ _ _ _ _=>(aC (i:=0) (show List.Nodup (["note","column"]:List Str)from by decide +kernel) rfl (Or.inl rfl))) (fun _ _ _ _ _=>dY) (fun _ _ _ _ _=>(au (xA K) (pr 1) (jl (aa (pr 0) af))))))),?_⟩
 have hs:sizeLine=16777216:=sizeLine_eq
 walk_at "rd"
 have ek:(b.2+1 - b.1).toNat=wN b:=by unfold wN;omega
 rw [ek]
 refine jz (fun i ys H'=>∃ps:List Addr,ys=ps.map V.ref∧ps.length=i∧(∀(j:Nat) (p:Addr),ps[j]?=some p→H' p=some (.tup ((us++[b.1+(j:Int)]).map V.int)))∧aq H H') (by omega) ⟨[],rfl,rfl,(fun j p e=>nomatch e),aq.refl _⟩ ?_ ?_ ?_
 ·rintro i ys H' ⟨ps,rfl,hl,_⟩
  rw [List.length_map];omega
 ·rintro i ys H1 hi ⟨ps,rfl,hl,hp,s1⟩
  simp only [fi]
  walk_at "rd"
  refine⟨by omega,fun t ht=>?_⟩
  have s2:=s1.upd (o:=HO.tup [V.int (b.1+i)]) ht
  have ht2:(upd H1 t (HO.tup [V.int (b.1+i)])) t=some (.tup [V.int (b.1+i)]):=ae
  have s12:aq H1 (upd H1 t (HO.tup [V.int (b.1+i)])):=ao ht
  generalize upd H1 t (HO.tup [V.int (b.1+i)])=H2 at s2 ht2 s12
  refine u0 (s2 _ _ hc) ht2 (by rw [List.length_map];simp;omega) fun p H3 s3 hp3=>?_
  refine⟨ps++[p],by rw [List.map_append];rfl,by rw [List.length_append,hl];rfl,fun j p' e=>?_,s2.trans s3⟩
  by_cases hj:j < ps.length
  ·rw [List.getElem?_append_left hj]at e
   exact(s12.trans s3) _ _ (hp j p' e)
  ·rw [List.getElem?_append_right (by omega)]at e
   have ej:j=ps.length:=by
    have:=(List.getElem?_eq_some_iff.mp e).1
    simp at this
    omega
   rw [ej,Nat.sub_self]at e
   cases e
   rw [hp3,ej,hl,List.map_append]
   rfl
 ·rintro ys H1 ⟨ps,rfl,hl,hp,s1⟩ q hq
  refine k q _ (s1.free hq) ⟨ps,ae,by rw [gM];exact hl,fun i p us' e1 e2=>?_⟩ (s1.upd hq)
  have hi:i < wN b:=by rw [←hl];exact(List.getElem?_eq_some_iff.mp e1).1
  unfold fb at e2
  rw [List.getElem?_map,List.getElem?_range hi]at e2
  cases e2
  exact(ao hq) _ _ (hp i p e1)
theorem qe{f C:Addr}{fd:FuncData}(F:f9 K "columns" "columns" jn f fd)(T:Txt mg aM)(TC:dG K C)(D_lengthened:eC P w K mg base "lengthened" 1 ["column","low","high"] (vj K)):bj P w K mg base fK 2 f fd ["score"] (fX K C):=by
 refine F.ok sc_columns (fun vs H Q E h=>?_) (fun cdv A outer s H vs Q E hr h=>?_)
 ·obtain⟨x,dx,a,b,bs,rfl,_⟩:=h
  rfl
 obtain⟨x,dx,a,b,bs,rfl,hx,⟨ts,hts,htl,htc⟩,lb,hw,hc,k⟩:=h
 refine⟨_,(ag (az (i:=1) sc_columns.nd rfl (Or.inl rfl) (cg (aa (jl af) af)))
 (ag (dX PassesOwn.never rfl (cu K (dD (pr 0) rfl)) (eE K (n:=2) rfl (aW (aC (i:=2) sc_columns.nd rfl (Or.inl rfl)) (aW (aC (i:=3) sc_columns.nd rfl (Or.inl rfl)) eF)))
 (ag (az (i:=4) sc_columns.nd rfl (Or.inl rfl) (cg af))
 (ag (dX PassesOwn.never rfl (cu K (pr 1)) (aC (i:=5) sc_columns.nd rfl (Or.inl rfl))
 (ak (cv (c5 K PySem.F.plainAttrs_list PySem.F.slot_list_extend PySem.F.type_list_extend sH (pr 4) (aa (aO D_lengthened hr (by rfl) (aa (pr 5) (aa (pr 2) (aa (pr 3) af)))) af)))))
 (ak (az (i:=1) sc_columns.nd rfl (Or.inl rfl) (pr 4))))))
 (ak (aQ (pr 1))))),?_⟩
 have hs:sizeLine=16777216:=sizeLine_eq
 refine ba (fun σ H'=>∃q:Addr,H q=none∧ef H' q (aB [])∧σ=[some (.ref x),some (.ref q),none,none,none,none]∧aq H H') ?_ ?_
 rotate_left
 ·intro u' hu
  walk_at "rd"
  refine⟨by omega,fun t ht=>⟨by omega,fun q hq=>?_⟩⟩
  have s1:=ao (o:=HO.tup []) ht
  refine hu _ _ ⟨q,s1.free hq,⟨[t],ae,rfl,fun i p us e1 e2=>?_⟩,rfl,s1.upd hq⟩
  have hi:i=0:=by
   have:=(List.getElem?_eq_some_iff.mp e1).1
   simp at this
   exact this
  subst hi
  cases e1
  cases e2
  exact(ao hq) _ _ ae
 rintro _ H1 ⟨q,hq0,hq1,rfl,s1⟩
 refine ba (fun σ H'=>∃(q:Addr) (o2 o3 o4 o5:Option V),H q=none∧ef H' q (aB bs)∧σ=[some (.ref x),some (.ref q),o2,o3,o4,o5]∧aq H H') ?_ ?_
 rotate_left
 ·intro u' hu
  walk_at "rd"
  refine⟨C,dx,_,s1 _ _ hx,TC.cl,TC.n1,_,mr a b,cH (s1.seq hts) (el (xs:=ts.map V.ref) (fun i σ H'=>∃(q:Addr) (o2 o3 o4 o5:Option V),H q=none∧ef H' q (aB (bs.take i))∧σ=[some (.ref x),some (.ref q),o2,o3,o4,o5]∧aq H H') ⟨q,none,none,none,none,hq0,hq1,rfl,s1⟩ (fun i σ H' _ h=>?_) ?_ ?_)⟩
  ·obtain⟨_,_,_,_,_,_,_,_,s'⟩:=h
   exact s'.seq hts
  ·rintro i y σ H2 hy ⟨q,o2,o3,o4,o5,hq0,⟨ps,hq2,hpc⟩,rfl,s2⟩
   rw [List.getElem?_map]at hy
   cases ht:ts[i]? with
   | none=>rw [ht]at hy;cases hy
   | some t=>
    rw [ht]at hy
    cases hy
    have hi:i < bs.length:=by rw [←htl];exact(List.getElem?_eq_some_iff.mp ht).1
    have hb:bs[i]?=some bs[i]:=List.getElem?_eq_getElem hi
    walk_at "rd"
    refine⟨_,s2.tup (htc i t _ ht hb),rfl,?_⟩
    walk_at "rd"
    refine⟨by omega,fun p hp=>?_⟩
    have s23:=ao (o:=HO.lst []) hp
    have hp3:(upd H2 p (HO.lst [])) p=some (.lst (([]:List Addr).map V.ref)):=ae
    have hH3:=hp3
    generalize upd H2 p (HO.lst [])=H3 at s23 hp3
    have ew:wN bs[i]≤400:=Nat.le_trans (zY hw hb) hc
    have en:ix (bs.take (i+1))=ix (bs.take i) * wN bs[i]:=by
     rw [List.take_add_one,hb]
     exact ka _ _
    have en':=(gI hw (i+1)).2
    have ec:aB (bs.take (i+1))=(aB (bs.take i)).flatMap (fb bs[i]):=by
     rw [List.take_add_one,hb]
     exact iC _ _
    have ewd:=fN (bs.take i)
    have ecl:=eh (bs.take i)
    have hpl:=hpc.1
    rw [ec]
    generalize bs[i]=b at *
    generalize aB (bs.take i)=cols at *
    refine cH (aL.of (s23 _ _ hq2)) (el (xs:=ps.map V.ref) (fun j σ H'=>∃(o5:Option V) (ps':List Addr),H' p=some (.lst (ps'.map V.ref))∧jc H' ps' ((cols.take j).flatMap (fb b))∧aq H2 H'∧σ=[some (V.ref x),some (V.ref q),some (V.int b.1),some (V.int b.2),some (V.ref p),o5]) ⟨o5,[],hp3,⟨rfl,fun i p us e=>nomatch e⟩,s23,rfl⟩ (fun j σ H' _ h=>?_) ?_ ?_)
    ·obtain⟨_,_,_,_,s',_⟩:=h
     exact aL.of (s' _ _ hq2)
    ·rintro j y σ H4 hy ⟨o5,ps',hp4,hT,s24,rfl⟩
     rw [List.getElem?_map]at hy
     cases hcj:ps[j]? with
     | none=>rw [hcj]at hy;cases hy
     | some c=>
      rw [hcj]at hy
      cases hy
      have hj:j < cols.length:=by rw [←hpl];exact(List.getElem?_eq_some_iff.mp hcj).1
      have hcc:cols[j]?=some cols[j]:=List.getElem?_eq_getElem hj
      have hus:=hpc.2 j c _ hcj hcc
      have hul:=ewd _ (List.getElem_mem hj)
      have estep:(cols.take (j+1)).flatMap (fb b)=(cols.take j).flatMap (fb b)++fb b cols[j]:=by
       rw [List.take_add_one,hcc,List.flatMap_append]
       simp
      rw [estep]
      generalize cols[j]=us at *
      walk_at "rd"
      refine⟨.inl ⟨rfl,_,aL.of hp4⟩,c,us,b,rfl,s24 _ _ hus,by rw [hul,List.length_take];omega,ew,fun r H5 hr0 hr5 s45=>?_⟩
      obtain⟨rs,hr5,hrT⟩:=hr5
      have hp5:=s45 _ _ hp4
      have l1:ps'.length≤400:=by
       rw [hT.1,kg (gM b),List.length_take]
       refine Nat.le_trans (Nat.mul_le_mul_right _ (Nat.min_le_right _ _)) ?_
       rw [ecl,←en]
       omega
      have l2:rs.length≤400:=by rw [hrT.1,gM];exact ew
      refine⟨p,r,_,_,rfl,rfl,hp5,hr5,by rw [List.length_map,List.length_map];omega,some (.ref c),ps' ++ rs,by rw [ae,List.map_append],((hT.same s45).append hrT).upd hp5,xF hp (s24.trans s45),rfl⟩
    ·rintro σ H4 ⟨o5,ps',hp4,hT,s24,rfl⟩
     rw [List.length_map,hpl,List.take_length]at hT
     walk_at "rd"
     exact⟨p,s2.free hp,⟨ps',hp4,hT⟩,rfl,s2.trans s24⟩
  ·rintro σ H2 ⟨q,o2,o3,o4,o5,hq0,hq2,rfl,s2⟩
   rw [List.length_map,htl,List.take_length]at hq2
   exact hu _ _ ⟨q,o2,o3,o4,o5,hq0,hq2,rfl,s2⟩
 rintro _ H2 ⟨q,o2,o3,o4,o5,hq0,hq2,rfl,s2⟩
 walk_at "rd"
 exact k q H2 hq0 hq2 s2
theorem uF{f C Cs:Addr}{fd:FuncData}(F:f9 K "build" "Machine.build" eV f fd)(T:Txt mg aM)(TC:eB K C)(TS:dG K Cs)(D_memories_after:eC P w K mg base "memories_after" 9 ["rules","memories","before","column"] (iN P w K mg base))(D_all_close:eC P w K mg base "all_close" 9 ["rules","memories","last"] (iL P w K mg base)):
  bj P w K mg base fK 10 f fd ["self","met","numbers","steps"] (nP P w K mg base C Cs):=by
 refine F.ok sc_Machine_build (fun vs H Q E h=>?_) (fun cdv A outer s H vs Q E hr h=>?_)
 ·obtain⟨x,dx,ma,na,sa,la,wa,sc,dsc,ra,rb,p0,nv,Ss,Gs,rs,cs,cols,U,Hs,rfl,_⟩:=h
  rfl
 obtain⟨x,dx,ma,na,sa,la,wa,sc,dsc,ra,rb,p0,nv,Ss,Gs,rs,cs,cols,U,Hs,rfl,hx,hsc,sHs,z1,z2,z3,z4,RM,lS,hM0,hma,hp0,hna,hla,hwa,n1,n2,n3,hsa,q1,q2,q3,hT,hcw,hcl,hnd,CU,k⟩:=h
 refine⟨_,(ag (az (i:=4) sc_Machine_build.nd rfl (Or.inl rfl) (dD (dD (pr 0) rfl) rfl))
 (ak (uX PassesOwn.never (eU (aX (o0 yg) (aJ (aU K) (by rfl) T.n_len boot_len (aa (dD (pr 0) rfl) af)) (aJ (aU K) (by rfl) T.n_len boot_len (aa (pr 1) af)) (aT _))) (ag (az (i:=5) sc_Machine_build.nd rfl (Or.inl rfl) (bu (dC K) (bu (dC K) (pr 1) (aJ (aU K) (by rfl) T.n_len boot_len (aa (dD (pr 0) rfl) af)) (fun _ _=>rfl)) ah (fun _ _=>rfl)))
 (ag (az (i:=6) sc_Machine_build.nd rfl (Or.inl rfl) (bu (dC K) (bu (dC K) (pr 1) (aJ (aU K) (by rfl) T.n_len boot_len (aa (dD (pr 0) rfl) af)) (fun _ _=>rfl)) ah (fun _ _=>rfl)))
 (ag (az (i:=7) sc_Machine_build.nd rfl (Or.inl rfl) (rB (kk':=n9 P w)))
 (ag (dX PassesOwn.never rfl (cu K (pr 3)) (aC (i:=8) sc_Machine_build.nd rfl (Or.inl rfl))
 (ag (az (i:=9) sc_Machine_build.nd rfl (Or.inl rfl) (jl (aa (pr 8) (aa (aO D_memories_after hr (by rfl) (aa (pr 4) (aa (pr 6) (aa (pr 5) (aa (pr 8) af))))) af))))
 (ag (eJ (eU (aX ng (bu (dC K) (pr 9) ah (fun _ _=>rfl)) eS (aT _))) (ak pe) dh)
 (ag (eJ (eU (aX (uM (kk':=gB P w) (jW hr)) (pr 9) (pr 2) (by with_unfolding_all rfl))) (ag (jm (aJ (aU K) (by rfl) T.n_len boot_len (aa (pr 1) af)) (nu (pr 2) (pr 9) (yF (kk':=gB P w) (jW hr))))
 (ak (cv (c5 K PySem.F.plainAttrs_list PySem.F.slot_list_append PySem.F.type_list_append bL (pr 1) (aa (pr 9) af))))) dh)
 (ak (jm (bu (ixD (kk':=gB P w) (jW hr)) (pr 2) (pr 9) (fun _ _=>rfl)) (nu (pr 7) (pr 8) (yF (kk':=n9 P w) (jW hr)))))))))
 (ag (cv (c5 K PySem.F.plainAttrs_list PySem.F.slot_list_append PySem.F.type_list_append bL (dD (pr 0) rfl) (aa (pr 7) af)))
 (ak (cv (c5 K PySem.F.plainAttrs_list PySem.F.slot_list_append PySem.F.type_list_append bL (dD (pr 0) rfl) (aa (aO D_all_close hr (by rfl) (aa (pr 4) (aa (pr 6) (aa (pr 5) af)))) af)))))))))))),?_⟩
 have hs:sizeLine=16777216:=sizeLine_eq
 have mna:ma≠na:=fW hma hna.ob (fun e=>by cases e)
 have nla:na≠la:=fW hna.ob hla (fun e=>by cases e)
 have nwa:na≠wa:=fW hna.ob hwa (fun e=>by cases e)
 have xm:x∉[ma,na,la,wa]:=fun h=>by
  simp only [List.mem_cons,List.not_mem_nil,or_false]at h
  rcases h with rfl | rfl | rfl | rfl
  ·rw [hma]at hx;cases hx
  ·rw [hna.ob]at hx;cases hx
  ·rw [hla]at hx;cases hx
  ·rw [hwa]at hx;cases hx
 have sm:sa∉[ma,na,la,wa]:=fun h=>by
  simp only [List.mem_cons,List.not_mem_nil,or_false]at h
  rcases h with rfl | rfl | rfl | rfl
  ·exact q1 rfl
  ·rw [hna.ob]at hsa;cases hsa
  ·exact q2 rfl
  ·exact q3 rfl
 have tm:∀{a:Addr} {vs:List V},H a=some (.tup vs)→a∉[ma,na,la,wa]:=fun {a vs} e h=>by
  simp only [List.mem_cons,List.not_mem_nil,or_false]at h
  rcases h with rfl | rfl | rfl | rfl
  ·rw [hma]at e;cases e
  ·rw [hna.ob]at e;cases e
  ·rw [hla]at e;cases e
  ·rw [hwa]at e;cases e
 have toS:∀{H':Hp},lZ [ma,na,la,wa] H H'→aq Hs H':=fun {H'} sx b o e=>by
  refine sx b o (fun h=>?_) (sHs b o e)
  simp only [List.mem_cons,List.not_mem_nil,or_false]at h
  rcases h with rfl | rfl | rfl | rfl
  ·rw [z1]at e;cases e
  ·rw [z2]at e;cases e
  ·rw [z3]at e;cases e
  ·rw [z4]at e;cases e
 have lenU:∀{H':Hp} {met:List MS} {ds:List Addr},gC P w Ss Gs cols nv U H ma na la wa H' met ds→met.length≤U.length:=fun B=>kz _ U B.mf.nd fun s hs=>(B.al s hs).1
 have szU:=CU.sz
 refine ba (fun σ H'=>H=H'∧σ=[some (.ref x),some (.ref ma),some (.ref na),some (.ref sa),some (.ref rb),none,none,none,none,none]) ?_ ?_
 rotate_left
 ·intro u' hu
  walk_at "rd"
  exact⟨C,dx,_,hx,TC.cl,TC.n3,_,oO la wa sc,sc,rfl,Cs,dsc,_,hsc,TS.cl,TS.n2,_,kx ra rb,hu _ _ ⟨rfl,rfl⟩⟩
 rintro _ _ ⟨rfl,rfl⟩
 obtain⟨W,hW⟩:∃W:Nat→L2.St→Hp→Prop,W=fun m σ H'=>∃(met:List MS) (ds:List Addr) (o5 o6 o7 o8 o9:Option V),gC P w Ss Gs cols nv U H ma na la wa H' met ds∧m=U.length - ds.length∧σ=[some (.ref x),some (.ref ma),some (.ref na),some (.ref sa),some (.ref rb),o5,o6,o7,o8,o9]:=⟨_,rfl⟩
 refine⟨W,⟨U.length,?_⟩,?_⟩
 ·rw [hW]
  refine⟨[(none,Ss.map (·.start))],[],none,none,none,none,none,⟨⟨[p0],hma,rfl,fun j p t e1 e2=>?_⟩,⟨_,hna,⟨fun j t e=>?_,fun k hk=>?_⟩,Nat.le_refl _⟩,hla,fun i d t e=>(by cases e),(fun d hd=>by cases hd),hwa,Nat.zero_le _,⟨by simp,rfl,fun i t e hi=>?_⟩,fun t ht=>?_,fun b o _ e=>e⟩,rfl,rfl⟩
  ·have hj:j=0:=by
    have:=(List.getElem?_eq_some_iff.mp e1).1
    simp at this
    exact this
   subst hj
   cases e1
   cases e2
   exact hp0
  ·have hj:j=0:=by
    have:=(List.getElem?_eq_some_iff.mp e).1
    simp at this
    exact this
   subst hj
   cases e
   simp [eN]
  ·refine⟨(none,Ss.map (·.start)),by simp,?_⟩
   by_cases e:k=bp (none,Ss.map (·.start))
   ·exact e
   ·refine absurd ?_ hk
    unfold eN
    rw [List.find?_cons,decide_eq_false (fun z=>e z.symm)]
    rfl
  ·have hj:i=0:=by
    have:=(List.getElem?_eq_some_iff.mp e).1
    simp at this
    exact this
   omega
  ·rw [List.mem_singleton.mp ht]
   exact⟨CU.st,hM0,fun c e=>by cases e⟩
 intro m σ H1 hI
 rw [hW]at hI
 obtain⟨met,ds,o5,o6,o7,o8,o9,B,rfl,rfl⟩:=hI
 have hx1:=B.sx x _ xm hx
 obtain⟨ps,hm1,hpl,hpk⟩:=B.mt
 have ltU:=lenU B
 refine zZ fun A0 B0 hA hB=>?_
 walk_at "rd"
 refine⟨C,dx,_,hx1,TC.cl,TC.n1,_,fV la wa sc,.inr ⟨_,rfl,_,.inl (aL.of B.la_),_,.inl (aL.of hm1),?_⟩⟩
 rw [List.length_map,List.length_map,hpl]
 by_cases hlt:(ds.length:Int) < (met.length:Int)
 ·rw [if_pos hlt]
  refine hA _ ?_
  have hlt:ds.length < met.length:=by omega
  obtain⟨st,hst⟩:∃st,met[ds.length]?=some st:=⟨_,List.getElem?_eq_getElem hlt⟩
  obtain⟨pp,hpp⟩:∃pp,ps[ds.length]?=some pp:=⟨_,List.getElem?_eq_getElem (by omega)⟩
  obtain⟨vs,hv1,hv2⟩:=hpk _ _ _ hpp hst
  obtain⟨bx,mA,rfl,hbx,hmA⟩:∃bx mA,vs=[bx,.ref mA]∧kr H1 st.1 bx∧H1 mA=some (.tup (st.2.map V.int)):=by
   cases vs with
   | nil=>exact hv2.elim
   | cons v1 vs=>
    cases vs with
    | nil=>exact hv2.2.elim
    | cons v2 vs=>
     cases vs with
     | nil=>
      obtain⟨g1,⟨b,e,g2⟩,_⟩:=hv2
      exact⟨v1,b,by rw [e],g1,g2⟩
     | cons _ _=>exact hv2.2.2.elim
  obtain⟨hstU,hstM,hstW⟩:=B.al st (List.mem_of_getElem? hst)
  have hbv:∀H',aq H1 H'→BV K H' nv st.1 bx:=fun H' s'=>by
   cases e:st.1 with
   | none=>
    rw [e]at hbx
    exact .inl ⟨rfl,hbx⟩
   | some c=>
    rw [e]at hbx
    obtain⟨b,rfl,hb⟩:=hbx
    exact .inr ⟨b,c,rfl,rfl,cq.of (s' _ _ hb),hstW c e⟩
  obtain⟨N,hN⟩:∃N:L2.St→Hp→Prop,N=fun σ H'=>∃(met':List MS) (ds':List Addr) (o5 o6 o7 o8 o9:Option V),gC P w Ss Gs cols nv U H ma na la wa H' met' ds'∧ds'.length=ds.length+1∧σ=[some (.ref x),some (.ref ma),some (.ref na),some (.ref sa),some (.ref rb),o5,o6,o7,o8,o9]:=⟨_,rfl⟩
  refine⟨N,fun σ' H' h=>?_,?_⟩
  ·rw [hN]at h
   obtain⟨met',ds',o5,o6,o7,o8,o9,B',hl',rfl⟩:=h
   refine⟨U.length - ds'.length,by omega,?_⟩
   rw [hW]
   exact⟨met',ds',o5,o6,o7,o8,o9,B',rfl,rfl⟩
  have at1:∀Q',Q' bx H1→rF K (V.ref ma) (V.int ds.length) H1 fun y H2=>rF K y (V.int 0) H2 Q':=fun Q' h'=>eZ (aL.of hm1) (bq (by rw [List.getElem?_map,hpp];rfl)) (jC (cq.of hv1) (gH rfl) h')
  have at2:∀Q',Q' (V.ref mA) H1→rF K (V.ref ma) (V.int ds.length) H1 fun y H2=>rF K y (V.int 1) H2 Q':=fun Q' h'=>eZ (aL.of hm1) (bq (by rw [List.getElem?_map,hpp];rfl)) (jC (cq.of hv1) (show lD _ ((1:Nat):Int)=_ from bq rfl) h')
  refine ba (fun σ H'=>H1=H'∧σ=[some (.ref x),some (.ref ma),some (.ref na),some (.ref sa),some (.ref rb),some bx,o6,o7,o8,o9]) ?_ ?_
  rotate_left
  ·intro u2 jW
   walk_at "rd"
   refine⟨C,dx,_,hx1,TC.cl,TC.n1,_,fV la wa sc,.inr ⟨_,rfl,_,.inl (aL.of B.la_),?_⟩⟩
   rw [List.length_map]
   exact at1 _ (jW _ _ ⟨rfl,rfl⟩)
  rintro _ _ ⟨rfl,rfl⟩
  refine ba (fun σ H'=>H1=H'∧σ=[some (.ref x),some (.ref ma),some (.ref na),some (.ref sa),some (.ref rb),some bx,some (.ref mA),o7,o8,o9]) ?_ ?_
  rotate_left
  ·intro u2 jW
   walk_at "rd"
   refine⟨C,dx,_,hx1,TC.cl,TC.n1,_,fV la wa sc,.inr ⟨_,rfl,_,.inl (aL.of B.la_),?_⟩⟩
   rw [List.length_map]
   exact at2 _ (jW _ _ ⟨rfl,rfl⟩)
  rintro _ _ ⟨rfl,rfl⟩
  refine ba (fun σ H'=>∃dA:Addr,H1 dA=none∧aP (n9 P w) H' dA []∧aq H1 H'∧σ=[some (.ref x),some (.ref ma),some (.ref na),some (.ref sa),some (.ref rb),some bx,some (.ref mA),some (.ref dA),o8,o9]) ?_ ?_
  rotate_left
  ·intro u2 jW
   simp only [du,eL,f6,cc]
   walk_at "rd"
   exact fun p hp=>jW _ _ ⟨p,hp,⟨ae,(fun _ z=>nomatch z),List.nodup_nil,Nat.zero_le _⟩,ao hp,rfl⟩
  rintro _ H2 ⟨dA,hd1,hD2,s12,rfl⟩
  have inH:∀{z:Addr},z∈[ma,na,la,wa]→H1 z≠none:=fun {z} h e=>by
   simp only [List.mem_cons,List.not_mem_nil,or_false]at h
   rcases h with rfl | rfl | rfl | rfl
   ·rw [hm1]at e;cases e
   ·obtain⟨xs,D,_⟩:=B.nm;rw [D.ob]at e;cases e
   ·rw [B.la_]at e;cases e
   ·rw [B.wl]at e;cases e
  have dnot:dA∉[ma,na,la,wa]:=fun h=>inH h hd1
  have hd0:H dA=none:=by
   cases e:H dA with
   | none=>rfl
   | some o=>rw [B.sx dA o dnot e]at hd1;cases hd1
  have dds:∀d∈ds,d≠dA:=fun d hd e=>by
   obtain⟨j,hj⟩:=List.getElem?_of_mem hd
   obtain⟨s',hs'⟩:∃s',met[j]?=some s':=⟨_,List.getElem?_eq_getElem (Nat.lt_of_lt_of_le (List.getElem?_eq_some_iff.mp hj).1 B.le)⟩
   obtain⟨xs,D,_⟩:=B.ld j d s' hj hs'
   have:=D.ob
   rw [e,hd1]at this
   cases this
  have n4:dA≠ma∧dA≠na∧dA≠la∧dA≠wa:=⟨fun e=>dnot (by simp [e]),fun e=>dnot (by simp [e]),fun e=>dnot (by simp [e]),fun e=>dnot (by simp [e])⟩
  have tup1:∀{b:Addr} {ws:List V},H b=some (.tup ws)→H2 b=some (.tup ws):=fun e=>s12 _ _ (B.sx _ _ (tm e) e)
  have B2:=B.same s12
  obtain⟨Pv,hPv⟩:∃Pv:Nat→L2.St→Hp→Prop,Pv=fun i σ H'=>∃(met':List MS) (ys:List (List Int×Addr×V)) (o8 o9:Option V),gC P w Ss Gs cols nv U H ma na la wa H' met' ds∧met'[ds.length]?=some st∧aP (n9 P w) H' dA ys∧dH Ss (cols.take i) met' st ys∧ys.length≤i∧(∀b ws,H2 b=some (.tup ws)→H' b=some (.tup ws))∧σ=[some (.ref x),some (.ref ma),some (.ref na),some (.ref sa),some (.ref rb),some bx,some (.ref mA),some (.ref dA),o8,o9]:=⟨_,rfl⟩
  refine ba (fun σ H'=>Pv cols.length σ H') ?_ ?_
  rotate_left
  ·intro u2 jW
   refine lz0 fun k9 hk9=>?_
   simp only [dw]
   walk_at "rd"
   refine cH (aL.of (B2.sx sa _ sm hsa)) (el (xs:=cs.map V.ref) Pv (by rw [hPv];exact⟨met,[],o8,o9,B2,hst,hD2,⟨fun c hc=>(by rw [List.take_zero]at hc;cases hc),fun _ _=>rfl,rfl⟩,Nat.zero_le _,fun _ _ e=>e,rfl⟩) (fun i σ H' _ h=>?_) ?_ ?_)
   ·rw [hPv]at h
    obtain⟨_,_,_,_,B',_⟩:=h
    exact aL.of (B'.sx sa _ sm hsa)
   ·intro i y σ H3 hy hI
    rw [hPv]at hI
    obtain⟨met3,ys,o8,o9,B3,hst3,hD3,L3,hyl,keep3,rfl⟩:=hI
    rw [List.getElem?_map]at hy
    cases hci:cs[i]? with
    | none=>rw [hci]at hy;cases hy
    | some ca=>
     rw [hci]at hy
     cases hy
     have hi:i < cols.length:=by rw [←hT.1];exact(List.getElem?_eq_some_iff.mp hci).1
     obtain⟨c,hc⟩:∃c,cols[i]?=some c:=⟨_,List.getElem?_eq_getElem hi⟩
     have hcm:=List.mem_of_getElem? hc
     have hca:=keep3 _ _ (tup1 (hT.2 i ca c hci hc))
     have hmA3:=keep3 _ _ (s12 _ _ hmA)
     have hbv3:BV K H3 nv st.1 bx:=by
      cases e:st.1 with
      | none=>
       rw [e]at hbx
       exact .inl ⟨rfl,hbx⟩
      | some c'=>
       rw [e]at hbx
       obtain⟨b,rfl,hb⟩:=hbx
       exact .inr ⟨b,c',rfl,rfl,cq.of (keep3 _ _ (s12 _ _ hb)),hstW c' e⟩
     have lU3:=lenU B3
     simp only [cc]
     refine ba (fun σ H'=>∃fA:Addr,((bH Ss st c=none∧H' fA=some (.tup [.ref ca,.non]))∨∃ms' p,ig Ss st.2 st.1 c=some ms'∧n5 Gs ms'∧H' p=some (.tup (ms'.map V.int))∧H' fA=some (.tup [.ref ca,.ref p]))∧aq H3 H'∧σ=[some (.ref x),some (.ref ma),some (.ref na),some (.ref sa),some (.ref rb),some bx,some (.ref mA),some (.ref dA),some (.ref ca),some (.ref fA)]) ?_ ?_
     rotate_left
     ·intro u3 hu3
      walk_at "rd"
      refine⟨rb,mA,ca,bx,nv,Ss,Gs,rs,st.2,c,st.1,rfl,RM.same (toS B3.sx),lS,cq.of hmA3,hstM,hbv3,cq.of hca,hcw c hcm,fun hno H4 s34=>⟨by omega,fun fA hfA=>hu3 _ _ ⟨fA,.inl ⟨?_,ae⟩,s34.upd hfA,rfl⟩⟩,fun ms' hms hMs p H4 hp _ s34=>⟨by omega,fun fA hfA=>hu3 _ _ ⟨fA,.inr ⟨ms',p,hms,hMs,(ao hfA) _ _ hp,ae⟩,s34.upd hfA,rfl⟩⟩⟩
      unfold bH
      rw [hno]
      rfl
     rintro _ H4 ⟨fA,hcase,s34,rfl⟩
     have B4:=B3.same s34
     have hD4:=hD3.same s34
     have hca4:=s34 _ _ hca
     rcases hcase with⟨hno,hf4⟩ | ⟨ms',p,hms,hMs,hp4,hf4⟩
     ·refine p5 fun A1 B1 hA1 hB1=>?_
      walk_at "rd"
      refine jC (cq.of hf4) (show lD _ ((1:Nat):Int)=_ from bq rfl) ?_
      rw [if_pos rfl]
      refine hA1 _ ?_
      simp only [du,fY]
      show Pv (i+1) _ _
      rw [hPv]
      exact⟨met3,ys,_,_,B4,hst3,hD4,L3.skip hc hno,by omega,fun b ws e=>s34 _ _ (keep3 b ws e),rfl⟩
     ·have hnx:bH Ss st c=some (some c,ms'):=by
       unfold bH
       rw [hms]
       rfl
      have hkey:(gB P w).at_ H4 (bp (some c,ms')) fA:=⟨_,hf4,⟨ca,rfl,hca4⟩,⟨p,rfl,hp4⟩,True.intro⟩
      refine p5 fun A1 B1 hA1 hB1=>?_
      walk_at "rd"
      refine jC (cq.of hf4) (show lD _ ((1:Nat):Int)=_ from bq rfl) ?_
      rw [if_neg (fun e=>by cases e)]
      refine hB1 _ ?_
      refine ba (fun σ H'=>∃met5,gC P w Ss Gs cols nv U H ma na la wa H' met5 ds∧met5[ds.length]?=some st∧(some c,ms')∈met5∧aP (n9 P w) H' dA ys∧dH Ss (cols.take i) met5 st ys∧(∀b ws,H4 b=some (.tup ws)→H' b=some (.tup ws))∧σ=[some (.ref x),some (.ref ma),some (.ref na),some (.ref sa),some (.ref rb),some bx,some (.ref mA),some (.ref dA),some (.ref ca),some (.ref fA)]) ?_ ?_
      rotate_left
      ·intro u3 hu3
       obtain⟨xs,D4,N4,xl⟩:=B4.nm
       obtain⟨ps4,g1,g2,g3⟩:=B4.mt
       refine p5 fun A2 B2' hA2 hB2=>?_
       walk_at "rd"
       refine⟨na,fA,bp (some c,ms'),xs,rfl,rfl,D4,hkey,_,rfl,?_⟩
       cases ea:eN xs (bp (some c,ms'))with
       | none=>
        rw [if_pos (show(!(none:Option V).isSome)=true from rfl)]
        refine hA2 _ (lz fun k7 hk7=>?_)
        walk_at "rd"
        refine⟨_,.inl (aL.of g1),na,fA,bp (some c,ms'),xs,rfl,rfl,D4,hkey,?_⟩
        rw [List.length_map,g2]
        refine hk7 _ _ ?_
        walk_at "rd"
        have ntN:∀vs,H4 na≠some (.tup vs):=fun vs e=>by rw [D4.ob]at e;cases e
        have hm4:(L2.upd H4 na (dO (gB P w) na (ee xs (bp (some c,ms')) fA (.int met3.length)))) ma=some (.lst (ps4.map V.ref)):=by rw [ai mna];exact g1
        have ntM:∀vs,(L2.upd H4 na (dO (gB P w) na (ee xs (bp (some c,ms')) fA (.int met3.length)))) ma≠some (.tup vs):=fun vs e=>by rw [hm4]at e;cases e
        have hnew:=N4.fresh ea
        have hltm:ds.length < met3.length:=(List.getElem?_eq_some_iff.mp hst3).1
        refine⟨.inl ⟨rfl,_,aL.of hm4⟩,ma,_,_,rfl,rfl,hm4,by rw [List.length_map];omega,hu3 _ _ ⟨met3++[(some c,ms')],B4.put D4 N4 xl g1 g2 g3 hkey hnew (CU.cl st hstU c hcm _ hnx) hMs (fun c' e=>by cases e;exact hcw c hcm) hst3 hcm hnx (by omega) mna n1 n2 nla nwa (by rw [hma];exact fun e=>by cases e) (by rw [hna.ob];exact fun e=>by cases e),?_,by simp,?_,L3.more _,fun b ws e=>?_,rfl⟩⟩
        ·rw [List.getElem?_append_left hltm]
         exact hst3
        ·exact(hD4.upd n4.2.1 ntN).upd n4.1 ntM
        ·have h1:b≠na:=fun q=>ntN ws (by rw [←q];exact e)
         have h2:b≠ma:=fun q=>by rw [q,g1]at e;cases e
         rw [ai h2,ai h1]
         exact e
       | some z=>
        rw [if_neg (by simp)]
        obtain⟨j,hj,_⟩:=N4.known (s:=(some c,ms')) (by rw [ea];exact fun e=>by cases e)
        exact hB2 _ (hu3 _ _ ⟨met3,B4,hst3,List.mem_of_getElem? hj,hD4,L3,fun _ _ e=>e,rfl⟩)
      rintro _ H5 ⟨met5,B5,hst5,hin5,hD5,L5,keep5,rfl⟩
      walk_at "rd"
      obtain⟨xs5,D5,N5,_⟩:=B5.nm
      obtain⟨j,hj⟩:=List.getElem?_of_mem hin5
      have hf5:=keep5 _ _ hf4
      have hca5:=keep5 _ _ hca4
      have hkey5:(gB P w).at_ H5 (bp (some c,ms')) fA:=⟨_,hf5,⟨ca,rfl,hca5⟩,⟨p,rfl,keep5 _ _ hp4⟩,True.intro⟩
      have ntD:∀vs,H5 dA≠some (.tup vs):=fun vs e=>by rw [hD5.ob]at e;cases e
      refine⟨na,fA,_,xs5,.int j,rfl,rfl,D5,hkey5,N5.1 j _ hj,dA,ca,c,ys,rfl,rfl,hD5,hca5,?_⟩
      rw [hPv]
      refine⟨met5,_,_,_,B5.upd ntD hd0 n4.1 n4.2.1 n4.2.2.1 n4.2.2.2 dds,hst5,hD5.put hca5 (by omega),L5.put hc hnx hj hnd,?_,fun b ws e=>?_,rfl⟩
      ·unfold ee
       split
       ·rw [List.length_map];omega
       ·rw [List.length_append];simp;omega
      ·have h5:=keep5 _ _ (s34 _ _ (keep3 b ws e))
       rw [ai (fun q=>ntD ws (by rw [←q];exact h5))]
       exact h5
   ·intro σ H3 hI
    rw [List.length_map,hT.1]at hI
    exact hk9 _ _ (jW _ _ hI)
  intro σ H3 hI
  rw [hPv]at hI
  obtain⟨met3,ys,o8,o9,B3,hst3,hD3,L3,hyl,keep3,rfl⟩:=hI
  rw [List.take_length]at L3
  have hx3:=B3.sx x _ xm hx
  have hlt3:ds.length < met3.length:=(List.getElem?_eq_some_iff.mp hst3).1
  have lU3:=lenU B3
  refine ba (fun σ H'=>H'=L2.upd H3 la (.lst (ds.map V.ref++[.ref dA]))∧σ=[some (.ref x),some (.ref ma),some (.ref na),some (.ref sa),some (.ref rb),some bx,some (.ref mA),some (.ref dA),o8,o9]) ?_ ?_
  rotate_left
  ·intro u2 jW
   walk_at "rd"
   exact⟨C,dx,_,hx3,TC.cl,TC.n1,_,fV la wa sc,.inl ⟨rfl,_,aL.of B3.la_⟩,la,_,_,rfl,rfl,B3.la_,by rw [List.length_map];omega,jW _ _ ⟨rfl,rfl⟩⟩
  rintro _ _ ⟨rfl,rfl⟩
  walk_at "rd"
  have xla:x≠la:=fun e=>xm (by simp [e])
  have ntL:∀vs,H3 la≠some (.tup vs):=fun vs e=>by rw [B3.la_]at e;cases e
  have hw3:(L2.upd H3 la (.lst (ds.map V.ref++[.ref dA]))) wa=some (.lst ((met3.take ds.length).map fun s=>V.bl (c9 Ss s.2 s.1))):=by rw [ai n3.symm];exact B3.wl
  have sS3:aq Hs (L2.upd H3 la (.lst (ds.map V.ref++[.ref dA]))):=xF z3 (toS B3.sx)
  have tk:∀{b:Addr} {ws:List V},H2 b=some (.tup ws)→(L2.upd H3 la (.lst (ds.map V.ref++[.ref dA]))) b=some (.tup ws):=fun {b ws} e=>by
   have h3:=keep3 _ _ e
   rw [ai (fun q=>ntL ws (by rw [←q];exact h3))]
   exact h3
  have hbv3:BV K (L2.upd H3 la (.lst (ds.map V.ref++[.ref dA]))) nv st.1 bx:=by
   cases e:st.1 with
   | none=>
    rw [e]at hbx
    exact .inl ⟨rfl,hbx⟩
   | some c'=>
    rw [e]at hbx
    obtain⟨b,rfl,hb⟩:=hbx
    exact .inr ⟨b,c',rfl,rfl,cq.of (tk (s12 _ _ hb)),hstW c' e⟩
  refine⟨C,dx,_,by rw [ai xla];exact hx3,TC.cl,TC.n2,_,rm la wa sc,.inl ⟨rfl,_,aL.of hw3⟩,rb,mA,bx,nv,Ss,Gs,rs,st.2,st.1,rfl,RM.same sS3,lS,cq.of (tk (s12 _ _ hmA)),hstM,hbv3,fun H4 s4=>⟨wa,_,_,rfl,rfl,s4 _ _ hw3,by rw [List.length_map,List.length_take];omega,?_⟩⟩
  rw [hN]
  exact⟨met3,ds++[dA],_,_,_,_,_,B3.close hD3 L3 hst3 hd0 n1 n2 nla nwa n3 (by rw [hla];exact fun e=>by cases e) (by rw [hwa];exact fun e=>by cases e) s4,by rw [List.length_append];rfl,rfl⟩
 ·rw [if_neg hlt]
  refine hB _ ?_
  have le:=B.le
  have e:ds.length=met.length:=by omega
  refine k met H1 B.mf (fun s hs=>(B.al s hs).1) (fun s hs c hc s' hn=>?_) ⟨ds,B.la_,e,?_,B.ld⟩ B.sx
  ·obtain⟨j,hj⟩:=List.getElem?_of_mem hs
   obtain⟨d,hd⟩:∃d,ds[j]?=some d:=⟨_,List.getElem?_eq_getElem (by rw [e];exact(List.getElem?_eq_some_iff.mp hj).1)⟩
   obtain⟨xs,_,L⟩:=B.ld j d s hd hj
   obtain⟨j',g,_⟩:=L.1 c hc s' hn
   exact List.mem_of_getElem? g
  ·have:=B.wl
   rw [e,List.take_length]at this
   exact this
end
local macro_rules | `(tactic| walk_at "rd") => `(tactic| (try dsimp only [↓aS, ↓aR, ↓aw, ↓aD, ↓aE, ↓aF, ↓aG, ↓aH, ↓ax, ↓ay, j5, jM, jI, jU, cD, cC, eQ, cA, eR, cB, du, cI, eL, cc, tC, jE, lu, fc, fJ, dn, c8, j4, cE, c7, fe, fC, lj, fG, lh, lq, a0, L2.start, List.map_cons, List.map_nil, List.length_cons, List.length_nil, List.replicate, List.cons_append, List.nil_append, List.set_cons_zero, List.set_cons_succ, aS, aR, aw, aD, aE, aF, aG, aH, ax, ay]) <;> (try simp only [↓aS, ↓aR, ↓aw, ↓aD, ↓aE, ↓aF, ↓aG, ↓aH, ↓ax, ↓ay, ↓uh, ↓ui, j5, jM, jI, jU, cD, cC, eQ, cA, eR, cB, du, cI, eL, cc, jw, tC, jE, lu, fc, e8, fJ, dn, c8, j4, cE, c7, fe, fC, lj, fG, fE, iP, fH, lh, lq, fP, a0, tE, k8, jg, gq, jG, jO, rI, rU, L2.start, bC, bD, br, bA, bB, bE, bF, bG, bt, cW, dQ, cP, cT, cQ, bS, bX, bT, bY, bR, bW, cU, cO, cS, cR, bo, List.map_cons, List.map_nil, List.length_cons, List.length_nil, List.replicate, List.cons_append, List.nil_append, List.append_nil, List.getElem?_cons_zero, List.getElem?_cons_succ, List.set_cons_zero, List.set_cons_succ, Option.some.injEq, fk, gL, bI, dm, dj, V.int.injEq, V.str.injEq, V.bl.injEq, V.ref.injEq, V.ty.injEq, List.cons.injEq, and_true, true_and, rf, gu, gv, eP, fY, hZ, f6, gy, gO, dy, d0, gr, cG, eY, jJ, gN, eO, eA, km, cX, cY, jH, gx, eX, fF, jR, jP, fZ, iO, bU, bZ, bV, b0, dw, c6, jQ, Int.zero_add, if_true, Bool.false_eq_true, if_false, cσ, List.getD_cons_zero, List.getD_cons_succ, di, fj, gJ, decide_eq_true_eq, reduceCtorEq, false_and, dk, false_or, or_false, gK, List.length_map, jS, jT, tP, ll, cL, dR, Bool.not_eq_true', ke, ite_not, aS, aR, aw, aD, aE, aF, aG, aH, ax, ay]) <;> try simp only [cb, bP, bO, dJ, dP, bJ, bK, cM, cN, bQ, bI, dm, dj, di, and_true, true_and, V.int.injEq, V.str.injEq, V.bl.injEq, V.ref.injEq, reduceCtorEq, false_and, dk, false_or, or_false])
local macro_rules | `(tactic| walk_at "flds") => `(tactic| simp only [aV, aZ, String.reduceEq, if_false, if_true, List.lookup])
def gb(P:Program)(w:World)(C:Addr)(Ss:List bh)(cols:List (List Int))(met:List MS)(x:Addr)(H:Hp):Prop:=∃dx la wa sc:Addr,H x=some (.ins C dx (bc la wa sc))∧j6 P w Ss cols la wa H met
theorem gb.same{P:Program}{w:World}{C:Addr}{Ss:List bh}{cols:List (List Int)}{met:List MS}{x:Addr}{H H':Hp}(h:gb P w C Ss cols met x H)(s:aq H H'):gb P w C Ss cols met x H':=by
 obtain⟨dx,la,wa,sc,h1,ds,h2,h3,h4,h5⟩:=h
 exact⟨dx,la,wa,sc,s _ _ h1,ds,s _ _ h2,h3,s _ _ h4,fun i d t e1 e2=>let ⟨xs,g1,g2⟩:=h5 i d t e1 e2;⟨xs,g1.same s,g2⟩⟩
def Aa(P:Program)(w:World)(C:Addr):Sp:=fun vs H Q _=>∃(x:Addr) (Ss:List bh) (cols:List (List Int)) (met:List MS),vs=[.ref x]∧gb P w C Ss cols met x H∧Q (.int met.length) H
def spTo(P:Program)(w:World)(C:Addr):Sp:=fun vs H Q _=>∃(x ca:Addr) (Ss:List bh) (cols:List (List Int)) (met:List MS) (i:Nat) (c:List Int) (s:MS),vs=[.ref x,.int i,.ref ca]∧gb P w C Ss cols met x H∧met[i]?=some s∧H ca=some (.tup (c.map V.int))∧
 (∀(j:Nat) s',c∈cols→bH Ss s c=some s'→met[j]?=some s'→Q (.int j) H)∧((c∈cols→bH Ss s c=none)→Q .non H)
def qD(P:Program)(w:World)(C:Addr):Sp:=fun vs H Q _=>∃(x:Addr) (Ss:List bh) (cols:List (List Int)) (met:List MS) (i:Nat) (s:MS),vs=[.ref x,.int i]∧gb P w C Ss cols met x H∧met[i]?=some s∧Q (.bl (c9 Ss s.2 s.1)) H
def gn(K:PySem.W.Frag)(C:Addr):Sp:=fun vs H Q _=>∃(x dx:Addr),vs=[.ref x]∧H x=some (.ins C dx [])∧∀l w H',H l=none→H w=none→w≠l→H'=upd (upd (upd H l (.lst [])) w (.lst [])) x (.ins C dx (dF "well" (.ref w) (dF "leads" (.ref l) [])))→Q .non H'
def iM(P:Program)(w:World)(K:PySem.W.Frag)(mg:Str→Option Value)(base:Heap)(C Cs:Addr):Sp:=fun vs H Q _=>∃(x dx sc:Addr) (nv:Nat) (bs:List (Int×Int)) (Ss:List bh) (Gs:List (Int→Prop)) (U:List MS) (H0:Hp),vs=[.ref x,.ref sc]∧H x=some (.ins C dx [])∧H0 x=none∧aq H0 H∧gG P w K mg base Cs nv bs Ss Gs sc H0∧Ss.length≤100∧
 n5 Gs (Ss.map (·.start))∧bs.length=nv∧bs.length≤4∧(∀b∈bs,1≤wN b)∧ix bs≤400∧pK Ss (aB bs) U∧∀met H',qR Ss (aB bs) met→(∀s∈met,s∈U)→(∀(s:MS),s∈met→∀c∈aB bs,∀s',bH Ss s c=some s'→s'∈met)→(∃dx la wa:Addr,H' x=some (.ins C dx (bc la wa sc))∧j6 P w Ss (aB bs) la wa H' met)→(∀b o,b≠x→H b=some o→H' b=some o)→Q .non H'
section
variable {P:Program} {w:World} {K:PySem.W.Frag} {mg:Str→Option Value} {base:Heap} {aM:Addr}
theorem wA{f C:Addr}{fd:FuncData}(F:f9 K "ends" "States.ends" fQ f fd)(T:Txt mg aM)(TC:eB K C):bj P w K mg base fK 1 f fd ["self","state"] (qD P w C):=by
 refine F.ok kP (fun vs H Q E h=>?_) (fun cdv A outer s H vs Q E hr h=>?_)
 ·obtain⟨x,Ss,cols,met,i,s,rfl,_⟩:=h
  rfl
 obtain⟨x,Ss,cols,met,i,st,rfl,⟨dx,la,wa,sc,hx,ds,h1,h2,h3,h4⟩,hst,q⟩:=h
 refine⟨_,(ak (aQ (bu (dC K) (dD (pr 0) rfl) (pr 1) (fun _ _=>rfl)))),?_⟩
 walk_at "rd"
 exact⟨C,dx,_,hx,TC.cl,TC.n2,_,rm la wa sc,eZ (aL.of h3) (bq (by rw [List.getElem?_map,hst];rfl)) q⟩
theorem kD{f C:Addr}{fd:FuncData}(F:f9 K "__init__" "States.__init__" dZ f fd)(T:Txt mg aM)(TC:eB K C):bj P w K mg base fK 1 f fd ["self"] (gn K C):=by
 refine F.ok iJ (fun vs H Q E h=>?_) (fun cdv A outer s H vs Q E hr h=>?_)
 ·obtain⟨x,dx,rfl,_⟩:=h
  rfl
 obtain⟨x,dx,rfl,hx,k⟩:=h
 refine⟨_,(ag (kH (pr 0) (cg af) rfl)
 (ak (kH (pr 0) (cg af) rfl))),?_⟩
 have hs:sizeLine=16777216:=sizeLine_eq
 walk_at "rd"
 have ln:∀(f:Str) (v:V) (l:List (Str×V)) (n:Nat),l.length≤n→(dF f v l).length≤n+1:=fun f v l n h=>Nat.le_trans (eH f v l) (Nat.succ_le_succ h)
 refine⟨by omega,fun l hl=>?_⟩
 have lx:l≠x:=fun e=>by subst e;rw [hx]at hl;cases hl
 refine⟨C,dx,[],by rw [ai (Ne.symm lx)];exact hx,TC.cl,TC.n1,by decide,by omega,fun w' hw=>?_⟩
 have wx:w'≠x:=fun e=>by subst e;rw [ae]at hw;cases hw
 rw [ai wx]at hw
 have wl:w'≠l:=fun e=>by subst e;rw [ae]at hw;cases hw
 rw [ai wl]at hw
 refine⟨C,dx,_,by rw [ai (Ne.symm wx),ae],TC.cl,TC.n2,Nat.lt_of_le_of_lt (ln _ _ _ _ (Nat.zero_le 0)) (by decide),?_⟩
 refine k l w' _ hl hw wl ?_
 rw [pG]
theorem m8{f C Cs:Addr}{fd:FuncData}(F:f9 K "__init__" "Machine.__init__" dE f fd)(T:Txt mg aM)(TC:eB K C)(TS:dG K Cs)(DC_States___init__:pL P w K mg base "States" "__init__" 10 ["self"] (gn K C))(D_columns:eC P w K mg base "columns" 10 ["score"] (fX K Cs))(M_build:cK P w K mg base C "build" 10 ["self","met","numbers","steps"] (nP P w K mg base C Cs)):
  bj P w K mg base fK 11 f fd ["self","score"] (iM P w K mg base C Cs):=by
 refine F.ok sc_Machine___init__ (fun vs H Q E h=>?_) (fun cdv A outer s H vs Q E hr h=>?_)
 ·obtain⟨x,dx,sc,nv,bs,Ss,Gs,U,H0,rfl,_⟩:=h
  rfl
 obtain⟨x,dx,sc,nv,bs,Ss,Gs,U,H0,rfl,hx,hx0,s0,⟨dsc,ra,rb,rs,hsc,RA,RM⟩,lS,hM0,hnv,lb,hw,hc,CU,k⟩:=h
 refine⟨_,(ag (cv (uQ DC_States___init__ hr (by rfl) (aa (pr 0) af)))
 (ag (kH (pr 0) (pr 1) rfl)
 (ag (az (i:=2) sc_Machine___init__.nd rfl (Or.inl rfl) (jl (aa eS (aa (bz (fM K) (by rfl) T.n_tuple boot_tuple (aa (dW (own:=["rule"]) (js:=[]) rfl (cu K (dD (pr 1) rfl)) (bf.of (by rfl)) (fun _ _ _ _ _=>(aC (i:=0) (show List.Nodup (["rule"]:List Str)from by decide +kernel) rfl (Or.inl rfl))) (fun _ _ _ _ _=>dY) (fun _ _ _ _ _=>(ij P w K mg base hr (pr 0)))) af)) af))))
 (ak (cv (gW P w K mg base hr (pr 0) (aa (cg (aa (pr 2) af)) (aa (wM (kk':=gB P w) (jW hr) (pr 2) (qj T.g_START) (ya (jW hr))) (aa (aO D_columns hr (by rfl) (aa (pr 1) af)) af))))))))),?_⟩
 have hs:sizeLine=16777216:=sizeLine_eq
 have scx:sc≠x:=fun e=>by rw [e,hx0]at hsc;cases hsc
 refine ba (fun σ H'=>∃la wa:Addr,H la=none∧H wa=none∧wa≠la∧H'=upd (upd (upd H la (.lst [])) wa (.lst [])) x (.ins C dx (dF "well" (.ref wa) (dF "leads" (.ref la) [])))∧σ=[some (.ref x),some (.ref sc),none]) ?_ ?_
 rotate_left
 ·intro u' hu
  walk_at "rd"
  exact⟨x,dx,rfl,hx,fun l w' H' hl hw' hne e=>hu _ _ ⟨l,w',hl,hw',hne,e,rfl⟩⟩
 rintro _ H1 ⟨la,wa,hla,hwa,nwl,eH1,rfl⟩
 have hx1:H1 x=some (.ins C dx (dF "well" (.ref wa) (dF "leads" (.ref la) []))):=by rw [eH1,ae]
 refine ba (fun σ H'=>H'=upd H1 x (.ins C dx (bc la wa sc))∧σ=[some (.ref x),some (.ref sc),none]) ?_ ?_
 rotate_left
 ·intro u' hu
  walk_at "rd"
  have ln:∀(f:Str) (v:V) (l:List (Str×V)) (n:Nat),l.length≤n→(dF f v l).length≤n+1:=fun f v l n h=>Nat.le_trans (eH f v l) (Nat.succ_le_succ h)
  exact⟨C,dx,_,hx1,TC.cl,TC.n3,Nat.lt_of_le_of_lt (ln _ _ _ _ (ln _ _ _ _ (Nat.zero_le 0))) (by decide),hu _ _ ⟨rfl,rfl⟩⟩
 rintro _ H2 ⟨eH2,rfl⟩
 have lax:la≠x:=fun e=>by rw [e,hx]at hla;cases hla
 have wax:wa≠x:=fun e=>by rw [e,hx]at hwa;cases hwa
 have e2:H2=upd (upd (upd H la (.lst [])) wa (.lst [])) x (.ins C dx (bc la wa sc)):=by rw [eH2,eH1,rN]
 have hx2:H2 x=some (.ins C dx (bc la wa sc)):=by rw [e2,ae]
 have hla2:H2 la=some (.lst []):=by rw [e2,ai lax,ai nwl.symm,ae]
 have hwa2:H2 wa=some (.lst []):=by rw [e2,ai wax,ae]
 have old2:∀b o,b≠x→H b=some o→H2 b=some o:=fun b o hb e=>by rw [e2,ai hb,ai (aj e hwa),ai (aj e hla)];exact e
 have s02:aq H0 H2:=fun b o e=>old2 b o (fun q=>by rw [q,hx0]at e;cases e) (s0 _ _ e)
 have hla0:H0 la=none:=by
  cases e:H0 la with
  | none=>rfl
  | some o=>rw [s0 _ _ e]at hla;cases hla
 have hwa0:H0 wa=none:=by
  cases e:H0 wa with
  | none=>rfl
  | some o=>rw [s0 _ _ e]at hwa;cases hwa
 clear e2 eH2 eH1 hx1
 clear H1
 have RM2:=RM.same s02
 refine ba (fun σ H'=>∃bg mA:Addr,H' bg=some (.tup [.non,.ref mA])∧H' mA=some (.tup ((Ss.map (·.start)).map V.int))∧aq H2 H'∧σ=[some (.ref x),some (.ref sc),some (.ref bg)]) ?_ ?_
 rotate_left
 ·intro u' hu
  walk_at "rd"
  have lr:=RM.len
  have lg:=RM.gl
  refine⟨Cs,dsc,_,s02 _ _ hsc,TS.cl,TS.n2,_,kx ra rb,cH RM2.sq (dB (xs:=rs.map V.ref) (fun i ys H'=>ys=((Ss.take i).map (·.start)).map V.int∧H2=H') (by rw [List.length_map];omega) ⟨rfl,rfl⟩ ?_ ?_ ?_ ?_)⟩
  ·rintro i ys H' ⟨rfl,rfl⟩
   rw [List.length_map,List.length_map,List.length_take]
   omega
  ·rintro i ys H' ⟨rfl,rfl⟩
   exact RM2.sq
  ·rintro i y ys H' hy ⟨rfl,rfl⟩
   rw [List.getElem?_map]at hy
   cases hri:rs[i]? with
   | none=>rw [hri]at hy;cases hy
   | some r=>
    rw [hri]at hy
    cases hy
    have hi:i < Ss.length:=by rw [←lr];exact(List.getElem?_eq_some_iff.mp hri).1
    obtain⟨S,hS⟩:∃S,Ss[i]?=some S:=⟨_,List.getElem?_eq_getElem hi⟩
    obtain⟨G,hG⟩:∃G,Gs[i]?=some G:=⟨_,List.getElem?_eq_getElem (by omega)⟩
    obtain⟨Cr,RI,RO,hRI⟩:=RM2.at_ i r S G hri hS hG
    obtain⟨dr,fs,hir,z1,z2,z3,z4,z5⟩:=RO.ins r H2 hRI
    simp only [fi]
    walk_at "rd"
    refine⟨Cr,dr,fs,hir,z2,_,_,RO.start.up (by decide),r,rfl,hRI,?_⟩
    rw [List.take_add_one,hS,List.map_append,List.map_append]
    exact⟨rfl,rfl⟩
  ·rintro ys H' ⟨rfl,rfl⟩ p hp
   rw [List.length_map,lr,List.take_length]
   refine⟨_,.inl ⟨aL.of ae,fun l hl=>⟨by omega,fun bg hbg=>hu _ _ ⟨bg,l,ae,(ao hbg) _ _ ae,((ao hp).upd hl).upd hbg,rfl⟩⟩⟩⟩
 rintro _ H3 ⟨bg,mA,hbg,hmA,s23,rfl⟩
 walk_at "rd"
 have hx3:=s23 _ _ hx2
 have s03:=s02.trans s23
 refine⟨C,dx,_,hx3,by unfold bc;walk_at "flds",_,_,M_build,by omega,fun ma hma na hna=>?_⟩
 have hna3:H3 na=none:=(ao hma).free hna
 have nma:na≠ma:=fun e=>by rw [e,ae]at hna;cases hna
 have hk4:(gB P w).at_ (upd (upd H3 ma (.lst [.ref bg])) na (dO (gB P w) na [])) (bp (none,Ss.map (·.start))) bg:=⟨_,(ao hna) _ _ ((ao hma) _ _ hbg),rfl,⟨mA,rfl,(ao hna) _ _ ((ao hma) _ _ hmA)⟩,True.intro⟩
 refine⟨ae,_,hk4,?_⟩
 rw [rN]
 have s35:aq H3 (upd (upd H3 ma (.lst [.ref bg])) na (dO (gB P w) na [(bp (none,Ss.map (·.start)),bg,.int 0)])):=(ao hma).upd hna
 have hma5:(upd (upd H3 ma (.lst [.ref bg])) na (dO (gB P w) na [(bp (none,Ss.map (·.start)),bg,.int 0)])) ma=some (.lst [.ref bg]):=by rw [ai nma.symm,ae]
 have hna5:(upd (upd H3 ma (.lst [.ref bg])) na (dO (gB P w) na [(bp (none,Ss.map (·.start)),bg,.int 0)])) na=some (dO (gB P w) na [(bp (none,Ss.map (·.start)),bg,.int 0)]):=ae
 refine(fun(key:∀H5:Hp,aq H3 H5→H5 ma=some (.lst [.ref bg])→H5 na=some (dO (gB P w) na [(bp (none,Ss.map (·.start)),bg,.int 0)])→fX K Cs [V.ref sc] H5 _ _)=>key _ s35 hma5 hna5) ?_
 clear s35 hma5 hna5
 intro H5 s35 hma5 hna5
 have s05:=s03.trans s35
 refine⟨sc,dsc,ra,rb,bs,rfl,s05 _ _ hsc,RA.same s05,lb,hw,hc,fun sa H6 hsa0 hC6 s56=>?_⟩
 obtain⟨cs,hsa,hT⟩:=hC6
 have s06:=s05.trans s56
 have s36:=s35.trans s56
 have fr0:∀{z:Addr},H3 z=none→H0 z=none:=fun {z} h=>by
  cases e:H0 z with
  | none=>rfl
  | some o=>rw [s03 _ _ e]at h;cases h
 have hla3:=s23 _ _ hla2
 have hwa3:=s23 _ _ hwa2
 refine⟨x,dx,ma,na,sa,la,wa,sc,dsc,ra,rb,bg,nv,Ss,Gs,rs,cs,aB bs,U,H0,rfl,s36 _ _ hx3,s06 _ _ hsc,s06,fr0 hma,fr0 hna3,hla0,hwa0,RM,lS,hM0,s56 _ _ hma5,⟨_,s36 _ _ hbg,rfl,⟨mA,rfl,s36 _ _ hmA⟩,True.intro⟩,
  ⟨s56 _ _ hna5,fun y hy=>?_,by simp,by simp⟩,s36 _ _ hla3,s36 _ _ hwa3,(aj hla3 hma).symm,(aj hwa3 hma).symm,nwl.symm,hsa,(aj hma5 hsa0).symm,(aj (s35 _ _ hla3) hsa0).symm,(aj (s35 _ _ hwa3) hsa0).symm,hT,fun c hcc=>by rw [fN bs c hcc,hnv],by rw [eh];omega,oo bs,CU,fun met H' mf sub cl mb sx=>k met H' mf sub cl ⟨dx,la,wa,?_,mb⟩ fun b o hb e=>?_⟩
 ·rw [List.mem_singleton.mp hy]
  exact⟨_,s36 _ _ hbg,rfl,⟨mA,rfl,s36 _ _ hmA⟩,True.intro⟩
 ·refine sx x _ (fun h=>?_) (s36 _ _ hx3)
  simp only [List.mem_cons,List.not_mem_nil,or_false]at h
  rcases h with e | e | e | e
  ·exact aj hx3 hma e
  ·exact aj hx3 hna3 e
  ·exact lax e.symm
  ·exact wax e.symm
 ·have h3:=s23 _ _ (old2 b o hb e)
  refine sx b o (fun h=>?_) (s36 _ _ h3)
  simp only [List.mem_cons,List.not_mem_nil,or_false]at h
  rcases h with q | q | q | q
  ·exact aj h3 hma q
  ·exact aj h3 hna3 q
  ·exact aj e hla q
  ·exact aj e hwa q
end
local macro_rules | `(tactic| walk_at "rd") => `(tactic| (try dsimp only [↓aS, ↓aR, ↓aw, ↓aD, ↓aE, ↓aF, ↓aG, ↓aH, ↓ax, ↓ay, j5, jM, jI, jU, cD, cC, eQ, cA, eR, cB, du, cI, eL, cc, tC, jE, lu, fc, fJ, dn, c8, j4, cE, c7, fe, fC, lj, fG, lh, lq, a0, L2.start, List.map_cons, List.map_nil, List.length_cons, List.length_nil, List.replicate, List.cons_append, List.nil_append, List.set_cons_zero, List.set_cons_succ, aS, aR, aw, aD, aE, aF, aG, aH, ax, ay]) <;> (try simp only [↓aS, ↓aR, ↓aw, ↓aD, ↓aE, ↓aF, ↓aG, ↓aH, ↓ax, ↓ay, ↓uh, ↓ui, j5, jM, jI, jU, cD, cC, eQ, cA, eR, cB, du, cI, eL, cc, jw, tC, jE, lu, fc, e8, fJ, dn, c8, j4, cE, c7, fe, fC, lj, fG, fE, iP, fH, lh, lq, fP, a0, tE, k8, jg, gq, jG, jO, rI, rU, L2.start, bC, bD, br, bA, bB, bE, bF, bG, bt, cW, dQ, cP, cT, cQ, bS, bX, bT, bY, bR, bW, cU, cO, cS, cR, bo, List.map_cons, List.map_nil, List.length_cons, List.length_nil, List.replicate, List.cons_append, List.nil_append, List.append_nil, List.getElem?_cons_zero, List.getElem?_cons_succ, List.set_cons_zero, List.set_cons_succ, Option.some.injEq, fk, gL, bI, dm, dj, V.int.injEq, V.str.injEq, V.bl.injEq, V.ref.injEq, V.ty.injEq, List.cons.injEq, and_true, true_and, rf, gu, gv, eP, fY, hZ, f6, gy, gO, dy, d0, gr, cG, eY, jJ, gN, eO, eA, km, cX, cY, jH, gx, eX, fF, jR, jP, fZ, iO, bU, bZ, bV, b0, dw, c6, jQ, Int.zero_add, if_true, Bool.false_eq_true, if_false, cσ, List.getD_cons_zero, List.getD_cons_succ, di, fj, gJ, decide_eq_true_eq, reduceCtorEq, false_and, dk, false_or, or_false, gK, List.length_map, jS, jT, tP, ll, cL, dR, Bool.not_eq_true', ke, ite_not, aS, aR, aw, aD, aE, aF, aG, aH, ax, ay]) <;> try simp only [cb, bP, bO, dJ, dP, bJ, bK, cM, cN, bQ, bI, dm, dj, di, and_true, true_and, V.int.injEq, V.str.injEq, V.bl.injEq, V.ref.injEq, reduceCtorEq, false_and, dk, false_or, or_false])
local macro_rules | `(tactic| walk_at "flds") => `(tactic| simp only [aV, aZ, String.reduceEq, if_false, if_true, List.lookup])
theorem pF{c:Nat}(hc:c < 256){ws:List Str}(h:ws≠[])(hn:∀z∈ws,c∉z.cps.toList):Txt.split (Txt.join ⟨#[c]⟩ ws) ⟨#[c]⟩=ws:=by
 refine eD ?_
 rw [hX _ hc,kv,kY c _ (by simpa using h) (fun p hp=>?_)]
 obtain⟨z,hz,rfl⟩:=List.mem_map.mp hp
 exact hn z hz
def nV(K:PySem.W.Frag):Sp:=fun vs H Q _=>∃row:Str,vs=[.str row]∧row.length≤20000∧((∃lo hi:Int,gF row (Str.ofString "voice") [lo,hi]∧lo≤hi∧∀p H',H' p=some (.tup [.int lo,.int hi])→aq H H'→Q (.ref p) H')∨∃w0 ws,Txt.split row ⟨#[32]⟩=w0::ws∧w0≠Str.ofString "voice"∧∀H',aq H H'→Q .non H')
def nT(P:Program)(w:World)(K:PySem.W.Frag)(mg:Str→Option Value)(base:Heap)(C:Addr):Sp:=fun vs H Q _=>∃(text:Str) (bs:List (Int×Int)) (vr:Int×Int→Str),vs=[.str text]∧text.length≤1000000∧Txt.split text ⟨#[10]⟩=bs.map vr∧1≤bs.length∧bs.length≤4∧
 (∀b∈bs,gF (vr b) (Str.ofString "voice") [b.1,b.2]∧b.1≤b.2∧(h8 b).natAbs < 2 ^ 200)∧tR bs≤400∧∀x H',gG P w K mg base C bs.length bs [] [] x H'→aq H H'→Q (.ref x) H'
section
variable {P:Program} {w:World} {K:PySem.W.Frag} {mg:Str→Option Value} {base:Heap} {aM:Addr}
theorem kE{f:Addr}{fd:FuncData}(F:f9 K "voice_range" "voice_range" fS f fd)(T:Txt mg aM)(D_is_number:eC P w K mg base "is_number" 1 ["word"] vk):bj P w K mg base fK 2 f fd ["row"] (nV K):=by
 refine F.ok sc_voice_range (fun vs H Q E h=>?_) (fun cdv A outer s H vs Q E hr h=>?_)
 ·obtain⟨row,rfl,_⟩:=h
  rfl
 obtain⟨row,rfl,hl,h⟩:=h
 refine⟨_,(ag (az (i:=1) sc_voice_range.nd rfl (Or.inl rfl) (c5 K PySem.F.plainAttrs_str PySem.F.slot_str_split PySem.F.type_str_split oP (pr 0) (aa fv af)))
 (ag (eJ (PW.pt (kJ (eU (aX Au (aJ (aU K) (by rfl) T.n_len boot_len (aa (pr 1) af)) ah (aT _))) (kJ (eU (aX Au (bu (dC K) (pr 1) ah (fun _ _=>rfl)) fv (aT _))) (kK (kI (eK (aJ (ib K rfl) (by rfl) T.n_all boot_all (aa (dW (own:=["word"]) (js:=[]) rfl (cu K (oZ (zS K) (pr 1) (zM ah) rC)) (bf.of (by rfl)) (fun _ _ _ _ _=>(aC (i:=0) (show List.Nodup (["word"]:List Str)from by decide +kernel) rfl (Or.inl rfl))) (fun _ _ _ _ _=>dY) (fun _ _ _ _ _=>(aO D_is_number hr (by rfl) (aa (pr 0) af)))) af)) (fun _=>rfl))))))) (ak (aQ eS)) dh)
 (ag (az (i:=2) sc_voice_range.nd rfl (Or.inl rfl) (jl (aa (bz (ic) (by rfl) T.n_int boot_int (aa (bu (dC K) (pr 1) ah (fun _ _=>rfl)) af)) (aa (bz (ic) (by rfl) T.n_int boot_int (aa (bu (dC K) (pr 1) ah (fun _ _=>rfl)) af)) af))))
 (ak (aQ (kF (eU (aX (o0 uP) (bu (dC K) (pr 2) ah (fun _ _=>rfl)) (bu (dC K) (pr 2) ah (fun _ _=>rfl)) (aT _))) (pr 2) eS)))))),?_⟩
 have hs:sizeLine=16777216:=sizeLine_eq
 refine ba (fun σ H'=>∃p:Addr,H' p=some (.lst ((Txt.split row ⟨#[32]⟩).map V.str))∧σ=[some (.str row),some (.ref p),none]∧aq H H') ?_ ?_
 rotate_left
 ·intro u' hu
  walk_at "rd"
  exact⟨32,by decide +kernel,by decide,by omega,fun p hp=>hu _ _ ⟨p,ae,rfl,ao hp⟩⟩
 rintro _ H1 ⟨p,hp1,rfl,s1⟩
 rcases h with⟨lo,hi,RI,hle,q⟩ | ⟨w0,ws,hsp,hw0,q⟩
 ·rw [RI.split]at hp1
  have b1:=RI.nb lo (by simp)
  have b2:=RI.nb hi (by simp)
  have nlen:∀n:Int,n.natAbs < 10 ^ 40→(fu n).length≤41:=fun n h=>oU h
  refine ba (fun σ H'=>σ=[some (.str row),some (.ref p),none]∧aq H1 H') ?_ ?_
  rotate_left
  ·intro u' hu
   walk_at "rd"
   refine⟨_,.inl (aL.of hp1),?_⟩
   rw [if_pos (by simp)]
   refine eZ (aL.of hp1) (gH rfl) ?_
   walk_at "rd"
   refine yx (aL.of hp1) fun q2 hq2=>?_
   rw [show(some (1:Int))=some ((1:Nat):Int)from rfl,sg]
   show yX _ _ _ _
   have s2:aq H1 (upd H1 q2 (.lst (([lo,hi].map fu).map V.str))):=ao hq2
   refine cH (xs:=([lo,hi].map fu).map V.str) (aL.of ae) (dB (xs:=([lo,hi].map fu).map V.str) (fun i ys H'=>ys=(List.replicate i true).map V.bl∧aq (upd H1 q2 (.lst (([lo,hi].map fu).map V.str))) H') (by simp;omega) ⟨rfl,aq.refl _⟩ ?_ ?_ ?_ ?_)
   ·rintro i ys H' ⟨rfl,sm⟩
    simp
   ·rintro i ys H' ⟨rfl,sm⟩
    exact sm.seq (aL.of ae)
   ·rintro i x ys H' hx ⟨rfl,sm⟩
    obtain⟨n,hn,rfl⟩:∃n∈[lo,hi],x=.str (fu n):=by
     have:=List.mem_of_getElem? hx
     simp only [List.map_map,List.mem_map,Function.comp_apply]at this
     obtain⟨n,hn,e⟩:=this
     exact⟨n,hn,e.symm⟩
    walk_at "rd"
    refine⟨fu n,rfl,?_,fun H1 s1=>⟨?_,sm.trans s1⟩⟩
    ·have:=nlen n (RI.nb n hn)
     omega
    ·show _=(List.replicate (i+1) true).map V.bl
     rw [show(fu n).cps.toList=i4 n from rfl,sv (RI.nb n hn),List.replicate_succ',List.map_append]
     rfl
   rintro ys H2 ⟨rfl,sm⟩ p1 hp1'
   refine⟨_,aL.of ae,?_⟩
   rw [show(List.replicate (([lo,hi].map fu).map V.str).length true).all id=true by simp]
   walk_at "rd"
   exact hu _ _ ⟨rfl,(s2.trans sm).upd hp1'⟩
  rintro _ H2 ⟨rfl,s12⟩
  have hp2:=s12 _ _ hp1
  refine ba (fun σ H'=>∃t:Addr,H' t=some (.tup [.int lo,.int hi])∧σ=[some (.str row),some (.ref p),some (.ref t)]∧aq H2 H') ?_ ?_
  rotate_left
  ·intro u' hu
   walk_at "rd"
   refine eZ (aL.of hp2) (show lD _ ((1:Nat):Int)=_ from bq rfl) ?_
   walk_at "rd"
   refine⟨lo,rg (Nat.lt_of_lt_of_le b1 (Nat.pow_le_pow_right (by decide) (by decide))),by have:=nlen lo b1;omega,eZ (aL.of hp2) (show lD _ ((2:Nat):Int)=_ from bq rfl) ?_⟩
   walk_at "rd"
   exact⟨hi,rg (Nat.lt_of_lt_of_le b2 (Nat.pow_le_pow_right (by decide) (by decide))),by have:=nlen hi b2;omega,by omega,fun t ht=>hu _ _ ⟨t,ae,rfl,ao ht⟩⟩
  rintro _ H3 ⟨t,ht,rfl,s23⟩
  walk_at "rd"
  refine jC (cq.of ht) (gH rfl) (jC (cq.of ht) (show lD _ ((1:Nat):Int)=_ from bq rfl) ?_)
  walk_at "rd"
  rw [if_pos hle]
  exact q t _ ht ((s1.trans s12).trans s23)
 ·rw [hsp]at hp1
  walk_at "rd"
  refine⟨_,.inl (aL.of hp1),?_⟩
  by_cases h3:(((w0::ws).map V.str).length:Int)=3
  ·rw [if_pos h3]
   refine eZ (aL.of hp1) (gH rfl) ?_
   walk_at "rd"
   rw [if_neg hw0]
   exact q _ s1
  ·rw [if_neg h3]
   exact q _ s1
theorem wB{f C:Addr}{fd:FuncData}(F:f9 K "read" "read" qy f fd)(T:Txt mg aM)(TC:dG K C)(D_voice_range:eC P w K mg base "voice_range" 10 ["row"] (nV K))(DM_Score:mQ P w K mg base "Score" C 9 ["self","ranges","rules"] (hV K C))(D_not_too_wide:eC P w K mg base "not_too_wide" 10 ["score"] (ju P w K mg base C)):bj P w K mg base fK 11 f fd ["text"] (nT P w K mg base C):=by
 refine F.ok sc_read (fun vs H Q E h=>?_) (fun cdv A outer s H vs Q E hr h=>?_)
 ·obtain⟨text,bs,vr,rfl,_⟩:=h
  rfl
 obtain⟨text,bs,vr,rfl,htl,hsp,nv1,nv4,hb,hwt,q1⟩:=h
 refine⟨_,(ag (az (i:=1) sc_read.nd rfl (Or.inl rfl) (cg af))
 (ag (az (i:=2) sc_read.nd rfl (Or.inl rfl) (cg af))
 (ag (dX PassesOwn.never rfl (pb rfl T.n_enumerate (aa (c5 K PySem.F.plainAttrs_str PySem.F.slot_str_split PySem.F.type_str_split oP (pr 0) (aa fv af)) af)) (eE K (n:=2) rfl (aW (aC (i:=3) sc_read.nd rfl (Or.inl rfl)) (aW (aC (i:=4) sc_read.nd rfl (Or.inl rfl)) eF)))
 (ag (az (i:=5) sc_read.nd rfl (Or.inl rfl) (aO D_voice_range hr (by rfl) (aa (pr 4) af)))
 (ak (eJ (PW.pt (nA (eU (aX wH (pr 5) eS (aT _))) (nA (eU (aX (o0 yg) (aJ (aU K) (by rfl) T.n_len boot_len (aa (pr 1) af)) (qj T.g_MOST_VOICES) (aT _))) (nB (eU (aX uE (aJ (aU K) (by rfl) T.n_len boot_len (aa (pr 2) af)) ah (aT _))))))) (ak (cv (c5 K PySem.F.plainAttrs_list PySem.F.slot_list_append PySem.F.type_list_append bL (pr 1) (aa (pr 5) af)))) (ak (eJ (PW.pt (kJ (eU (aX uE (aJ (aU K) (by rfl) T.n_len boot_len (aa (pr 1) af)) ah (aT _))) (kK (eU (aX uE (aJ (aU K) (by rfl) T.n_len boot_len (aa (pr 2) af)) (qj T.g_MOST_RULES) (aT _)))))) (ak pf) (ak (cv (c5 K PySem.F.plainAttrs_list PySem.F.slot_list_append PySem.F.type_list_append bL (pr 2) (aa oY af))))))))))
 (ak (aQ (aO D_not_too_wide hr (by rfl) (aa (xD DM_Score hr (by rfl) (aa (pr 1) (aa (pr 2) af))) af))))))),?_⟩
 have hs:sizeLine=16777216:=sizeLine_eq
 refine ba (fun σ H'=>∃ra:Addr,H ra=none∧H' ra=some (.lst (([]:List Addr).map V.ref))∧σ=[some (.str text),some (.ref ra),none,none,none,none]∧aq H H') ?_ ?_
 rotate_left
 ·intro u' hu
  walk_at "rd"
  exact⟨by omega,fun p hp=>hu _ _ ⟨p,hp,ae,rfl,ao hp⟩⟩
 rintro _ H1 ⟨ra,hra,hra1,rfl,s1⟩
 refine ba (fun σ H'=>∃ru:Addr,H ru=none∧ru≠ra∧H' ru=some (.lst (([]:List Addr).map V.ref))∧H' ra=some (.lst (([]:List Addr).map V.ref))∧σ=[some (.str text),some (.ref ra),some (.ref ru),none,none,none]∧aq H H') ?_ ?_
 rotate_left
 ·intro u' hu
  walk_at "rd"
  exact⟨by omega,fun p hp=>hu _ _ ⟨p,s1.free hp,(aj hra1 hp).symm,ae,(ao hp) _ _ hra1,rfl,s1.upd hp⟩⟩
 clear hra1 s1
 rintro _ H2 ⟨ru,hru,rra,hru2,hra2,rfl,s2⟩
 refine ba (fun σ H'=>∃(ts rs:List Addr) (o3 o4 o5:Option V),σ=[some (.str text),some (.ref ra),some (.ref ru),o3,o4,o5]∧ts.length=bs.length∧rs=[]∧H' ra=some (.lst (ts.map V.ref))∧H' ru=some (.lst (rs.map V.ref))∧(∀(j:Nat) (t:Addr) (b:Int×Int),ts[j]?=some t→bs[j]?=some b→H' t=some (.tup [.int b.1,.int b.2]))∧aq H H') ?_ ?_
 rotate_left
 ·intro u' hu
  walk_at "rd"
  refine⟨10,by decide +kernel,by decide,by omega,fun sp hsp0=>?_⟩
  rw [hsp]
  have s3:aq H2 (upd H2 sp (.lst ((bs.map vr).map V.str))):=ao hsp0
  have nsa:sp≠ra:=(aj hra2 hsp0).symm
  have nsu:sp≠ru:=(aj hru2 hsp0).symm
  obtain⟨Pv,hPv⟩:∃Pv:Nat→L2.St→Hp→Prop,Pv=fun i σ H'=>∃(ts rs:List Addr) (o3 o4 o5:Option V),σ=[some (.str text),some (.ref ra),some (.ref ru),o3,o4,o5]∧ts.length=min i bs.length∧rs=[]∧H' ra=some (.lst (ts.map V.ref))∧H' ru=some (.lst (rs.map V.ref))∧H' sp=some (.lst ((bs.map vr).map V.str))∧(∀(j:Nat) (t:Addr) (b:Int×Int),ts[j]?=some t→bs[j]?=some b→H' t=some (.tup [.int b.1,.int b.2]))∧aq H H':=⟨_,rfl⟩
  refine⟨true,⟨_,aL.of ae⟩,ky (l:=true) (us:=(bs.map vr).map V.str) Pv
   (by rw [hPv];exact⟨[],[],none,none,none,rfl,by simp,rfl,s3 _ _ hra2,s3 _ _ hru2,ae,fun j t b e=>(by cases e),s2.trans s3⟩) (fun i σ H' _ h=>by rw [hPv]at h;obtain⟨_,_,_,_,_,_,_,_,_,_,h,_⟩:=h;exact aL.of h) ?_ ?_⟩
  ·rintro i y σ H4 p hx hI hp0
   have hI':=hI
   rw [hPv]at hI'
   clear hI
   obtain⟨ts,rs,o3,o4,o5,rfl,tl,rfl,ha4,hu4,hs4,ht4,s4⟩:=hI'
   have hi:i < bs.length:=by have:=(List.getElem?_eq_some_iff.mp hx).1;simpa using this
   rw [List.getElem?_map]at hx
   have sp5:aq H4 (upd H4 p (.tup [.int i,y])):=ao hp0
   have hp5:(upd H4 p (.tup [.int i,y])) p=some (.tup [.int i,y]):=ae
   have hv:=hi
   have eb:bs[i]?=some bs[i]:=List.getElem?_eq_getElem hv
   obtain⟨hrow,hle,_⟩:=hb _ (List.getElem_mem hv)
   rw [List.getElem?_map,eb]at hx
   cases hx
   walk_at "rd"
   refine⟨_,cq.of hp5,rfl,?_⟩
   walk_at "rd"
   generalize upd H4 p (.tup [.int i,.str (vr bs[i])])=H5 at sp5 hp5
   refine⟨vr bs[i],rfl,by have:=hrow.len;omega,.inl ⟨_,_,hrow,hle,fun t H6 ht6 s56=>?_⟩⟩
   have s46:=sp5.trans s56
   walk_at "rd"
   refine⟨_,.inl (aL.of (s46 _ _ ha4)),?_⟩
   rw [if_pos (by rw [List.length_map];omega)]
   refine⟨_,.inl (aL.of (s46 _ _ hu4)),?_⟩
   rw [if_pos (by rfl)]
   have ha6:=s46 _ _ ha4
   refine⟨.inl ⟨rfl,_,aL.of ha6⟩,ra,_,_,rfl,rfl,ha6,by rw [List.length_map];omega,?_⟩
   rw [hPv]
   refine⟨ts++[t],[],_,_,_,rfl,by simp;omega,rfl,by rw [ae,List.map_append];rfl,by rw [ai rra];exact s46 _ _ hu4,by rw [ai nsa];exact s46 _ _ hs4,fun j t' b' e1 e2=>?_,fun c u hc=>?_⟩
   ·by_cases hj:j < ts.length
    ·rw [List.getElem?_append_left hj]at e1
     have:=s46 _ _ (ht4 j t' b' e1 e2)
     rw [ai (fW this ha6 (fun e=>by cases e))]
     exact this
    ·rw [List.getElem?_append_right (by omega)]at e1
     have ej:j=ts.length:=by
      have:=(List.getElem?_eq_some_iff.mp e1).1
      simp at this
      omega
     rw [ej,Nat.sub_self]at e1
     cases e1
     rw [show j=i by omega,eb]at e2
     cases e2
     rw [ai (fW ht6 ha6 (fun e=>by cases e))]
     exact ht6
   ·rw [ai (aj hc hra)]
    exact(s4.trans s46) _ _ hc
  ·intro σ H4 hI
   rw [hPv]at hI
   obtain⟨ts,rs,o3,o4,o5,rfl,tl,rfl,ha4,hu4,hs4,ht4,s4⟩:=hI
   rw [List.length_map,List.length_map]at tl
   exact hu _ _ ⟨ts,[],o3,o4,o5,rfl,by omega,rfl,ha4,hu4,ht4,s4⟩
 clear hra2 hru2 s2
 clear H2
 rintro _ H2 ⟨ts,rs,o3,o4,o5,rfl,tl,rfl,ha2,jW,ht2,s2⟩
 walk_at "rd"
 intro x dx hx hdx dxx
 have s3:aq H2 (upd (upd H2 dx (.own x)) x (.ins C dx [])):=(ao hdx).upd (by rw [ai dxx.symm];exact hx)
 refine⟨x,dx,ra,ru,ts.map V.ref,[],rfl,ae,s3.seq (aL.of ha2),s3.seq (aL.of jW),fun p q' H' hp hq hqp e=>⟨rfl,?_⟩⟩
 have px:p≠x:=fun e=>by subst e;rw [ae]at hp;cases hp
 have qx:q'≠x:=fun e=>by subst e;rw [ae]at hq;cases hq
 have s4:aq H2 H':=fun c u hc=>by
  have h3:=s3 _ _ hc
  have cx:c≠x:=aj hc hx
  rw [e,ai cx,ai (aj h3 hq),ai (aj h3 hp)]
  exact h3
 have SA:gG P w K mg base C bs.length bs [] [] x H':=⟨dx,p,q',[],by rw [e,ae],⟨ts,aL.of (by rw [e,ai px,ai hqp.symm,ae]),tl,fun i t b e1 e2=>cq.of (s4 _ _ (ht2 i t b e1 e2))⟩,⟨aL.of (by rw [e,ai qx,ae];rfl),rfl,rfl,fun j r S G e1=>(by cases e1)⟩⟩
 exact⟨x,bs.length,bs,[],[],rfl,SA,by omega,by simp,fun b hb'=>(hb b hb').2.2,fun S hS=>(by cases hS),hwt,q1 x H' SA (s2.trans s4)⟩
end
local macro_rules | `(tactic| walk_at "rd") => `(tactic| (try dsimp only [↓aS, ↓aR, ↓aw, ↓aD, ↓aE, ↓aF, ↓aG, ↓aH, ↓ax, ↓ay, j5, jM, jI, jU, cD, cC, eQ, cA, eR, cB, du, cI, eL, cc, tC, jE, lu, fc, fJ, dn, c8, j4, cE, c7, fe, fC, lj, fG, lh, lq, a0, L2.start, List.map_cons, List.map_nil, List.length_cons, List.length_nil, List.replicate, List.cons_append, List.nil_append, List.set_cons_zero, List.set_cons_succ, aS, aR, aw, aD, aE, aF, aG, aH, ax, ay]) <;> (try simp only [↓aS, ↓aR, ↓aw, ↓aD, ↓aE, ↓aF, ↓aG, ↓aH, ↓ax, ↓ay, ↓uh, ↓ui, j5, jM, jI, jU, cD, cC, eQ, cA, eR, cB, du, cI, eL, cc, jw, tC, jE, lu, fc, e8, fJ, dn, c8, j4, cE, c7, fe, fC, lj, fG, fE, iP, fH, lh, lq, fP, a0, tE, k8, jg, gq, jG, jO, rI, rU, L2.start, bC, bD, br, bA, bB, bE, bF, bG, bt, cW, dQ, cP, cT, cQ, bS, bX, bT, bY, bR, bW, cU, cO, cS, cR, bo, List.map_cons, List.map_nil, List.length_cons, List.length_nil, List.replicate, List.cons_append, List.nil_append, List.append_nil, List.getElem?_cons_zero, List.getElem?_cons_succ, List.set_cons_zero, List.set_cons_succ, Option.some.injEq, fk, gL, bI, dm, dj, V.int.injEq, V.str.injEq, V.bl.injEq, V.ref.injEq, V.ty.injEq, List.cons.injEq, and_true, true_and, rf, gu, gv, eP, fY, hZ, f6, gy, gO, dy, d0, gr, cG, eY, jJ, gN, eO, eA, km, cX, cY, jH, gx, eX, fF, jR, jP, fZ, iO, bU, bZ, bV, b0, dw, c6, jQ, Int.zero_add, if_true, Bool.false_eq_true, if_false, cσ, List.getD_cons_zero, List.getD_cons_succ, di, fj, gJ, decide_eq_true_eq, reduceCtorEq, false_and, dk, false_or, or_false, gK, List.length_map, jS, jT, tP, ll, cL, dR, Bool.not_eq_true', ke, ite_not, aS, aR, aw, aD, aE, aF, aG, aH, ax, ay]) <;> try simp only [cb, bP, bO, dJ, dP, bJ, bK, cM, cN, bQ, bI, dm, dj, di, and_true, true_and, V.int.injEq, V.str.injEq, V.bl.injEq, V.ref.injEq, reduceCtorEq, false_and, dk, false_or, or_false])
local macro_rules | `(tactic| walk_at "flds") => `(tactic| simp only [aV, aZ, String.reduceEq, if_false, if_true, List.lookup])
def rz:Option Int→V
 | none=>.non
 | some i=>.int i
def jy(us:List Int)(ws:List (Option Int)):Bool:=(us.zip ws).all fun p=>decide (p.2=none) || decide (p.2=some p.1)
def kS(K:PySem.W.Frag):Sp:=fun vs H Q _=>∃(a b:Addr) (us:List Int) (ws:List (Option Int)),vs=[.ref a,.ref b]∧cq K H a (us.map V.int)∧cq K H b (ws.map rz)∧us.length=ws.length∧us.length≤100∧∀H',aq H H'→Q (.bl (jy us ws)) H'
theorem j6.same{P:Program}{w:World}{Ss:List bh}{cols:List (List Int)}{la wa:Addr}{H H':Hp}{met:List MS}(h:j6 P w Ss cols la wa H met)(s:aq H H'):j6 P w Ss cols la wa H' met:=by
 obtain⟨ds,h2,h3,h4,h5⟩:=h
 exact⟨ds,s _ _ h2,h3,s _ _ h4,fun i d t e1 e2=>let ⟨xs,g1,g2⟩:=h5 i d t e1 e2;⟨xs,g1.same s,g2⟩⟩
def iS(P:Program)(w:World)(K:PySem.W.Frag)(C Cs:Addr)(bs:List (Int×Int))(Ss:List bh)(met:List MS)(x:Addr)(H:Hp):Prop:=∃dx la wa sc dsc ra rb:Addr,H x=some (.ins C dx (bc la wa sc))∧j6 P w Ss (aB bs) la wa H met∧H sc=some (.ins Cs dsc (da ra rb))∧cz K H ra bs
theorem iS.same{P:Program}{w:World}{K:PySem.W.Frag}{C Cs:Addr}{bs:List (Int×Int)}{Ss:List bh}{met:List MS}{x:Addr}{H H':Hp}(h:iS P w K C Cs bs Ss met x H)(s:aq H H'):iS P w K C Cs bs Ss met x H':=by
 obtain⟨dx,la,wa,sc,dsc,ra,rb,h1,h2,h3,h4⟩:=h
 exact⟨dx,la,wa,sc,dsc,ra,rb,s _ _ h1,h2.same s,s _ _ h3,h4.same s⟩
theorem iS.at_{P:Program}{w:World}{K:PySem.W.Frag}{C Cs:Addr}{bs:List (Int×Int)}{Ss:List bh}{met:List MS}{x:Addr}{H:Hp}(h:iS P w K C Cs bs Ss met x H):gb P w C Ss (aB bs) met x H:=by
 obtain⟨dx,la,wa,sc,dsc,ra,rb,h1,h2,h3,h4⟩:=h
 exact⟨dx,la,wa,sc,h1,h2⟩
def kW(P:Program)(w:World)(C:Addr):Sp:=fun vs H Q _=>∃(x:Addr) (Ss:List bh) (cols:List (List Int)) (met:List MS),vs=[.ref x]∧gb P w C Ss cols met x H∧met.length≤1000∧∀l H',H l=none→H' l=some (.lst ((intsFrom 0 met.length).map V.int))→aq H H'→Q (.ref l) H'
structure tW(Ss:List bh)(cols:List (List Int))(met:List MS)(s:MS)(L:List (List Int×Nat)):Prop where
 ks:L.map (·.1)=cols.filter fun c=>(bH Ss s c).isSome
 to:∀e∈L,∃s',bH Ss s e.1=some s'∧met[e.2]?=some s'
def j8(H:Hp)(p:Addr)(L:List (List Int×Nat)):Prop:=∃ts:List Addr,H p=some (.lst (ts.map V.ref))∧ts.length=L.length∧∀(j:Nat) (t:Addr) (e:List Int×Nat),ts[j]?=some t→L[j]?=some e→∃a,H t=some (.tup [.ref a,.int e.2])∧H a=some (.tup (e.1.map V.int))
theorem j8.same{H H':Hp}{p:Addr}{L:List (List Int×Nat)}(h:j8 H p L)(s:aq H H'):j8 H' p L:=by
 obtain⟨ts,h1,h2,h3⟩:=h
 exact⟨ts,s _ _ h1,h2,fun j t e e1 e2=>let ⟨a,g1,g2⟩:=h3 j t e e1 e2;⟨a,s _ _ g1,s _ _ g2⟩⟩
def qE(P:Program)(w:World)(C:Addr):Sp:=fun vs H Q _=>∃(x:Addr) (Ss:List bh) (cols:List (List Int)) (met:List MS) (i:Nat) (s:MS),vs=[.ref x,.int i]∧gb P w C Ss cols met x H∧met[i]?=some s∧∀p L H',H p=none→j8 H' p L→tW Ss cols met s L→aq H H'→Q (.ref p) H'
theorem xM{κ:Type}[DecidableEq κ]{xs:List (κ×Addr×V)}(nd:(xs.map (·.1)).Nodup){e:κ×Addr×V}(he:e∈xs):eN xs e.1=some e.2.2:=by
 unfold eN
 induction xs with
 | nil=>cases he
 | cons x xs ih=>
  rw [List.map_cons]at nd
  have hn:=List.nodup_cons.mp nd
  rw [List.find?_cons]
  by_cases hx:x.1=e.1
  ·rw [decide_eq_true hx]
   rcases List.mem_cons.mp he with rfl | he
   ·rfl
   ·exact absurd (List.mem_map.mpr ⟨e,he,hx.symm⟩) hn.1
  ·rw [decide_eq_false hx]
   rcases List.mem_cons.mp he with rfl | he
   ·exact absurd rfl hx
   ·exact ih hn.2 he
def vN:V→Nat
 | .int j=>j.toNat
 | _=>0
def iK(P:Program)(w:World)(K:PySem.W.Frag)(C Cs:Addr):Sp:=fun vs H Q _=>∃(x g:Addr) (bs:List (Int×Int)) (Ss:List bh) (met:List MS) (ws:List (Option Int)),vs=[.ref x,.ref g]∧iS P w K C Cs bs Ss met x H∧cq K H g (ws.map rz)∧ws.length=bs.length∧bs.length≤4∧(∀b∈bs,1≤wN b)∧ix bs≤400∧
 ∀p xs H',H p=none→aP (n9 P w) H' p xs→(∀c,(eN xs c).isSome=true↔c∈aB bs∧jy c ws=true)→aq H H'→Q (.ref p) H'
def hR(P:Program)(w:World)(K:PySem.W.Frag):Sp:=fun vs H Q _=>∃(y t l:Addr) (L:List (List Int×Nat)) (xs:List (List Int×Addr×V)) (rs:List Int),vs=[.ref y,.ref t,.ref l]∧j8 H y L∧L.length≤1000∧aP (n9 P w) H t xs∧H l=some (.lst (rs.map V.int))∧(∀e∈L,e.2 < rs.length)∧∀H',aq H H'→Q (.int ((L.filter fun e=>(eN xs e.1).isSome).map fun e=>rs.getD e.2 0).sum) H'
def gA(Ss:List bh)(cols:List (List Int)):List (List (Option Int))→MS→Int
 | [],s=>if c9 Ss s.2 s.1 then 1 else 0
 | g::gs,s=>((cols.filter fun c=>jy c g && (bH Ss s c).isSome).map fun c=>match bH Ss s c with | some s'=>gA Ss cols gs s' | none=>0).sum
def lY(K:PySem.W.Frag)(H:Hp)(p:Addr)(pats:List (List (Option Int))):Prop:=∃gs:List Addr,aL K H p (gs.map V.ref)∧gs.length=pats.length∧∀(i:Nat) (g:Addr) (ws:List (Option Int)),gs[i]?=some g→pats[i]?=some ws→cq K H g (ws.map rz)
theorem lY.same{K:PySem.W.Frag}{H H':Hp}{p:Addr}{pats:List (List (Option Int))}(h:lY K H p pats)(s:aq H H'):lY K H' p pats:=by
 obtain⟨gs,h1,h2,h3⟩:=h
 exact⟨gs,s.seq h1,h2,fun i g ws e1 e2=>s.tup (h3 i g ws e1 e2)⟩
def ip(Ss:List bh)(cols:List (List Int))(met:List MS)(gs:List (List (Option Int))):List Int:=met.map (gA Ss cols gs)
def fg(H:Hp)(p:Addr)(rows:List (List Int)):Prop:=∃qs:List Addr,H p=some (.lst (qs.map V.ref))∧qs.length=rows.length∧∀(i:Nat) (q:Addr) (r:List Int),qs[i]?=some q→rows[i]?=some r→H q=some (.lst (r.map V.int))
structure xH(Ss:List bh)(bs:List (Int×Int))(met:List MS):Prop where
 lb:bs.length≤4
 wd:∀b∈bs,1≤wN b
 cn:ix bs≤400
 ml:met.length≤1000
def nS(P:Program)(w:World)(K:PySem.W.Frag)(C Cs:Addr):Sp:=fun vs H Q _=>∃(x pt:Addr) (bs:List (Int×Int)) (Ss:List bh) (met:List MS) (pats:List (List (Option Int))),vs=[.ref x,.ref pt]∧iS P w K C Cs bs Ss met x H∧xH Ss bs met∧lY K H pt pats∧(∀ws∈pats,ws.length=bs.length)∧pats.length≤1000∧
 ∀p H',H p=none→fg H' p ((List.range (pats.length+1)).map fun(i:Nat)=>ip Ss (aB bs) met (pats.drop i))→aq H H'→Q (.ref p) H'
def jt(P:Program)(w:World)(K:PySem.W.Frag)(C Cs:Addr):Sp:=fun vs H Q _=>∃(x pt:Addr) (bs:List (Int×Int)) (Ss:List bh) (met:List MS) (pats:List (List (Option Int))) (s0:MS),vs=[.ref x,.ref pt]∧iS P w K C Cs bs Ss met x H∧xH Ss bs met∧lY K H pt pats∧(∀ws∈pats,ws.length=bs.length)∧pats.length≤1000∧met[0]?=some s0∧∀H',aq H H'→Q (.int (gA Ss (aB bs) pats s0)) H'
section
variable {P:Program} {w:World} {K:PySem.W.Frag} {mg:Str→Option Value} {base:Heap} {aM:Addr}
theorem sM{f:Addr}{fd:FuncData}(F:f9 K "agrees" "agrees" kL f fd)(T:Txt mg aM):bj P w K mg base fK 1 f fd ["column","given"] (kS K):=by
 refine F.ok tq (fun vs H Q E h=>?_) (fun cdv A outer s H vs Q E hr h=>?_)
 ·obtain⟨a,b,us,ws,rfl,_⟩:=h
  rfl
 obtain⟨a,b,us,ws,rfl,ha,hb,hl,hn,k⟩:=h
 refine⟨_,(ak (aQ (aJ (ib K rfl) (by rfl) T.n_all boot_all (aa (dW (own:=["note","wanted"]) (js:=[]) rfl (uU rfl T.n_zip (aa (pr 0) (aa (pr 1) af))) (bf.of (by rfl)) (fun _ _ _ _ _=>(eE K (n:=2) rfl (aW (aC (i:=0) (show List.Nodup (["note","wanted"]:List Str)from by decide +kernel) rfl (Or.inl rfl)) (aW (aC (i:=1) (show List.Nodup (["note","wanted"]:List Str)from by decide +kernel) rfl (Or.inl rfl)) eF)))) (fun _ _ _ _ _=>dY) (fun _ _ _ _ _=>(xC (xE (dU ng (pr 1) eS (aT _)) (nk (dU uE (pr 1) (pr 0) (aT _))))))) af)))),?_⟩
 have hs:sizeLine=16777216:=sizeLine_eq
 walk_at "rd"
 refine⟨false,⟨_,ha⟩,false,⟨_,hb⟩,?_⟩
 refine md (us:=us.map V.int) (vs:=ws.map rz) (fun i ys H'=>ys=(((us.zip ws).take i).map fun p=>decide (p.2=none) || decide (p.2=some p.1)).map V.bl∧aq H H') (by rw [List.length_map];omega) (by rw [List.length_map,List.length_map,hl]) ⟨rfl,aq.refl H⟩ ?_ ?_ ?_ ?_
 ·rintro i ys H' ⟨rfl,sm⟩
  rw [List.length_map,List.length_map,List.length_take]
  omega
 ·rintro i ys H' ⟨rfl,sm⟩
  exact⟨sm.tup ha,sm.tup hb⟩
 ·rintro i x y ys H' p hx hy ⟨rfl,sm⟩ hp
  rw [List.getElem?_map]at hx hy
  cases hu:us[i]? with
  | none=>rw [hu]at hx;cases hx
  | some n=>
   cases hw:ws[i]? with
   | none=>rw [hw]at hy;cases hy
   | some o=>
    rw [hu]at hx
    rw [hw]at hy
    cases hx
    cases hy
    walk_at "rd"
    refine⟨_,cq.of ae,rfl,_,_,rfl,_,_,rfl,rfl,?_⟩
    have hz:(us.zip ws)[i]?=some (n,o):=List.getElem?_zip_eq_some.mpr ⟨hu,hw⟩
    have et:(us.zip ws).take (i+1)=(us.zip ws).take i++[(n,o)]:=by rw [List.take_add_one,hz];rfl
    rw [et,List.map_append,List.map_append]
    cases o with
    | none=>
     rw [if_pos (show rz none=V.non from rfl)]
     exact⟨rfl,sm.upd hp⟩
    | some m=>
     rw [if_neg (fun e=>by cases e)]
     refine rEq_ii.mpr ⟨?_,sm.upd hp⟩
     simp
 ·rintro ys H' ⟨rfl,sm⟩ p hp
  refine⟨_,aL.of ae,?_⟩
  rw [List.length_map,List.all_map,List.take_of_length_le (by rw [List.length_zip];omega)]
  exact k _ (sm.upd hp)
theorem sQ{f C:Addr}{fd:FuncData}(F:f9 K "states" "States.states" eW f fd)(T:Txt mg aM)(TC:eB K C):bj P w K mg base fK 1 f fd ["self"] (kW P w C):=by
 refine F.ok jq (fun vs H Q E h=>?_) (fun cdv A outer s H vs Q E hr h=>?_)
 ·obtain⟨x,Ss,cols,met,rfl,_⟩:=h
  rfl
 obtain⟨x,Ss,cols,met,rfl,⟨dx,la,wa,sc,hx,ds,h1,h2,h3,h4⟩,ml,k⟩:=h
 refine⟨_,(ak (aQ (sV rfl (by rfl) T.n_list (by rfl) T.n_range (aa (aJ (aU K) (by rfl) T.n_len boot_len (aa (dD (pr 0) rfl) af)) af)))),?_⟩
 walk_at "rd"
 refine⟨C,dx,_,hx,TC.cl,TC.n1,_,fV la wa sc,?_⟩
 exact .inr ⟨la,rfl,_,.inl (aL.of h1),by rw [List.length_map,h2];omega,fun l hl=>k l _ hl (by rw [ae,List.length_map,h2,Int.toNat_natCast]) (ao hl)⟩
theorem wC{f C:Addr}{fd:FuncData}(F:f9 K "ways" "States.ways" fR f fd)(T:Txt mg aM)(TC:eB K C):bj P w K mg base fK 1 f fd ["self","state"] (qE P w C):=by
 refine F.ok kQ (fun vs H Q E h=>?_) (fun cdv A outer s H vs Q E hr h=>?_)
 ·obtain⟨x,Ss,cols,met,i,s,rfl,_⟩:=h
  rfl
 obtain⟨x,Ss,cols,met,i,st,rfl,⟨dx,la,wa,sc,hx,ds,h1,h2,h3,h4⟩,hst,k⟩:=h
 refine⟨_,(ak (aQ (uR (kk':=n9 P w) rfl (by rfl) T.n_list (bu (dC K) (dD (pr 0) rfl) (pr 1) (fun _ _=>rfl))))),?_⟩
 walk_at "rd"
 obtain⟨d,hd⟩:∃d,ds[i]?=some d:=⟨_,List.getElem?_eq_getElem (by rw [h2];exact(List.getElem?_eq_some_iff.mp hst).1)⟩
 obtain⟨xs,D,Lk⟩:=h4 i d st hd hst
 refine⟨C,dx,_,hx,TC.cl,TC.n1,_,fV la wa sc,eZ (aL.of h1) (bq (by rw [List.getElem?_map,hd];rfl)) ?_⟩
 refine⟨d,rfl,xs,D,fun p ts H2 hp0 hp2 tl ht s2=>?_⟩
 have val:∀e∈xs,∃(j:Nat) (s':MS),e.2.2=.int j∧bH Ss st e.1=some s'∧met[j]?=some s':=fun e he=>by
  have hk:e.1∈cols.filter fun c=>(bH Ss st c).isSome:=by rw [←Lk.2.2];exact List.mem_map.mpr ⟨e,he,rfl⟩
  obtain⟨hc,hn⟩:=List.mem_filter.mp hk
  obtain⟨s',hs'⟩:=Option.isSome_iff_exists.mp hn
  obtain⟨j,g1,g2⟩:=Lk.1 e.1 hc s' hs'
  rw [xM D.nd he]at g2
  exact⟨j,s',Option.some.inj g2,hs',g1⟩
 refine k p (xs.map fun e=>(e.1,vN e.2.2)) H2 hp0 ⟨ts,hp2,by rw [tl,List.length_map],fun j t e e1 e2=>?_⟩ ⟨by rw [List.map_map,←Lk.2.2];rfl,fun e he=>?_⟩ s2
 ·rw [List.getElem?_map]at e2
  cases hx2:xs[j]? with
  | none=>rw [hx2]at e2;cases e2
  | some z=>
   rw [hx2]at e2
   cases e2
   have hz:=List.mem_of_getElem? hx2
   obtain⟨j',s',v1,v2,v3⟩:=val z hz
   refine⟨z.2.1,?_,s2 _ _ (D.ks z hz)⟩
   have:=(ht j t z e1 hx2).2
   rw [v1]at this
   show H2 t=some (.tup [.ref z.2.1,.int ((vN z.2.2:Nat):Int)])
   rw [v1]
   exact this
 ·obtain⟨z,hz,rfl⟩:=List.mem_map.mp he
  obtain⟨j',s',v1,v2,v3⟩:=val z hz
  exact⟨s',v2,by show met[vN z.2.2]?=_;rw [v1];exact v3⟩
theorem oV{f C Cs:Addr}{fd:FuncData}(F:f9 K "agreeing" "agreeing" iH f fd)(T:Txt mg aM)(TC:eB K C)(TS:dG K Cs)(D_columns:eC P w K mg base "columns" 3 ["score"] (fX K Cs))(D_agrees:eC P w K mg base "agrees" 3 ["column","given"] (kS K)):bj P w K mg base fK 4 f fd ["machine","given"] (iK P w K C Cs):=by
 refine F.ok sc_agreeing (fun vs H Q E h=>?_) (fun cdv A outer s H vs Q E hr h=>?_)
 ·obtain⟨x,g,bs,Ss,met,ws,rfl,_⟩:=h
  rfl
 obtain⟨x,g,bs,Ss,met,ws,rfl,MX,hg,hl,lb,hw,hc,k⟩:=h
 refine⟨_,(ag (az (i:=2) sc_agreeing.nd rfl (Or.inl rfl) (rB (kk':=n9 P w)))
 (ag (dX PassesOwn.never rfl (cu K (aO D_columns hr (by rfl) (aa (dD (pr 0) rfl) af))) (aC (i:=3) sc_agreeing.nd rfl (Or.inl rfl))
 (ak (eJ (eK (aO D_agrees hr (by rfl) (aa (pr 3) (aa (pr 1) af))) (fun _=>rfl)) (ak (jm oX (nu (pr 2) (pr 3) (yF (kk':=n9 P w) (jW hr))))) dh)))
 (ak (aQ (pr 2))))),?_⟩
 have hs:sizeLine=16777216:=sizeLine_eq
 refine ba (fun σ H'=>∃p:Addr,H p=none∧aP (n9 P w) H' p []∧σ=[some (.ref x),some (.ref g),some (.ref p),none]∧aq H H') ?_ ?_
 rotate_left
 ·intro u' hu
  walk_at "rd"
  exact fun p hp=>hu _ _ ⟨p,hp,⟨ae,(fun _ h=>nomatch h),List.nodup_nil,Nat.zero_le _⟩,rfl,ao hp⟩
 rintro _ H1 ⟨p,hp,D1,rfl,s1⟩
 obtain⟨dx,la,wa,sc,dsc,ra,rb,hx,MB,hsc,RA⟩:=MX.same s1
 refine ba (fun σ H'=>∃(xs:List (List Int×Addr×V)) (o3:Option V),aP (n9 P w) H' p xs∧(∀c,(eN xs c).isSome=true↔c∈aB bs∧jy c ws=true)∧σ=[some (.ref x),some (.ref g),some (.ref p),o3]∧aq H H') ?_ ?_
 rotate_left
 ·intro u' hu
  walk_at "rd"
  refine⟨C,dx,_,hx,TC.cl,TC.n3,_,oO la wa sc,sc,dsc,ra,rb,bs,rfl,hsc,RA,lb,hw,hc,fun q H2 hq0 hC s2=>?_⟩
  obtain⟨ps,hq,hT⟩:=hC
  have cl:=eh bs
  have D2:=D1.same s2
  obtain⟨Pv,hPv⟩:∃Pv:Nat→L2.St→Hp→Prop,Pv=fun i σ H'=>∃(xs:List (List Int×Addr×V)) (o3:Option V),aP (n9 P w) H' p xs∧xs.length≤i∧(∀c,(eN xs c).isSome=true↔c∈(aB bs).take i∧jy c ws=true)∧lZ [p] H2 H'∧σ=[some (.ref x),some (.ref g),some (.ref p),o3]:=⟨_,rfl⟩
  have nq:q∉[p]:=by
   rw [List.mem_singleton]
   exact(aj D1.ob hq0).symm
  refine cH (aL.of hq) (el (xs:=ps.map V.ref) Pv (by rw [hPv];exact⟨[],none,D2,Nat.zero_le _,fun c=>by simp [eN],fun _ _ _ e=>e,rfl⟩) (fun i σ H' _ h=>by rw [hPv]at h;obtain⟨_,_,_,_,_,sx,_⟩:=h;exact aL.of (sx q _ nq hq)) ?_ ?_)
  ·rintro i y σ H3 hy hI
   rw [hPv]at hI
   obtain⟨xs,o3,D3,xl,hxs,sx,rfl⟩:=hI
   rw [List.getElem?_map]at hy
   cases hpi:ps[i]? with
   | none=>rw [hpi]at hy;cases hy
   | some ca=>
    rw [hpi]at hy
    cases hy
    have hi:i < (aB bs).length:=by rw [←hT.1];exact(List.getElem?_eq_some_iff.mp hpi).1
    obtain⟨c,hci⟩:∃c,(aB bs)[i]?=some c:=⟨_,List.getElem?_eq_getElem hi⟩
    have hca:=hT.2 i ca c hpi hci
    have nca:ca∉[p]:=by
     rw [List.mem_singleton]
     exact fW hca D2.ob (fun e=>by cases e)
    have hca3:=sx ca _ nca hca
    have et:(aB bs).take (i+1)=(aB bs).take i++[c]:=by rw [List.take_add_one,hci];rfl
    have cw:=fN bs c (List.mem_of_getElem? hci)
    have s03:aq H H3:=fun b o e=>sx b o (by rw [List.mem_singleton];exact aj e hp) (s2 _ _ (s1 _ _ e))
    have hg3:cq K H3 g (ws.map rz):=s03.tup hg
    walk_at "rd"
    refine⟨ca,g,c,ws,rfl,cq.of hca3,hg3,by omega,by omega,fun H4 s4=>⟨_,rfl,?_⟩⟩
    have D4:=D3.same s4
    have sx4:lZ [p] H2 H4:=fun b o hb e=>s4 _ _ (sx b o hb e)
    by_cases hag:jy c ws=true
    ·rw [if_pos hag]
     refine⟨p,ca,c,xs,rfl,rfl,D4,s4 _ _ hca3,?_⟩
     rw [hPv]
     refine⟨_,_,D4.put (s4 _ _ hca3) (by omega),?_,fun c'=>?_,fun b o hb e=>?_,rfl⟩
     ·unfold ee
      split
      ·rw [List.length_map]
       omega
      ·rw [List.length_append]
       simp
       omega
     ·rw [et]
      by_cases e:c'=c
      ·subst e
       rw [gc]
       simp [hag]
      ·rw [fh e,hxs c',List.mem_append,List.mem_singleton]
       simp [e]
     ·rw [List.mem_singleton]at hb
      rw [ai hb]
      exact sx4 b o (by rw [List.mem_singleton];exact hb) e
    ·rw [if_neg hag,hPv]
     refine⟨xs,_,D4,by omega,fun c'=>?_,sx4,rfl⟩
     rw [et,hxs c',List.mem_append,List.mem_singleton]
     constructor
     ·rintro⟨h1,h2⟩
      exact⟨.inl h1,h2⟩
     ·rintro⟨h1 | h1,h2⟩
      ·exact⟨h1,h2⟩
      ·rw [h1]at h2
       exact absurd h2 hag
  ·rintro σ H3 hI
   rw [hPv]at hI
   obtain⟨xs,o3,D3,xl,hxs,sx,rfl⟩:=hI
   rw [List.length_map,hT.1,List.take_length]at hxs
   refine hu _ _ ⟨xs,o3,D3,hxs,rfl,fun b o e=>sx b o ?_ (s2 _ _ (s1 _ _ e))⟩
   rw [List.mem_singleton]
   exact aj e hp
 rintro _ H2 ⟨xs,o3,D2,hxs,rfl,s2⟩
 walk_at "rd"
 exact k p xs H2 hp D2 hxs s2
end
local macro_rules | `(tactic| walk_at "rd") => `(tactic| (try dsimp only [↓aS, ↓aR, ↓aw, ↓aD, ↓aE, ↓aF, ↓aG, ↓aH, ↓ax, ↓ay, j5, jM, jI, jU, cD, cC, eQ, cA, eR, cB, du, cI, eL, cc, tC, jE, lu, fc, fJ, dn, c8, j4, cE, c7, fe, fC, lj, fG, lh, lq, a0, L2.start, List.map_cons, List.map_nil, List.length_cons, List.length_nil, List.replicate, List.cons_append, List.nil_append, List.set_cons_zero, List.set_cons_succ, aS, aR, aw, aD, aE, aF, aG, aH, ax, ay]) <;> (try simp only [↓aS, ↓aR, ↓aw, ↓aD, ↓aE, ↓aF, ↓aG, ↓aH, ↓ax, ↓ay, ↓uh, ↓ui, j5, jM, jI, jU, cD, cC, eQ, cA, eR, cB, du, cI, eL, cc, jw, tC, jE, lu, fc, e8, fJ, dn, c8, j4, cE, c7, fe, fC, lj, fG, fE, iP, fH, lh, lq, fP, a0, tE, k8, jg, gq, jG, jO, rI, rU, L2.start, bC, bD, br, bA, bB, bE, bF, bG, bt, cW, dQ, cP, cT, cQ, bS, bX, bT, bY, bR, bW, cU, cO, cS, cR, bo, List.map_cons, List.map_nil, List.length_cons, List.length_nil, List.replicate, List.cons_append, List.nil_append, List.append_nil, List.getElem?_cons_zero, List.getElem?_cons_succ, List.set_cons_zero, List.set_cons_succ, Option.some.injEq, fk, gL, bI, dm, dj, V.int.injEq, V.str.injEq, V.bl.injEq, V.ref.injEq, V.ty.injEq, List.cons.injEq, and_true, true_and, rf, gu, gv, eP, fY, hZ, f6, gy, gO, dy, d0, gr, cG, eY, jJ, gN, eO, eA, km, cX, cY, jH, gx, eX, fF, jR, jP, fZ, iO, bU, bZ, bV, b0, dw, c6, jQ, Int.zero_add, if_true, Bool.false_eq_true, if_false, cσ, List.getD_cons_zero, List.getD_cons_succ, di, fj, gJ, decide_eq_true_eq, reduceCtorEq, false_and, dk, false_or, or_false, gK, List.length_map, jS, jT, tP, ll, cL, dR, Bool.not_eq_true', ke, ite_not, aS, aR, aw, aD, aE, aF, aG, aH, ax, ay]) <;> try simp only [cb, bP, bO, dJ, dP, bJ, bK, cM, cN, bQ, bI, dm, dj, di, and_true, true_and, V.int.injEq, V.str.injEq, V.bl.injEq, V.ref.injEq, reduceCtorEq, false_and, dk, false_or, or_false])
local macro_rules | `(tactic| walk_at "flds") => `(tactic| simp only [aV, aZ, String.reduceEq, if_false, if_true, List.lookup])
theorem gP(n:Nat):(L2.intsFrom 0 n).length=n:=by simp [L2.intsFrom]
theorem rh{n i:Nat}{y:V}(h:((L2.intsFrom 0 n).map V.int)[i]?=some y):i < n∧y=.int (i:Int):=by
 have hi:i < n:=by
  have:=(List.getElem?_eq_some_iff.mp h).1
  rw [List.length_map,gP]at this
  exact this
 refine⟨hi,?_⟩
 rw [L2.intsFrom,List.getElem?_map,List.getElem?_map,List.getElem?_range hi]at h
 have:=Option.some.inj h
 rw [←this]
 show V.int (0+(i:Int))=_
 rw [Int.zero_add]
theorem fg.same{H H':Hp}{p:Addr}{rows:List (List Int)}(h:fg H p rows)(s:aq H H'):fg H' p rows:=by
 obtain⟨qs,h1,h2,h3⟩:=h
 exact⟨qs,s _ _ h1,h2,fun i q r e1 e2=>s _ _ (h3 i q r e1 e2)⟩
theorem fg.put{H:Hp}{b p:Addr}{rows:List (List Int)}{r:List Int}(h:fg H b rows)(hp:H p=some (.lst (r.map V.int)))(hpb:p≠b):∃xs:List V,H b=some (.lst xs)∧xs.length=rows.length∧fg (upd H b (.lst (xs++[.ref p]))) b (rows++[r]):=by
 obtain⟨qs,h1,h2,h3⟩:=h
 refine⟨qs.map V.ref,h1,by rw [List.length_map,h2],qs++[p],by rw [ae,List.map_append];rfl,by rw [List.length_append,List.length_append,h2];rfl,fun i q r' e1 e2=>?_⟩
 by_cases hi:i < qs.length
 ·rw [List.getElem?_append_left hi]at e1
  rw [List.getElem?_append_left (by rw [←h2];exact hi)]at e2
  have h4:=h3 i q r' e1 e2
  rw [ai (fun e=>?_)]
  ·exact h4
  ·rw [e,h1]at h4
   cases qs with
   | nil=>cases e1
   | cons z zs=>
    cases r' with
    | nil=>cases h4
    | cons a as=>cases h4
 ·rw [List.getElem?_append_right (by omega)]at e1
  rw [List.getElem?_append_right (by omega),←h2]at e2
  have h0:i - qs.length=0:=by
   have:=(List.getElem?_eq_some_iff.mp e1).1
   simp at this
   omega
  rw [h0]at e1 e2
  cases e1
  cases e2
  rw [ai hpb]
  exact hp
theorem se{Ss:List bh}{cols:List (List Int)}{met:List MS}{s:MS}{L:List (List Int×Nat)}{xs:List (List Int×Addr×V)}{g:List (Option Int)}{gs:List (List (Option Int))}(W:tW Ss cols met s L)(hx:∀c,(eN xs c).isSome=true↔c∈cols∧jy c g=true):
  ((L.filter fun e=>(eN xs e.1).isSome).map fun e=>(ip Ss cols met gs).getD e.2 0).sum=gA Ss cols (g::gs) s:=by
 have e1:((L.filter fun e=>(eN xs e.1).isSome).map fun e=>(ip Ss cols met gs).getD e.2 0)=((L.filter fun e=>(eN xs e.1).isSome).map Prod.fst).map fun c=>match bH Ss s c with | some s'=>gA Ss cols gs s' | none=>0:=by
  rw [List.map_map]
  refine List.map_congr_left fun e he=>?_
  obtain⟨s',h1,h2⟩:=W.to e (List.mem_filter.mp he).1
  show(ip Ss cols met gs).getD e.2 0=match bH Ss s e.1 with | some s'=>gA Ss cols gs s' | none=>0
  rw [h1]
  unfold ip
  rw [List.getD_eq_getElem?_getD,List.getElem?_map,h2]
  rfl
 have e2:(L.filter fun e=>(eN xs e.1).isSome).map Prod.fst=cols.filter fun c=>jy c g && (bH Ss s c).isSome:=by
  have:(L.map Prod.fst).filter (fun c=>(eN xs c).isSome)=(L.filter fun e=>(eN xs e.1).isSome).map Prod.fst:=by rw [List.filter_map];rfl
  rw [←this,W.ks,List.filter_filter]
  refine List.filter_congr fun c hc=>?_
  congr 1
  have:=hx c
  cases h1:(eN xs c).isSome<;>cases h2:jy c g<;>simp_all
 rw [e1,e2]
 rfl
section
variable {P:Program} {w:World} {K:PySem.W.Frag} {mg:Str→Option Value} {base:Heap} {aM:Addr}
theorem lQ{f:Addr}{fd:FuncData}(F:f9 K "counted_on" "counted_on" gi f fd)(T:Txt mg aM):bj P w K mg base fK 3 f fd ["ways","taken","later"] (hR P w K):=by
 refine F.ok lT (fun vs H Q E h=>?_) (fun cdv A outer s H vs Q E hr h=>?_)
 ·obtain⟨y,t,l,L,xs,rs,rfl,_⟩:=h
  rfl
 obtain⟨y,t,l,L,xs,rs,rfl,⟨ts,hy,tl,ht⟩,lL,D,hl,hlt,k⟩:=h
 refine⟨_,(ak (aQ (aJ (rZ rfl K) (by rfl) T.n_sum boot_sum (aa (dW (own:=["column","state"]) (js:=[1,2]) rfl (cu K (pr 0)) (bf.of (by rfl)) (fun _ _ _ _ _=>(eE K (n:=2) rfl (aW (aC (i:=0) (show List.Nodup (["column","state","taken","later"]:List Str)from by decide +kernel) rfl (Or.inl rfl)) (aW (aC (i:=1) (show List.Nodup (["column","state","taken","later"]:List Str)from by decide +kernel) rfl (Or.inl rfl)) eF)))) (fun _ _ _ _ _=>wR (eU (aX (zB (n9 P w) hr) (pr 0) (pr 2) (by with_unfolding_all rfl)))) (fun _ _ _ _ _=>(bu (dC K) (pr 3) (pr 1) (fun _ _=>rfl)))) af)))),?_⟩
 have hs:sizeLine=16777216:=sizeLine_eq
 walk_at "rd"
 refine cH (aL.of hy) (dB (xs:=ts.map V.ref) (fun i ys H'=>ys=(((L.take i).filter fun e=>(eN xs e.1).isSome).map fun e=>rs.getD e.2 0).map V.int∧H=H') (by rw [List.length_map];omega) ⟨rfl,rfl⟩ ?_ ?_ ?_ ?_)
 ·rintro i ys H' ⟨rfl,rfl⟩
  rw [List.length_map,List.length_map]
  exact Nat.le_trans (List.length_filter_le _ _) (by rw [List.length_take];omega)
 ·rintro i ys H' ⟨rfl,rfl⟩
  exact aL.of hy
 ·rintro i v ys H' hv ⟨rfl,rfl⟩
  rw [List.getElem?_map]at hv
  cases hti:ts[i]? with
  | none=>rw [hti]at hv;cases hv
  | some tt=>
   rw [hti]at hv
   cases hv
   obtain⟨e,he⟩:∃e,L[i]?=some e:=⟨_,List.getElem?_eq_getElem (by rw [←tl];exact(List.getElem?_eq_some_iff.mp hti).1)⟩
   obtain⟨a,h1,h2⟩:=ht i tt e hti he
   have et:L.take (i+1)=L.take i++[e]:=by rw [List.take_add_one,he];rfl
   simp only [fi]
   walk_at "rd"
   refine⟨_,cq.of h1,rfl,_,_,rfl,_,_,rfl,rfl,t,a,e.1,xs,rfl,rfl,D,h2,_,rfl,?_⟩
   rw [et,List.filter_append,List.map_append,List.map_append]
   by_cases hin:(eN xs e.1).isSome=true
   ·rw [if_pos hin]
    have he2:=hlt e (List.mem_of_getElem? he)
    have e2:rs[e.2]?=some rs[e.2]:=List.getElem?_eq_getElem he2
    refine eZ (aL.of hl) (bq (by rw [List.getElem?_map,e2];rfl)) ⟨?_,rfl⟩
    rw [List.filter_cons,if_pos hin]
    simp [e2]
   ·rw [if_neg hin]
    refine⟨?_,rfl⟩
    rw [List.filter_cons,if_neg hin]
    simp
 ·rintro ys H' ⟨rfl,rfl⟩ p hp
  rw [List.length_map,tl,List.take_length]
  exact⟨_,aL.of ae,k _ (ao hp)⟩
theorem uJ{f C Cs:Addr}{fd:FuncData}(F:f9 K "counts_paper" "counts_paper" fw f fd)(T:Txt mg aM)(TC:eB K C)(D_agreeing:eC P w K mg base "agreeing" 4 ["machine","given"] (iK P w K C Cs))(D_counted_on:eC P w K mg base "counted_on" 4 ["ways","taken","later"] (hR P w K))(M_states:cK P w K mg base C "states" 4 ["self"] (kW P w C))(M_ways:cK P w K mg base C "ways" 4 ["self","state"] (qE P w C))(M_ends:cK P w K mg base C "ends" 4 ["self","state"] (qD P w C)):bj P w K mg base fK 5 f fd ["machine","pattern"] (nS P w K C Cs):=by
 refine F.ok sc_counts_paper (fun vs H Q E h=>?_) (fun cdv A outer s H vs Q E hr h=>?_)
 ·obtain⟨x,pt,bs,Ss,met,pats,rfl,_⟩:=h
  rfl
 obtain⟨x,pt,bs,Ss,met,pats,rfl,MX,MC,PA,hpl,lp,k⟩:=h
 refine⟨_,(ag (az (i:=2) sc_counts_paper.nd rfl (Or.inl rfl) (cg (aa (dW (own:=["state"]) (js:=[0]) rfl (cu K (ij P w K mg base hr (pr 0))) (bf.of (by rfl)) (fun _ _ _ _ _=>(aC (i:=0) (show List.Nodup (["state","machine"]:List Str)from by decide +kernel) rfl (Or.inl rfl))) (fun _ _ _ _ _=>dY) (fun _ _ _ _ _=>(kF (sX K (gW P w K mg base hr (pr 1) (aa (pr 0) af)) (fun _=>rfl)) ah ah))) af)))
 (ag (dX PassesOwn.never rfl (wO K (by rfl) T.n_reversed (aa (pr 1) af)) (aC (i:=3) sc_counts_paper.nd rfl (Or.inl rfl))
 (ag (az (i:=4) sc_counts_paper.nd rfl (Or.inr rfl) (aO D_agreeing hr (by rfl) (aa (pr 0) (aa (pr 3) af))))
 (ag (az (i:=5) sc_counts_paper.nd rfl (Or.inr rfl) (bu (dC K) (pr 2) (uT (u1 qP) ah) (fun _ _=>rfl)))
 (ak (cv (c5 K PySem.F.plainAttrs_list PySem.F.slot_list_append PySem.F.type_list_append bL (pr 2) (aa (dW (own:=["state"]) (js:=[0,4,5]) rfl (cu K (ij P w K mg base hr (pr 0))) (bf.of (by rfl)) (fun _ _ _ _ _=>(aC (i:=0) (show List.Nodup (["state","machine","taken","later"]:List Str)from by decide +kernel) rfl (Or.inl rfl))) (fun _ _ _ _ _=>dY) (fun _ _ _ _ _=>(aO D_counted_on hr (by rfl) (aa (gW P w K mg base hr (pr 1) (aa (pr 0) af)) (aa (pr 2) (aa (pr 3) af)))))) af)))))))
 (ak (aQ (qk K rfl (by rfl) T.n_list (by rfl) T.n_reversed (aa (pr 2) af)))))),?_⟩
 have hs:sizeLine=16777216:=sizeLine_eq
 have ml:=MC.ml
 have cl:=eh bs
 have cn:=MC.cn
 refine ba (fun σ H'=>∃bw:Addr,H bw=none∧fg H' bw [ip Ss (aB bs) met []]∧σ=[some (.ref x),some (.ref pt),some (.ref bw),none,none,none]∧aq H H') ?_ ?_
 rotate_left
 ·intro u' hu
  walk_at "rd"
  obtain⟨dx,la,wa,sc,hx,MB⟩:=MX.at_
  refine⟨C,dx,_,hx,by unfold bc;walk_at "flds",_,_,M_states,x,Ss,aB bs,met,rfl,MX.at_,ml,fun l H1 hl0 hl s1=>cH (aL.of hl) (dB (xs:=(L2.intsFrom 0 met.length).map V.int) (fun i ys H'=>ys=((met.take i).map (gA Ss (aB bs) [])).map V.int∧H1=H') (by rw [List.length_map,gP];omega) ⟨rfl,rfl⟩ ?_ ?_ ?_ ?_)⟩
  ·rintro i ys H' ⟨rfl,rfl⟩
   rw [List.length_map,List.length_map,List.length_take]
   omega
  ·rintro i ys H' ⟨rfl,rfl⟩
   exact aL.of hl
  ·rintro i y ys H' hy ⟨rfl,rfl⟩
   obtain⟨hi,rfl⟩:=rh hy
   obtain⟨st,hst⟩:∃st,met[i]?=some st:=⟨_,List.getElem?_eq_getElem hi⟩
   simp only [fi]
   walk_at "rd"
   refine⟨C,dx,_,s1 _ _ hx,by unfold bc;walk_at "flds",_,_,M_ends,x,Ss,aB bs,met,i,st,rfl,MX.at_.same s1,hst,_,rfl,?_⟩
   rw [List.take_add_one,hst,List.map_append,List.map_append]
   cases hcl:c9 Ss st.2 st.1 with
   | true=>
    rw [if_pos rfl]
    exact⟨by simp [gA,hcl],rfl⟩
   | false=>
    rw [if_neg (by decide)]
    exact⟨by simp [gA,hcl],rfl⟩
  ·rintro ys H' ⟨rfl,rfl⟩ p hp
   rw [List.length_map,gP,List.take_length]
   refine⟨by omega,fun b hb=>hu _ _ ⟨b,s1.free ((ao hp).free hb),⟨[p],ae,rfl,fun i q r e1 e2=>?_⟩,rfl,(s1.upd hp).upd hb⟩⟩
   have hi:i=0:=by
    have:=(List.getElem?_eq_some_iff.mp e1).1
    simp at this
    exact this
   subst hi
   cases e1
   cases e2
   exact(ao hb) _ _ ae
 rintro _ H1 ⟨bw,hbw,R1,rfl,s1⟩
 refine ba (fun σ H'=>∃o3 o4 o5:Option V,fg H' bw ((List.range (pats.length+1)).map fun(k:Nat)=>ip Ss (aB bs) met (pats.drop (pats.length - k)))∧σ=[some (.ref x),some (.ref pt),some (.ref bw),o3,o4,o5]∧aq H H') ?_ ?_
 rotate_left
 ·intro u' hu
  walk_at "rd"
  obtain⟨gs,hgs,gl,hg⟩:=PA
  obtain⟨Pv,hPv⟩:∃Pv:Nat→L2.St→Hp→Prop,Pv=fun i σ H'=>∃o3 o4 o5:Option V,fg H' bw ((List.range (i+1)).map fun(k:Nat)=>ip Ss (aB bs) met (pats.drop (pats.length - k)))∧σ=[some (.ref x),some (.ref pt),some (.ref bw),o3,o4,o5]∧aq H H':=⟨_,rfl⟩
  refine⟨_,s1.seq hgs,ux (xs:=gs.map V.ref) Pv (by rw [hPv];exact⟨none,none,none,by simpa using R1,rfl,s1⟩) (fun i σ H' _ h=>by rw [hPv]at h;obtain⟨_,_,_,_,_,h⟩:=h;exact h.seq hgs) ?_ ?_⟩
  ·rintro i y σ H2 hy hI
   rw [hPv]at hI
   obtain⟨o3,o4,o5,R2,rfl,s2⟩:=hI
   have hi:i < pats.length:=by
    have:=(List.getElem?_eq_some_iff.mp hy).1
    rw [List.length_reverse,List.length_map]at this
    omega
   rw [List.getElem?_reverse (by rw [List.length_map];omega),List.length_map,List.getElem?_map,gl]at hy
   cases hgi:gs[pats.length - 1 - i]? with
   | none=>rw [hgi]at hy;cases hy
   | some g=>
    rw [hgi]at hy
    cases hy
    obtain⟨ws,hws⟩:∃ws,pats[pats.length - 1 - i]?=some ws:=⟨_,List.getElem?_eq_getElem (by omega)⟩
    have hwl:=hpl ws (List.mem_of_getElem? hws)
    have hgt:=hg _ g ws hgi hws
    have ed:pats.drop (pats.length - (i+1))=ws::pats.drop (pats.length - i):=by
     rw [show pats.length - (i+1)=pats.length - 1 - i by omega,List.drop_eq_getElem_cons (by omega),show pats.length - 1 - i+1=pats.length - i by omega]
     rw [List.getElem?_eq_getElem (by omega)]at hws
     rw [Option.some.inj hws]
    walk_at "rd"
    refine⟨x,g,bs,Ss,met,ws,rfl,MX.same s2,s2.tup hgt,hwl,MC.lb,MC.wd,MC.cn,fun tk xs H3 htk D3 hxs s3=>?_⟩
    obtain⟨qs,hb3,ql,hq3⟩:=R2.same s3
    have ql1:qs.length=i+1:=by rw [ql];simp
    obtain⟨lt,hlt⟩:∃lt,qs[i]?=some lt:=⟨_,List.getElem?_eq_getElem (by omega)⟩
    have hlt3:=hq3 i lt (ip Ss (aB bs) met (pats.drop (pats.length - i))) hlt (by simp)
    have s23:=s2.trans s3
    walk_at "rd"
    refine eZ (aL.of hb3) (rT (n:=i) (by rw [List.length_map,ql1]) (by rw [List.getElem?_map,hlt];rfl)) ?_
    obtain⟨dx,la,wa,sc,hx,MB⟩:=(MX.same s23).at_
    refine⟨.inl ⟨rfl,_,aL.of hb3⟩,C,dx,_,hx,by unfold bc;walk_at "flds",_,_,M_states,x,Ss,aB bs,met,rfl,(MX.same s23).at_,ml,fun l H4 hl0 hl s4=>cH (aL.of hl) (dB (xs:=(L2.intsFrom 0 met.length).map V.int) (fun j ys H'=>ys=((met.take j).map (gA Ss (aB bs) (ws::pats.drop (pats.length - i)))).map V.int∧aq H4 H') (by rw [List.length_map,gP];omega) ⟨rfl,aq.refl _⟩ ?_ ?_ ?_ ?_)⟩
    ·rintro j ys H' ⟨rfl,sm⟩
     rw [List.length_map,List.length_map,List.length_take]
     omega
    ·rintro j ys H' ⟨rfl,sm⟩
     exact sm.seq (aL.of hl)
    ·rintro j y ys H5 hy ⟨rfl,s5⟩
     obtain⟨hj,rfl⟩:=rh hy
     obtain⟨st,hst⟩:∃st,met[j]?=some st:=⟨_,List.getElem?_eq_getElem hj⟩
     have s35:=s4.trans s5
     simp only [fi]
     walk_at "rd"
     refine⟨C,dx,_,s35 _ _ hx,by unfold bc;walk_at "flds",_,_,M_ways,x,Ss,aB bs,met,j,st,rfl,(MX.same (s23.trans s35)).at_,hst,fun yw L H6 _ hW6 W s6=>?_⟩
     have hLl:L.length≤1000:=by
      have h1:L.length=(L.map Prod.fst).length:=by rw [List.length_map]
      have h2:=congrArg List.length W.ks
      have h3:=List.length_filter_le (fun c=>(bH Ss st c).isSome) (aB bs)
      have h4:L.length=(List.filter (fun c=>(bH Ss st c).isSome) (aB bs)).length:=by rw [←h2,List.length_map]
      omega
     refine⟨yw,tk,lt,L,xs,ip Ss (aB bs) met (pats.drop (pats.length - i)),rfl,hW6,hLl,D3.same (s35.trans s6),(s35.trans s6) _ _ hlt3,fun e he=>?_,fun H7 s7=>⟨?_,(s5.trans s6).trans s7⟩⟩
     ·obtain⟨s',_,h2⟩:=W.to e he
      unfold ip
      rw [List.length_map]
      exact(List.getElem?_eq_some_iff.mp h2).1
     ·rw [se W hxs,List.take_add_one,hst,List.map_append,List.map_append]
      rfl
    ·rintro ys H5 ⟨rfl,s5⟩ p hp
     rw [List.length_map,gP,List.take_length]
     have s35:=s4.trans s5
     have R5:fg (upd H5 p (.lst ((met.map (gA Ss (aB bs) (ws::pats.drop (pats.length - i)))).map V.int))) bw ((List.range (i+1)).map fun(k:Nat)=>ip Ss (aB bs) met (pats.drop (pats.length - k))):=(R2.same (s3.trans s35)).same (ao hp)
     have hbp:p≠bw:=fun e=>by
      have:=s35 _ _ hb3
      rw [←e,hp]at this
      cases this
     obtain⟨zs,g1,g2,g3⟩:=R5.put (r:=met.map (gA Ss (aB bs) (ws::pats.drop (pats.length - i)))) ae hbp
     refine⟨bw,zs,_,rfl,rfl,g1,by rw [g2];simp;omega,?_⟩
     rw [hPv]
     refine⟨_,_,_,?_,rfl,xF hbw ((s23.trans s35).upd hp)⟩
     rw [List.range_succ,List.map_append,List.map_cons,List.map_nil,ed]
     exact g3
  ·rintro σ H3 hI
   rw [hPv]at hI
   obtain⟨o3,o4,o5,R2,rfl,s2⟩:=hI
   rw [List.length_map,gl]at R2
   exact hu _ _ ⟨o3,o4,o5,R2,rfl,s2⟩
 rintro _ H2 ⟨o3,o4,o5,⟨qs,hb2,ql,hq2⟩,rfl,s2⟩
 walk_at "rd"
 have ql1:qs.length=pats.length+1:=by rw [ql];simp
 refine⟨_,aL.of hb2,fun l hl=>k l _ (s2.free hl) ⟨qs.reverse,by rw [ae,List.map_reverse],by rw [List.length_reverse,ql];simp,fun i q r e1 e2=>?_⟩ (s2.upd hl)⟩
 have hi:i < pats.length+1:=by
  have:=(List.getElem?_eq_some_iff.mp e1).1
  rw [List.length_reverse]at this
  omega
 rw [List.getElem?_reverse (by omega),ql1]at e1
 rw [List.getElem?_map,List.getElem?_range hi]at e2
 cases e2
 have:=hq2 (pats.length+1 - 1 - i) q (ip Ss (aB bs) met (pats.drop i)) e1 (by
  rw [List.getElem?_map,List.getElem?_range (by omega)]
  show some (ip Ss (aB bs) met (pats.drop (pats.length - (pats.length+1 - 1 - i))))=_
  rw [show pats.length - (pats.length+1 - 1 - i)=i by omega])
 exact(ao hl) _ _ this
theorem qf{f C Cs:Addr}{fd:FuncData}(F:f9 K "counted" "counted" jo f fd)(T:Txt mg aM)(D_counts_paper:eC P w K mg base "counts_paper" 5 ["machine","pattern"] (nS P w K C Cs)):bj P w K mg base fK 6 f fd ["machine","pattern"] (jt P w K C Cs):=by
 refine F.ok qA (fun vs H Q E h=>?_) (fun cdv A outer s H vs Q E hr h=>?_)
 ·obtain⟨x,pt,bs,Ss,met,pats,s0,rfl,_⟩:=h
  rfl
 obtain⟨x,pt,bs,Ss,met,pats,s0,rfl,MX,MC,PA,hpl,lp,h0,k⟩:=h
 refine⟨_,(ak (aQ (bu (dC K) (bu (dC K) (aO D_counts_paper hr (by rfl) (aa (pr 0) (aa (pr 1) af))) ah (fun _ _=>rfl)) (qj T.g_START) (fun _ _=>rfl)))),?_⟩
 walk_at "rd"
 refine⟨x,pt,bs,Ss,met,pats,rfl,MX,MC,PA,hpl,lp,fun p H' hp0 ⟨qs,hp,ql,hq⟩ s1=>?_⟩
 obtain⟨q0,hq0⟩:∃q,qs[0]?=some q:=⟨_,List.getElem?_eq_getElem (by rw [ql];simp)⟩
 have hr:=hq 0 q0 (ip Ss (aB bs) met pats) hq0 (by simp)
 refine eZ (aL.of hp) (show lD _ ((0:Nat):Int)=_ from bq (by rw [List.getElem?_map,hq0];rfl)) (eZ (aL.of hr) (show lD _ ((0:Nat):Int)=_ from bq ?_) (k _ s1))
 unfold ip
 rw [List.getElem?_map,List.getElem?_map,h0]
 rfl
end
local macro_rules | `(tactic| walk_at "rd") => `(tactic| (try dsimp only [↓aS, ↓aR, ↓aw, ↓aD, ↓aE, ↓aF, ↓aG, ↓aH, ↓ax, ↓ay, j5, jM, jI, jU, cD, cC, eQ, cA, eR, cB, du, cI, eL, cc, tC, jE, lu, fc, fJ, dn, c8, j4, cE, c7, fe, fC, lj, fG, lh, lq, a0, L2.start, List.map_cons, List.map_nil, List.length_cons, List.length_nil, List.replicate, List.cons_append, List.nil_append, List.set_cons_zero, List.set_cons_succ, aS, aR, aw, aD, aE, aF, aG, aH, ax, ay]) <;> (try simp only [↓aS, ↓aR, ↓aw, ↓aD, ↓aE, ↓aF, ↓aG, ↓aH, ↓ax, ↓ay, ↓uh, ↓ui, j5, jM, jI, jU, cD, cC, eQ, cA, eR, cB, du, cI, eL, cc, jw, tC, jE, lu, fc, e8, fJ, dn, c8, j4, cE, c7, fe, fC, lj, fG, fE, iP, fH, lh, lq, fP, a0, tE, k8, jg, gq, jG, jO, rI, rU, L2.start, bC, bD, br, bA, bB, bE, bF, bG, bt, cW, dQ, cP, cT, cQ, bS, bX, bT, bY, bR, bW, cU, cO, cS, cR, bo, List.map_cons, List.map_nil, List.length_cons, List.length_nil, List.replicate, List.cons_append, List.nil_append, List.append_nil, List.getElem?_cons_zero, List.getElem?_cons_succ, List.set_cons_zero, List.set_cons_succ, Option.some.injEq, fk, gL, bI, dm, dj, V.int.injEq, V.str.injEq, V.bl.injEq, V.ref.injEq, V.ty.injEq, List.cons.injEq, and_true, true_and, rf, gu, gv, eP, fY, hZ, f6, gy, gO, dy, d0, gr, cG, eY, jJ, gN, eO, eA, km, cX, cY, jH, gx, eX, fF, jR, jP, fZ, iO, bU, bZ, bV, b0, dw, c6, jQ, Int.zero_add, if_true, Bool.false_eq_true, if_false, cσ, List.getD_cons_zero, List.getD_cons_succ, di, fj, gJ, decide_eq_true_eq, reduceCtorEq, false_and, dk, false_or, or_false, gK, List.length_map, jS, jT, tP, ll, cL, dR, Bool.not_eq_true', ke, ite_not, aS, aR, aw, aD, aE, aF, aG, aH, ax, ay]) <;> try simp only [cb, bP, bO, dJ, dP, bJ, bK, cM, cN, bQ, bI, dm, dj, di, and_true, true_and, V.int.injEq, V.str.injEq, V.bl.injEq, V.ref.injEq, reduceCtorEq, false_and, dk, false_or, or_false])
local macro_rules | `(tactic| walk_at "flds") => `(tactic| simp only [aV, aZ, String.reduceEq, if_false, if_true, List.lookup])
def yR(ns:List Int)(k:Int):Int:=ns.getD k.toNat 0
theorem Aq{ns:List Int}{k:Int}(hB:∀x∈ns,x.natAbs < 2 ^ GB):(yR ns k).natAbs < 2 ^ GB:=by
 unfold yR
 rw [List.getD_eq_getElem?_getD]
 cases h:ns[k.toNat]? with
 | none=>exact Nat.pow_pos (by decide)
 | some c=>exact hB c (List.mem_of_getElem? h)
def vh(K:PySem.W.Frag):Sp:=fun vs H Q _=>∃(a:Addr) (ns:List Int) (k:Int),vs=[.ref a,.int k]∧aL K H a (ns.map V.int)∧0≤k∧k≤1000∧Q (.int (yR ns k)) H
def i9:Sp:=fun vs H Q _=>∃(c:Int) (n:Nat),vs=[.int c,.int n]∧n≤200∧∀(q:Addr) (ys:List Int) H',ys.length=n→(∀y∈ys,0≤y∧y < 399999)→H q=none→H' q=some (.lst (ys.map V.int))→aq H H'→Q (.ref q) H'
def mx(b:Int×Int):List Int:=[b.1,b.2]
def xB(b:Int×Int):Prop:=b.1≤b.2∧b.1.natAbs≤10 ^ 36∧b.2 - b.1 < 12
theorem xB.big{b:Int×Int}(h:xB b):b.1≤b.2∧b.1.natAbs < 10 ^ 40∧b.2.natAbs < 10 ^ 40∧(h8 b).natAbs < 2 ^ 200∧1≤wN b:=by
 obtain⟨h1,h2,h3⟩:=h
 have e36:(10:Nat) ^ 36=1000000000000000000000000000000000000:=by decide +kernel
 have e40:(10:Nat) ^ 40=10000000000000000000000000000000000000000:=by decide +kernel
 have e2:(2:Nat) ^ 200=1606938044258990275541962092341162602522202993782792835301376:=by decide +kernel
 rw [e36]at h2
 rw [e40,e2]
 unfold h8 wN
 omega
theorem ef.ranges{K:PySem.W.Frag}{H:Hp}{q:Addr}{bs:List (Int×Int)}(h:ef H q (bs.map mx)):cz K H q bs:=by
 obtain⟨ps,h1,h2,h3⟩:=h
 refine⟨ps,aL.of h1,by rw [h2,List.length_map],fun i t b e1 e2=>cq.of (h3 i t (mx b) e1 (by rw [List.getElem?_map,e2];rfl))⟩
theorem ef.at_{H:Hp}{q:Addr}{cols:List (List Int)}(h:ef H q cols):H q=some (.lst (h.choose.map V.ref)):=h.choose_spec.1
theorem ef.put{H:Hp}{q t:Addr}{cols:List (List Int)}{us:List Int}(h:ef H q cols)(ht:H t=none):∃xs:List V,(upd H t (.tup (us.map V.int))) q=some (.lst xs)∧xs.length=cols.length∧ef (upd (upd H t (.tup (us.map V.int))) q (.lst (xs++[.ref t]))) q (cols++[us]):=by
 obtain⟨ps,h1,h2⟩:=h
 have hq:=(ao ht (o:=HO.tup (us.map V.int))) _ _ h1
 refine⟨ps.map V.ref,hq,by rw [List.length_map,h2.1],ps++[t],by rw [ae,List.map_append];rfl,?_⟩
 refine((h2.same (ao ht)).append ⟨rfl,fun i p us' e1 e2=>?_⟩).upd hq
 have hi:i=0:=by
  have:=(List.getElem?_eq_some_iff.mp e1).1
  simp at this
  exact this
 subst hi
 cases e1
 cases e2
 exact ae
theorem gh{K:PySem.W.Frag}{H:Hp}{a:Addr}{xs:List V}{i:Int}{Q:VK}(h:aL K H a xs)(h0:0≤i)(h1:i < xs.length)(q:∀v∈xs,xs[i.toNat]?=some v→Q v H):rF K (.ref a) (.int i) H Q:=by
 obtain⟨m,rfl⟩:∃m:Nat,i=m:=⟨i.toNat,by omega⟩
 have e:xs[m]?=some xs[m]:=List.getElem?_eq_getElem (by omega)
 exact eZ h (bq e) (q _ (List.getElem_mem _) (by rw [Int.toNat_natCast];exact e))
def kU(K:PySem.W.Frag):Sp:=fun vs H Q _=>∃(a:Addr) (ns:List Int) (most:Nat),vs=[.ref a,.int most]∧aL K H a (ns.map V.int)∧1≤most∧most≤400∧∀(q:Addr) (bs:List (Int×Int)) H',1≤bs.length→bs.length≤4→(∀b∈bs,xB b)→ix bs≤most→H q=none→ef H' q (bs.map mx)→aq H H'→Q (.ref q) H'
theorem oK{c d:Nat}(hne:d≠c):∀ps:List (List Nat),(∀p∈ps,d∉p)→d∉cZ c ps
 | [],_=>by simp [cZ]
 | [p],h=>by simpa [cZ]using h p (by simp)
 | p::q::ps,h=>by
  rw [sD]
  intro hd
  rcases List.mem_append.mp hd with hd | hd
  ·exact h p (by simp) hd
  ·rcases List.mem_cons.mp hd with hd | hd
   ·exact hne hd
   ·exact oK hne (q::ps) (fun x hx=>h x (by simp [hx])) hd
theorem sJ(n:Int):10∉i4 n:=fun h=>by
 have:=kB n 10 h
 omega
theorem qw{z kind:Str}{ns:List Int}(R:gF z kind ns)(hk:10∉kind.cps.toList):10∉z.cps.toList:=by
 rw [R.cs]
 refine oK (by decide) _ fun p hp=>?_
 rcases List.mem_cons.mp hp with rfl | hp
 ·exact hk
 ·obtain⟨n,_,rfl⟩:=List.mem_map.mp hp
  exact sJ n
theorem mD{v m:Int}(hv:v.natAbs < 10 ^ 40)(hm:m.natAbs < 10 ^ 40):gF (Str.ofString "voice " ++ fu v++Str.ofString " " ++ fu m) (Str.ofString "voice") [v,m]:=
 ve (by decide +kernel) hv hm (by decide +kernel) (by decide +kernel) (by decide +kernel)
def lW(b:Int×Int):Str:=Str.ofString "voice " ++ fu b.1++Str.ofString " " ++ fu b.2
theorem ia(a b:Str):(a++b).length=a.length+b.length:=by
 show(a.cps++b.cps).size=a.cps.size+b.cps.size
 exact Array.size_append
theorem jZ{n:Int}(h:n.natAbs < 10 ^ 40):(fu n).length≤41:=oU h
theorem rq{n:Int}(h:n.natAbs < 10 ^ 40):n.natAbs.log2 < 1920:=by
 by_cases h0:n.natAbs=0
 ·rw [h0];decide
 ·exact(Nat.log2_lt h0).mpr (Nat.lt_of_lt_of_le h (by decide +kernel))
theorem yT(z:Str):Str.empty++z=z:=str_iff.mpr (by rw [r6];rfl)
theorem pH{b:Int×Int}(h1:b.1.natAbs < 10 ^ 40)(h2:b.2.natAbs < 10 ^ 40):(lW b).length≤89:=by
 have e1:(Str.ofString "voice ").length=6:=by decide +kernel
 have e2:(Str.ofString " ").length=1:=by decide +kernel
 have:=jZ h1
 have:=jZ h2
 unfold lW
 rw [ia,ia,ia]
 omega
def mJ(rows:List Str):Str:=Txt.join (Str.ofString "\n") rows
theorem xy:Str.ofString "\n"=⟨#[10]⟩:=by decide +kernel
theorem qJ{rows:List Str}(h:∀z∈rows,10∉z.cps.toList)(h1:rows≠[]):Txt.split (mJ rows) ⟨#[10]⟩=rows:=by
 unfold mJ
 rw [xy]
 exact pF (by decide) h1 h
theorem vo{rows:List Str}(h1:∀z∈rows,z.length≤20000)(h2:rows.length≤20):(mJ rows).length≤1000000:=by
 unfold mJ
 rw [xy,aY,kv]
 have:=ji 10 (rows.map fun z=>z.cps.toList) 20000 (fun p hp=>by
  obtain⟨y,hy,rfl⟩:=List.mem_map.mp hp
  rw [←aY]
  exact h1 y hy)
 rw [List.length_map]at this
 have:=Nat.mul_le_mul_right (20000+1) h2
 omega
def tK(bs:List (Int×Int))(us:List Int):Prop:=us.length=bs.length∧∀(i:Nat) (b:Int×Int) (u:Int),bs[i]?=some b→us[i]?=some u→b.1≤u∧u≤b.2
theorem tK.nil:tK [] []:=⟨rfl,fun i b u e=>nomatch e⟩
theorem tK.cons_iff{b:Int×Int}{bs:List (Int×Int)}{u:Int}{us:List Int}:tK (b::bs) (u::us)↔(b.1≤u∧u≤b.2)∧tK bs us:=by
 constructor
 ·rintro⟨h1,h2⟩
  refine⟨h2 0 b u rfl rfl,by simpa using h1,fun i b' u' e1 e2=>h2 (i+1) b' u' e1 e2⟩
 ·rintro⟨h1,h2,h3⟩
  refine⟨by simpa using h2,fun i b' u' e1 e2=>?_⟩
  cases i with
  | zero=>cases e1;cases e2;exact h1
  | succ i=>exact h3 i b' u' e1 e2
theorem yS{bs:List (Int×Int)}{us:List Int}:us∈aB bs↔tK bs us:=by
 have go:∀(bs:List (Int×Int)) (told:List (List Int)) (c:List Int),c∈bs.foldl (fun told b=>told.flatMap (fb b)) told↔∃p∈told,∃us,tK bs us∧c=p++us:=by
  intro bs
  induction bs with
  | nil=>
   intro told c
   constructor
   ·intro h
    exact⟨c,h,[],tK.nil,by simp⟩
   ·rintro⟨p,hp,us,⟨h1,_⟩,rfl⟩
    rw [List.length_eq_zero_iff.mp h1,List.append_nil]
    exact hp
  | cons b bs ih=>
   intro told c
   rw [List.foldl_cons,ih]
   constructor
   ·rintro⟨p,hp,us,hus,rfl⟩
    obtain⟨d,hd,hp⟩:=List.mem_flatMap.mp hp
    unfold fb at hp
    obtain⟨j,hj,rfl⟩:=List.mem_map.mp hp
    have hj:j < wN b:=List.mem_range.mp hj
    refine⟨d,hd,(b.1+(j:Int))::us,tK.cons_iff.mpr ⟨?_,hus⟩,by simp⟩
    unfold wN at hj
    omega
   ·rintro⟨p,hp,us,hus,rfl⟩
    cases us with
    | nil=>cases hus.1
    | cons u us=>
     obtain⟨⟨h1,h2⟩,h3⟩:=tK.cons_iff.mp hus
     refine⟨p++[u],List.mem_flatMap.mpr ⟨p,hp,?_⟩,us,h3,by simp⟩
     unfold fb
     refine List.mem_map.mpr ⟨(u - b.1).toNat,List.mem_range.mpr ?_,?_⟩
     ·unfold wN
      omega
     ·rw [show b.1+((u - b.1).toNat:Int)=u by omega]
 unfold aB
 rw [go]
 constructor
 ·rintro⟨p,hp,us',h,rfl⟩
  rw [List.mem_singleton.mp hp]
  exact h
 ·intro h
  exact⟨[],by simp,us,h,rfl⟩
def nW:Sp:=fun vs H Q _=>∃i:Int,vs=[.int i]∧Q (.bl true) H
def nQ(K:PySem.W.Frag):Sp:=fun vs H Q _=>∃(a:Addr) (ns:List Int) (st n:Nat),vs=[.ref a,.int st,.int n]∧aL K H a (ns.map V.int)∧ns.length≤63∧st≤100∧n≤200∧∀(q:Addr) (ys:List Int) H',ys.length=n→H q=none→H' q=some (.lst (ys.map V.int))→aq H H'→Q (.ref q) H'
def zU(K:PySem.W.Frag):Sp:=fun vs H Q _=>∃(a wa:Addr) (bs:List (Int×Int)) (ys:List Int),vs=[.ref a,.ref wa]∧cz K H a bs∧aL K H wa (ys.map V.int)∧bs.length≤ys.length∧bs.length≤4∧(∀b∈bs,b.1≤b.2)∧∀(p:Addr) (us:List Int) H',tK bs us→H' p=some (.tup (us.map V.int))→aq H H'→Q (.ref p) H'
def AB(K:PySem.W.Frag):Sp:=fun vs H Q _=>∃(ca a:Addr) (bs:List (Int×Int)) (us:List Int) (y:Int),vs=[.ref ca,.ref a,.int y]∧H ca=some (.tup (us.map V.int))∧us.length=bs.length∧cz K H a bs∧1≤bs.length∧bs.length≤4∧0≤y∧∀(p:Addr) (us':List Int) H',¬tK bs us'→H' p=some (.tup (us'.map V.int))→aq H H'→Q (.ref p) H'
def nU(K:PySem.W.Frag):Sp:=fun vs H Q _=>∃(a r:Addr) (bs:List (Int×Int)),vs=[.ref a,.ref r]∧cz K H a bs∧aL K H r []∧bs.length≤4∧(∀b∈bs,b.1.natAbs < 10 ^ 40∧b.2.natAbs < 10 ^ 40)∧∀H',aq H H'→Q (.str (mJ (bs.map lW))) H'
section
variable {P:Program} {w:World} {K:PySem.W.Frag} {mg:Str→Option Value} {base:Heap} {aM:Addr}
theorem zw{f:Addr}{fd:FuncData}(F:f9 K "_law_at" "_law_at" kM f fd)(T:Txt mg aM):bj P w K mg base fK 1 f fd ["_law_script","_law_k"] (vh K):=by
 refine F.ok tu (fun vs H Q E h=>?_) (fun cdv A outer s H vs Q E hr h=>?_)
 ·obtain⟨a,ns,k,rfl,_⟩:=h
  rfl
 obtain⟨a,ns,k,rfl,hS,h0,h1,q⟩:=h
 refine⟨_,(ag (eJ (eU (aX (o0 yg) (pr 1) (aJ (aU K) (by rfl) T.n_len boot_len (aa (pr 0) af)) (aT _))) (ak (aQ (bu (dC K) (pr 0) (pr 1) (fun _ _=>rfl)))) dh)
 (ak (aQ ah))),?_⟩
 walk_at "rd"
 refine⟨_,.inl hS,?_⟩
 obtain⟨m,rfl⟩:∃m:Nat,k=m:=⟨k.toNat,by omega⟩
 unfold yR at q
 rw [Int.toNat_natCast,List.getD_eq_getElem?_getD]at q
 rw [List.length_map]
 by_cases hk:(m:Int) < (ns.length:Int)
 ·rw [if_pos hk]
  have e:ns[m]?=some ns[m]:=List.getElem?_eq_getElem (by omega)
  rw [e]at q
  exact eZ hS (bq (by rw [List.getElem?_map,e];rfl)) q
 ·rw [if_neg hk]
  rw [List.getElem?_eq_none (by omega)]at q
  exact q
theorem uH{f:Addr}{fd:FuncData}(F:f9 K "_law_draws" "_law_draws" g8 f fd)(T:Txt mg aM):bj P w K mg base fK 1 f fd ["_law_cell","_law_many"] i9:=by
 refine F.ok sc_law_draws (fun vs H Q E h=>?_) (fun cdv A outer s H vs Q E hr h=>?_)
 ·obtain⟨c,n,rfl,_⟩:=h
  rfl
 obtain⟨c,n,rfl,hn,q⟩:=h
 refine⟨_,(ag (az (i:=2) sc_law_draws.nd rfl (Or.inl rfl) (dU uE (au (o1 cf) (au (o1 de) (pr 0) ah) ah) ah (aT _)))
 (ag (az (i:=3) sc_law_draws.nd rfl (Or.inl rfl) (au (o1 de) (pr 0) ah))
 (ag (az (i:=4) sc_law_draws.nd rfl (Or.inl rfl) (au (eI K) (au (o1 cf) (pr 0) ah) ah))
 (ag (az (i:=5) sc_law_draws.nd rfl (Or.inl rfl) (cg af))
 (ag (dX PassesOwn.never rfl (sW rfl T.n_range (aa ah (aa (au (eI K) (pr 1) ah) af))) (aC (i:=6) sc_law_draws.nd rfl (Or.inl rfl))
 (ak (eJ (PW.pt (nA (eK (pr 2) (fun _=>rfl)) (nB (eU (aX (uN K) (pr 3) (cg (aa ah (aa (uT (u1 qP) ah) af))) (by with_unfolding_all rfl)))))) (ag (cv (c5 K PySem.F.plainAttrs_list PySem.F.slot_list_append PySem.F.type_list_append bL (pr 5) (aa (au (o1 cf) (pr 3) ah) af)))
 (ak (az (i:=3) sc_law_draws.nd rfl (Or.inl rfl) (au (o1 de) (pr 3) ah)))) (ag (az (i:=4) sc_law_draws.nd rfl (Or.inl rfl) (au (eI K) (au (o1 cf) (au (lO K) (au (o1 cf) (au (eI K) (au (lO K) (pr 4) ah) (pr 6)) ah) (au (eI K) (pr 4) (au (lO K) ah (pr 6)))) ah) ah))
 (ak (cv (c5 K PySem.F.plainAttrs_list PySem.F.slot_list_append PySem.F.type_list_append bL (pr 5) (aa (au (o1 de) (pr 4) ah) af))))))))
 (ak (aQ (pr 5)))))))),?_⟩
 have hs:sizeLine=16777216:=sizeLine_eq
 refine ba (fun σ H'=>∃b:Bool,σ=[some (.int c),some (.int n),some (.bl b),none,none,none,none]∧H=H') ?_ ?_
 rotate_left
 ·intro u' hu
  walk_at "rd"
  exact⟨⟨by decide,by decide⟩,by decide,hu _ _ ⟨_,rfl,rfl⟩⟩
 rintro _ _ ⟨b,rfl,rfl⟩
 refine ba (fun σ H'=>∃r:Int,σ=[some (.int c),some (.int n),some (.bl b),some (.int r),none,none,none]∧H=H') ?_ ?_
 rotate_left
 ·intro u' hu
  walk_at "rd"
  exact⟨⟨by decide,by decide⟩,hu _ _ ⟨_,rfl,rfl⟩⟩
 rintro _ _ ⟨r,rfl,rfl⟩
 refine ba (fun σ H'=>∃sd:Int,1≤sd∧sd≤1999993∧σ=[some (.int c),some (.int n),some (.bl b),some (.int r),some (.int sd),none,none]∧H=H') ?_ ?_
 rotate_left
 ·intro u' hu
  walk_at "rd"
  exact⟨by decide,hu _ _ ⟨_,by omega,by omega,rfl,rfl⟩⟩
 rintro _ _ ⟨sd,d1,d2,rfl,rfl⟩
 refine ba (fun σ H'=>∃p:Addr,H p=none∧H' p=some (.lst (([]:List Int).map V.int))∧σ=[some (.int c),some (.int n),some (.bl b),some (.int r),some (.int sd),some (.ref p),none]∧aq H H') ?_ ?_
 rotate_left
 ·intro u' hu
  walk_at "rd"
  exact⟨by omega,fun p hp=>hu _ _ ⟨p,hp,ae,rfl,ao hp⟩⟩
 rintro _ H1 ⟨p,hp,hp1,rfl,s1⟩
 refine ba (fun σ H'=>∃(ys:List Int) (r sd:Int) (o6:Option V),ys.length=n∧(∀y∈ys,0≤y∧y < 399999)∧H' p=some (.lst (ys.map V.int))∧σ=[some (.int c),some (.int n),some (.bl b),some (.int r),some (.int sd),some (.ref p),o6]∧aq H H') ?_ ?_
 rotate_left
 ·intro u' hu
  walk_at "rd"
  obtain⟨Pv,hPv⟩:∃Pv:Nat→L2.St→Hp→Prop,Pv=fun i σ H'=>∃(ys:List Int) (r sd:Int) (o6:Option V),ys.length=i∧(∀y∈ys,0≤y∧y < 399999)∧1≤sd∧sd≤1999993∧H' p=some (.lst (ys.map V.int))∧σ=[some (.int c),some (.int n),some (.bl b),some (.int r),some (.int sd),some (.ref p),o6]∧aq H H':=⟨_,rfl⟩
  refine⟨by omega,by omega,by omega,by omega,gf Pv (by rw [hPv];exact⟨[],r,sd,none,rfl,(fun _ h=>nomatch h),d1,d2,hp1,rfl,s1⟩) ?_ ?_⟩
  ·clear s1 hp1 d1 d2
   clear r sd H1
   rintro i σ H1 hi hI
   rw [hPv]at hI
   obtain⟨ys,r,sd,o6,hl,hy,d1,d2,hp1,rfl,s1⟩:=hI
   walk_at "rd"
   have app:∀{x:Int} {H2:Hp} {r' sd':Int},0≤x→x < 399999→1≤sd'→sd'≤1999993→aq H H2→Pv (i+1) [some (.int c),some (.int n),some (.bl b),some (.int r'),some (.int sd'),some (.ref p),some (.int (1+i))] (upd H2 p (.lst (ys.map V.int++[.int x]))):=fun {x H2 r' sd'} x0 x1 e1 e2 s2=>by
    rw [hPv]
    refine⟨ys++[x],r',sd',_,by rw [List.length_append,hl];rfl,fun y h=>?_,e1,e2,by rw [ae,List.map_append];rfl,rfl,xF hp s2⟩
    rcases List.mem_append.mp h with h | h
    ·exact hy y h
    ·rw [List.mem_singleton.mp h]
     exact⟨x0,x1⟩
   have e2:(2:Nat) ^ 21=2097152:=by decide
   have k1:IntMulOk ((sd * 69069+(1+(i:Int))) % 1999993) (sd+3 * (1+(i:Int))):=IntMulOk.of_le (m:=21) (n:=21) (intBits_le_iff.mpr (by rw [e2];omega)) (intBits_le_iff.mpr (by rw [e2];omega)) (by decide)
   have m0:=Int.emod_nonneg ((sd * 69069+(1+(i:Int))) % 1999993 * (sd+3 * (1+(i:Int)))) (show(1999993:Int)≠0 by decide)
   have m1:=Int.emod_lt_of_pos ((sd * 69069+(1+(i:Int))) % 1999993 * (sd+3 * (1+(i:Int)))) (show(0:Int) < 1999993 by decide)
   generalize(sd * 69069+(1+(i:Int))) % 1999993 * (sd+3 * (1+(i:Int))) % 1999993=sd' at m0 m1
   by_cases hb:b=true
   ·rw [if_pos hb]
    refine⟨by omega,fun z hz=>pz (D:=[0,-1]) (aL.of ae) ⟨_,rfl,?_⟩⟩
    have hp2:=(ao hz (o:=HO.lst [V.int 0,V.int (-1)])) _ _ hp1
    have s2:=s1.upd hz (o:=HO.lst [V.int 0,V.int (-1)])
    by_cases hr:r∈[0,-1]
    ·rw [if_neg (by simp [hr])]
     refine⟨.of_right (by decide),by decide,.of_left (by decide),k1,by decide,.inl ⟨rfl,_,aL.of hp2⟩,⟨by decide,by decide⟩,p,_,_,rfl,rfl,hp2,by rw [List.length_map];omega,app (by omega) (by omega) (by omega) (by omega) s2⟩
    ·rw [if_pos (by simp [hr])]
     exact⟨.inl ⟨rfl,_,aL.of hp2⟩,by decide,p,_,_,rfl,rfl,hp2,by rw [List.length_map];omega,⟨by decide,by decide⟩,app (by omega) (by omega) d1 d2 s2⟩
   ·rw [if_neg hb]
    refine⟨.of_right (by decide),by decide,.of_left (by decide),k1,by decide,.inl ⟨rfl,_,aL.of hp1⟩,⟨by decide,by decide⟩,p,_,_,rfl,rfl,hp1,by rw [List.length_map];omega,app (by omega) (by omega) (by omega) (by omega) s1⟩
  ·rintro σ H3 hI
   rw [hPv]at hI
   obtain⟨ys,r,sd,o6,hl,hy,_,_,hp1,rfl,s1⟩:=hI
   exact hu _ _ ⟨ys,r,sd,o6,by omega,hy,hp1,rfl,s1⟩
 rintro _ H2 ⟨ys,r,sd,o6,hl,hy,hp2,rfl,s2⟩
 walk_at "rd"
 exact q p ys H2 hl hy hp hp2 s2
theorem sP{f:Addr}{fd:FuncData}(F:f9 K "_law_ranges" "_law_ranges" gk f fd)(T:Txt mg aM)(D_law_at:eC P w K mg base "_law_at" 1 ["_law_script","_law_k"] (vh K))(D_law_draws:eC P w K mg base "_law_draws" 1 ["_law_cell","_law_many"] i9):bj P w K mg base fK 2 f fd ["_law_script","_law_most"] (kU K):=by
 refine F.ok sc_law_ranges (fun vs H Q E h=>?_) (fun cdv A outer s H vs Q E hr h=>?_)
 ·obtain⟨a,ns,most,rfl,_⟩:=h
  rfl
 obtain⟨a,ns,most,rfl,hS,m1,m2,k⟩:=h
 refine⟨_,(ag (az (i:=2) sc_law_ranges.nd rfl (Or.inl rfl) (aO D_law_draws hr (by rfl) (aa (aO D_law_at hr (by rfl) (aa (pr 0) (aa ah af))) (aa ah af))))
 (ag (az (i:=3) sc_law_ranges.nd rfl (Or.inl rfl) (bu (dC K) (cg (mw (vs:=[.int (1),.int (1),.int (2),.int (2),.int (2),.int (3),.int (4),.int (1)]) rfl)) (au (o1 cf) (aO D_law_at hr (by rfl) (aa (pr 0) (aa ah af))) ah) (fun _ _=>rfl)))
 (ag (az (i:=4) sc_law_ranges.nd rfl (Or.inl rfl) (au (o1 cf) (au (o1 de) (aO D_law_at hr (by rfl) (aa (pr 0) (aa ah af))) ah) (au (o1 ni) ah ah)))
 (ag (az (i:=5) sc_law_ranges.nd rfl (Or.inl rfl) (bu (dC K) (cg (aa ah (aa ah (aa (uT (u1 qP) ah) (aa (au (o1 cf) (pr 4) (au (o1 ni) ah ah)) (aa (au (o0 gg) ah (pr 4)) af)))))) (au (o1 cf) (aO D_law_at hr (by rfl) (aa (pr 0) (aa ah af))) ah) (fun _ _=>rfl)))
 (ag (az (i:=6) sc_law_ranges.nd rfl (Or.inl rfl) (bu (dC K) (cg (aa ah (aa ah (aa ah (aa (au (o1 cf) (au (o1 de) (aO D_law_at hr (by rfl) (aa (pr 0) (aa ah af))) ah) (au (o1 ni) ah ah)) af))))) (au (o1 cf) (aO D_law_at hr (by rfl) (aa (pr 0) (aa ah af))) ah) (fun _ _=>rfl)))
 (ag (az (i:=7) sc_law_ranges.nd rfl (Or.inl rfl) (cg af))
 (ag (dX PassesOwn.never rfl (ik rfl T.n_range (aa (pr 3) af)) (aC (i:=8) sc_law_ranges.nd rfl (Or.inl rfl))
 (ag (az (i:=9) sc_law_ranges.nd rfl (Or.inl rfl) (au (eI K) ah (au (o1 cf) (bu (dC K) (pr 2) (au (eI K) ah (pr 8)) (fun _ _=>rfl)) (aJ (l7 rfl) (by rfl) T.n_min boot_min (aa (pr 1) (aa (au (eI K) ah (au (lO K) ah (bz (ic) (by rfl) T.n_int boot_int (aa (dU uE (pr 3) ah (aT _)) af)))) af))))))
 (ag (az (i:=10) sc_law_ranges.nd rfl (Or.inl rfl) (au (o0 gg) (au (eI K) (au (eI K) (pr 5) (au (lO K) (pr 8) (pr 6))) (au (o1 cf) (au (o1 de) (bu (dC K) (pr 2) (au (eI K) ah (pr 8)) (fun _ _=>rfl)) ah) ah)) ah))
 (ag (cv (c5 K PySem.F.plainAttrs_list PySem.F.slot_list_append PySem.F.type_list_append bL (pr 7) (aa (jl (aa (pr 10) (aa (au (o0 gg) (au (eI K) (pr 10) (pr 9)) ah) af))) af)))
 (ak (az (i:=1) sc_law_ranges.nd rfl (Or.inl rfl) (au (o1 de) (pr 1) (pr 9))))))))
 (ak (aQ (pr 7)))))))))),?_⟩
 have hs:sizeLine=16777216:=sizeLine_eq
 refine ba (fun σ H'=>∃(wa:Addr) (ys:List Int),ys.length=6∧(∀y∈ys,0≤y∧y < 399999)∧H' wa=some (.lst (ys.map V.int))∧σ=[some (.ref a),some (.int most),some (.ref wa),none,none,none,none,none,none,none,none]∧aq H H') ?_ ?_
 rotate_left
 ·intro u' hu
  walk_at "rd"
  exact⟨a,ns,0,rfl,hS,by decide,by decide,_,6,rfl,by decide,fun q ys H' hl hy _ hq s1=>hu _ _ ⟨q,ys,hl,hy,hq,rfl,s1⟩⟩
 rintro _ H1 ⟨wa,ys,yl,hy,hw,rfl,s1⟩
 refine ba (fun σ H'=>∃v:Int,1≤v∧v≤4∧σ=[some (.ref a),some (.int most),some (.ref wa),some (.int v),none,none,none,none,none,none,none]∧aq H1 H') ?_ ?_
 rotate_left
 ·intro u' hu
  walk_at "rd"
  refine⟨by omega,fun p hp=>⟨a,ns,0,rfl,(s1.upd hp).seq hS,by decide,by decide,_,rfl,by decide,gh (aL.of ae) (by omega) (by simp;omega) fun v hv _=>?_⟩⟩
  simp only [List.mem_cons,List.not_mem_nil,or_false]at hv
  rcases hv with rfl | rfl | rfl | rfl | rfl | rfl | rfl | rfl<;>exact hu _ _ ⟨_,by decide,by decide,rfl,ao hp⟩
 rintro _ H2 ⟨v,v1,v4,rfl,s2⟩
 have s02:=s1.trans s2
 refine ba (fun σ H'=>∃g:Int,0≤g∧g < 100000000000000000000000000000000000∧σ=[some (.ref a),some (.int most),some (.ref wa),some (.int v),some (.int g),none,none,none,none,none,none]∧H2=H') ?_ ?_
 rotate_left
 ·intro u' hu
  walk_at "rd"
  have e35:(10:Int) ^ Int.toNat 35=100000000000000000000000000000000000:=by decide +kernel
  refine⟨a,ns,1,rfl,s02.seq hS,by decide,by decide,_,rfl,⟨by decide,by decide⟩,⟨by decide,by decide,by decide⟩,?_⟩
  rw [e35]
  exact⟨by decide,hu _ _ ⟨_,by omega,by omega,rfl,rfl⟩⟩
 rintro _ _ ⟨g,g0,g1,rfl,rfl⟩
 refine ba (fun σ H'=>∃lo:Int,lo.natAbs < 100000000000000000000000000000000000∧σ=[some (.ref a),some (.int most),some (.ref wa),some (.int v),some (.int g),some (.int lo),none,none,none,none,none]∧aq H1 H') ?_ ?_
 rotate_left
 ·intro u' hu
  walk_at "rd"
  have e9:(10:Int) ^ Int.toNat 9=1000000000:=by decide +kernel
  rw [e9]
  refine⟨⟨by decide,by decide,by decide⟩,by decide,by omega,fun p hp=>⟨a,ns,1,rfl,(s02.upd hp).seq hS,by decide,by decide,_,rfl,by decide,gh (aL.of ae) (by omega) (by simp;omega) fun v hv _=>?_⟩⟩
  simp only [List.mem_cons,List.not_mem_nil,or_false]at hv
  rcases hv with rfl | rfl | rfl | rfl | rfl<;>exact hu _ _ ⟨_,by omega,rfl,s2.upd hp⟩
 clear s02 s2
 clear H2
 rintro _ H2 ⟨lo,hlo,rfl,s2⟩
 have s02:=s1.trans s2
 refine ba (fun σ H'=>∃fr:Int,0≤fr∧fr≤100000000000000000000∧σ=[some (.ref a),some (.int most),some (.ref wa),some (.int v),some (.int g),some (.int lo),some (.int fr),none,none,none,none]∧aq H1 H') ?_ ?_
 rotate_left
 ·intro u' hu
  walk_at "rd"
  have e20:(10:Int) ^ Int.toNat 20=100000000000000000000:=by decide +kernel
  rw [e20]
  refine⟨a,ns,2,rfl,s02.seq hS,by decide,by decide,_,rfl,⟨by decide,by decide⟩,⟨by decide,by decide,by decide⟩,by decide,by omega,fun p hp=>⟨a,ns,2,rfl,(s02.upd hp).seq hS,by decide,by decide,_,rfl,by decide,gh (aL.of ae) (by omega) (by simp;omega) fun v hv _=>?_⟩⟩
  simp only [List.mem_cons,List.not_mem_nil,or_false]at hv
  rcases hv with rfl | rfl | rfl | rfl<;>exact hu _ _ ⟨_,by omega,by omega,rfl,s2.upd hp⟩
 clear s02 s2
 clear H2
 rintro _ H2 ⟨fr,f0,f1,rfl,s2⟩
 refine ba (fun σ H'=>∃q:Addr,H1 q=none∧H' q=some (.lst (([]:List Addr).map V.ref))∧σ=[some (.ref a),some (.int most),some (.ref wa),some (.int v),some (.int g),some (.int lo),some (.int fr),some (.ref q),none,none,none]∧aq H1 H') ?_ ?_
 rotate_left
 ·intro u' hu
  walk_at "rd"
  exact⟨by omega,fun q hq=>hu _ _ ⟨q,s2.free hq,ae,rfl,s2.upd hq⟩⟩
 clear s2
 clear H2
 rintro _ H2 ⟨q,hq1,hq2,rfl,s2⟩
 have hq0:H q=none:=s1.free hq1
 refine ba (fun σ H'=>∃(bs:List (Int×Int)) (o1 o8 o9 o10:Option V),1≤bs.length∧bs.length≤4∧(∀b∈bs,xB b)∧ix bs≤most∧ef H' q (bs.map mx)∧σ=[some (.ref a),o1,some (.ref wa),some (.int v),some (.int g),some (.int lo),some (.int fr),some (.ref q),o8,o9,o10]∧aq H1 H') ?_ ?_
 rotate_left
 ·intro u' hu
  walk_at "rd"
  obtain⟨Pv,hPv⟩:∃Pv:Nat→L2.St→Hp→Prop,Pv=fun i σ H'=>∃(bs:List (Int×Int)) (m:Nat) (o8 o9 o10:Option V),bs.length=i∧(∀b∈bs,xB b)∧1≤m∧ix bs * m≤most∧ef H' q (bs.map mx)∧σ=[some (.ref a),some (.int m),some (.ref wa),some (.int v),some (.int g),some (.int lo),some (.int fr),some (.ref q),o8,o9,o10]∧aq H1 H':=⟨_,rfl⟩
  refine⟨by omega,by omega,gf Pv (by rw [hPv];exact⟨[],most,none,none,none,rfl,(fun _ h=>nomatch h),m1,by show 1 * most≤most;omega,⟨[],hq2,rfl,fun i p us e=>nomatch e⟩,rfl,s2⟩) ?_ ?_⟩
  ·rintro i σ H3 hi hI
   rw [hPv]at hI
   obtain⟨bs,m,o8,o9,o10,hl,hb,hm,hc,hC,rfl,s3⟩:=hI
   have hi4:(i:Int)≤3:=by omega
   walk_at "rd"
   have hw3:=s3 _ _ hw
   have hc1:1≤ix bs:=by
    have:=(gI (bs:=bs) (fun b h=>(hb b h).big.2.2.2.2) bs.length).1
    rwa [List.take_length]at this
   have hm4:m≤400:=Nat.le_trans (Nat.le_trans (Nat.le_mul_of_pos_left m hc1) hc) m2
   refine gh (aL.of hw3) (by omega) (by rw [List.length_map];omega) fun y hyv _=>?_
   obtain⟨y,hyy,rfl⟩:=List.mem_map.mp hyv
   clear hyv
   obtain⟨y0,y1⟩:=hy y hyy
   obtain⟨d,hd⟩:∃d:Int,d=if (6+6 * if v=1 then 1 else 0) < (m:Int)then 6+6 * (if v=1 then 1 else 0)else(m:Int):=⟨_,rfl⟩
   have d1:1≤d:=by rw [hd];split<;>split<;>omega
   have d2:d≤m:=by rw [hd];split<;>omega
   have d3:d≤12:=by rw [hd];split<;>split<;>omega
   rw [←hd]
   have r0:=Int.emod_nonneg y (show d≠0 by omega)
   have r1:=Int.emod_lt_of_pos y (show 0 < d by omega)
   obtain⟨wd,hwd⟩:∃wd:Nat,1+y % d=wd:=⟨(1+y % d).toNat,by omega⟩
   have w1:1≤wd:=by omega
   have w2:wd≤12:=by omega
   have w3:wd≤m:=by omega
   refine⟨.of_left (by decide),_,rfl,by omega,IntMulOk.of_le (m:=10) (n:=80) (intBits_le_iff.mpr (by omega)) (intBits_le_iff.mpr (Nat.lt_of_le_of_lt (m:=100000000000000000000) (by omega) (by decide +kernel))) (by decide),gh (aL.of hw3) (by omega) (by rw [List.length_map];omega) fun y2 hyv _=>?_⟩
   obtain⟨y2,hyy2,rfl⟩:=List.mem_map.mp hyv
   clear hyv
   obtain⟨z0,z1⟩:=hy y2 hyy2
   have p0:0≤(i:Int) * fr:=Int.mul_nonneg (by omega) f0
   have p1:(i:Int) * fr≤3 * 100000000000000000000:=Int.mul_le_mul hi4 f1 f0 (by decide)
   obtain⟨x,hx⟩:∃x:Int,x=lo+(i:Int) * fr+y2 / 12 % 7 - 3:=⟨_,rfl⟩
   have x36:x.natAbs≤10 ^ 36:=by
    have e36:(10:Nat) ^ 36=1000000000000000000000000000000000000:=by decide +kernel
    rw [e36]
    omega
   refine⟨_,rfl,⟨by decide,by decide⟩,by decide,.inl ⟨rfl,_,aL.of hC.at_⟩,by omega,fun p hp=>?_⟩
   rw [←hx,hwd]
   obtain⟨xs,hx1,hx2,hx3⟩:=hC.put (us:=mx (x,x+wd - 1)) hp
   refine⟨q,_,_,rfl,rfl,hx1,by rw [hx2,List.length_map];omega,⟨by omega,by omega⟩,?_⟩
   rw [hPv]
   have em:(m:Int) / (wd:Int)=((m / wd:Nat):Int):=rfl
   rw [em]
   refine⟨bs++[(x,x+wd - 1)],m / wd,_,_,_,by rw [List.length_append,hl];rfl,fun b hb'=>?_,Nat.div_pos w3 w1,?_,?_,rfl,?_⟩
   ·rcases List.mem_append.mp hb' with hb' | hb'
    ·exact hb b hb'
    ·rw [List.mem_singleton.mp hb']
     unfold xB
     show x≤x+wd - 1∧x.natAbs≤_∧x+wd - 1 - x < 12
     exact⟨by omega,x36,by omega⟩
   ·rw [ka]
    have ew:wN (x,x+(wd:Int) - 1)=wd:=by
     unfold wN
     show(x+(wd:Int) - 1 - x+1).toNat=wd
     omega
    rw [ew,Nat.mul_assoc]
    exact Nat.le_trans (Nat.mul_le_mul_left _ (Nat.mul_div_le m wd)) hc
   ·rw [List.map_append]
    exact hx3
   ·exact xF hq1 (s3.upd hp)
  ·rintro σ H3 hI
   rw [hPv]at hI
   obtain⟨bs,m,o8,o9,o10,hl,hb,hm,hc,hC,rfl,s3⟩:=hI
   exact hu _ _ ⟨bs,_,o8,o9,o10,by omega,by omega,hb,Nat.le_trans (Nat.le_mul_of_pos_right _ hm) hc,hC,rfl,s3⟩
 rintro _ H3 ⟨bs,o1,o8,o9,o10,l1,l4,hb,hc,hC,rfl,s3⟩
 walk_at "rd"
 exact k q bs H3 l1 l4 hb hc hq0 hC (s1.trans s3)
theorem uK{f:Addr}{fd:FuncData}(F:f9 K "_law_text" "_law_text" iI f fd)(T:Txt mg aM):bj P w K mg base fK 1 f fd ["_law_ranges_here","_law_rules"] (nU K):=by
 refine F.ok sc_law_text (fun vs H Q E h=>?_) (fun cdv A outer s H vs Q E hr h=>?_)
 ·obtain⟨a,r,bs,rfl,_⟩:=h
  rfl
 obtain⟨a,r,bs,rfl,⟨ts,hts,htl,htc⟩,hr0,lb,hb,k⟩:=h
 refine⟨_,(ag (qr (i:=2) sc_law_text.nd rfl (Or.inl rfl) (own:=["_law_low","_law_high"]) (js:=[]) rfl (cu K (pr 0)) (bf.of (by rfl)) (fun _ _ _ _ _=>(eE K (n:=2) rfl (aW (aC (i:=0) (show List.Nodup (["_law_low","_law_high"]:List Str)from by decide +kernel) rfl (Or.inl rfl)) (aW (aC (i:=1) (show List.Nodup (["_law_low","_law_high"]:List Str)from by decide +kernel) rfl (Or.inl rfl)) eF)))) (fun _ _ _ _ _=>dY) (fun _ _ _ _ _=>(au (eI K) (au (eI K) (au (eI K) fv (bz (l8) (by rfl) T.n_str boot_str (aa (pr 0) af))) fv) (bz (l8) (by rfl) T.n_str boot_str (aa (pr 1) af)))) rfl)
 (ak (aQ (c5 K PySem.F.plainAttrs_str PySem.F.slot_str_join PySem.F.type_str_join (uA K) fv (aa (au (eI K) (pr 2) (dW (own:=["_law_rule"]) (js:=[]) rfl (cu K (pr 1)) (bf.of (by rfl)) (fun _ _ _ _ _=>(aC (i:=0) (show List.Nodup (["_law_rule"]:List Str)from by decide +kernel) rfl (Or.inl rfl))) (fun _ _ _ _ _=>dY) (fun _ _ _ _ _=>oY))) af))))),?_⟩
 have hs:sizeLine=16777216:=sizeLine_eq
 refine ba (fun σ H'=>∃q:Addr,H q=none∧H' q=some (.lst ((bs.map lW).map V.str))∧σ=[some (.ref a),some (.ref r),some (.ref q)]∧aq H H') ?_ ?_
 rotate_left
 ·intro u' hu
  walk_at "rd"
  refine cH hts (dB (xs:=ts.map V.ref) (fun i ys H'=>ys=((bs.take i).map lW).map V.str∧H=H') (by rw [List.length_map];omega) ⟨rfl,rfl⟩ ?_ ?_ ?_ ?_)
  ·rintro i ys H' ⟨rfl,rfl⟩
   rw [List.length_map,List.length_map,List.length_take]
   omega
  ·rintro i ys H' ⟨rfl,rfl⟩
   exact hts
  ·rintro i y ys H' hy ⟨rfl,rfl⟩
   rw [List.getElem?_map]at hy
   cases ht:ts[i]? with
   | none=>rw [ht]at hy;cases hy
   | some t=>
    rw [ht]at hy
    cases hy
    have hi:i < bs.length:=by rw [←htl];exact(List.getElem?_eq_some_iff.mp ht).1
    have hbi:bs[i]?=some bs[i]:=List.getElem?_eq_getElem hi
    simp only [fi]
    walk_at "rd"
    refine⟨_,htc i t _ ht hbi,rfl,?_⟩
    walk_at "rd"
    obtain⟨n1,n2⟩:=hb _ (List.getElem_mem hi)
    have e1:(Str.ofString "voice ").length=6:=by decide +kernel
    have e2:(Str.ofString " ").length=1:=by decide +kernel
    have:=jZ n1
    have:=jZ n2
    refine⟨rq n1,by omega,by rw [ia];omega,rq n2,by rw [ia,ia];omega,?_⟩
    rw [List.take_add_one,hbi,List.map_append,List.map_append]
    rfl
  ·rintro ys H' ⟨rfl,rfl⟩ q hq
   rw [List.length_map,htl,List.take_length]
   exact hu _ _ ⟨q,hq,ae,rfl,ao hq⟩
 rintro _ H1 ⟨q,hq0,hq1,rfl,s1⟩
 walk_at "rd"
 refine cH (s1.seq hr0) (dB (xs:=[]) (fun i ys H'=>i=0∧ys=[]∧H1=H') (by simp) ⟨rfl,rfl,rfl⟩ ?_ ?_ ?_ ?_)
 ·rintro i ys H' ⟨rfl,rfl,rfl⟩
  exact Nat.le_refl _
 ·rintro i ys H' ⟨rfl,rfl,rfl⟩
  exact s1.seq hr0
 ·rintro i x ys H' hx _
  cases hx
 rintro ys H' ⟨_,rfl,rfl⟩ p hp
 have pq:q≠p:=aj hq1 hp
 refine ph (xs:=(bs.map lW).map V.str) (zs:=[]) (by rw [ai pq];exact hq1) ae (by simp;omega) fun z hz=>⟨z,rfl,bs.map lW,aL.of (by rw [ae,List.append_nil]),?_,k _ ((s1.upd hp).upd hz)⟩
 have h1:=StrLaws.sumLen_le (B:=20000) (bs.map lW) (fun z hz=>by
  obtain⟨b,hb',rfl⟩:=List.mem_map.mp hz
  have:=pH (hb b hb').1 (hb b hb').2
  omega)
 have e1:(Str.ofString "\n").length=1:=by decide +kernel
 rw [List.length_map]at h1 ⊢
 rw [e1]
 have:=Nat.mul_le_mul_right 20000 lb
 omega
theorem uL{f:Addr}{fd:FuncData}(F:f9 K "_law_whole" "_law_whole" hJ f fd)(T:Txt mg aM):bj P w K mg base fK 1 f fd ["_law_found"] nW:=by
 refine F.ok nN (fun vs H Q E h=>?_) (fun cdv A outer s H vs Q E hr h=>?_)
 ·obtain⟨i,rfl,_⟩:=h
  rfl
 obtain⟨i,rfl,q⟩:=h
 refine⟨_,(ak (aQ (uS (qh (aJ (iZ K) (by rfl) T.n_isinstance boot_isinstance (aa (pr 0) (aa (rA (v:=.ty "int") (by rfl) T.n_int boot_int rfl) af))) (nk (zK (ym (aJ (iZ K) (by rfl) T.n_isinstance boot_isinstance (aa (pr 0) (aa (rA (v:=.ty "bool") (by rfl) T.n_bool boot_bool rfl) af)))))))))),?_⟩
 walk_at "rd"
 refine⟨_,.int _,true,rfl,?_⟩
 rw [if_pos rfl]
 exact⟨_,.int _,false,rfl,q⟩
theorem uG{f:Addr}{fd:FuncData}(F:f9 K "_law_cells" "_law_cells" gZ f fd)(T:Txt mg aM)(D_law_at:eC P w K mg base "_law_at" 1 ["_law_script","_law_k"] (vh K))(D_law_draws:eC P w K mg base "_law_draws" 1 ["_law_cell","_law_many"] i9):bj P w K mg base fK 2 f fd ["_law_script","_law_start","_law_many"] (nQ K):=by
 refine F.ok sc_law_cells (fun vs H Q E h=>?_) (fun cdv A outer s H vs Q E hr h=>?_)
 ·obtain⟨a,ns,st,n,rfl,_⟩:=h
  rfl
 obtain⟨a,ns,st,n,rfl,hS,ln,lst,hn,k⟩:=h
 refine⟨_,(ag (az (i:=3) sc_law_cells.nd rfl (Or.inl rfl) (aO D_law_draws hr (by rfl) (aa (aO D_law_at hr (by rfl) (aa (pr 0) (aa (pr 1) af))) (aa (pr 2) af))))
 (ag (dX PassesOwn.never rfl (ik rfl T.n_range (aa (aJ (l7 rfl) (by rfl) T.n_min boot_min (aa (pr 2) (aa (aJ (rY rfl) (by rfl) T.n_max boot_max (aa ah (aa (au (o0 gg) (au (o0 gg) (aJ (aU K) (by rfl) T.n_len boot_len (aa (pr 0) af)) (pr 1)) ah) af))) af))) af)) (aC (i:=4) sc_law_cells.nd rfl (Or.inl rfl))
 (ak (jm (bu (dC K) (pr 0) (au (eI K) (au (eI K) (pr 1) ah) (pr 4)) (fun _ _=>rfl)) (nu (pr 3) (pr 4) vg))))
 (ak (aQ (pr 3))))),?_⟩
 have hs:sizeLine=16777216:=sizeLine_eq
 refine ba (fun σ H'=>∃(q:Addr) (ys:List Int),ys.length=n∧H q=none∧H' q=some (.lst (ys.map V.int))∧σ=[some (.ref a),some (.int st),some (.int n),some (.ref q),none]∧aq H H') ?_ ?_
 rotate_left
 ·intro u' hu
  walk_at "rd"
  exact⟨a,ns,st,rfl,hS,by omega,by omega,_,n,rfl,hn,fun q ys H' hl hy hq hq' s1=>hu _ _ ⟨q,ys,hl,hq,hq',rfl,s1⟩⟩
 rintro _ H1 ⟨q,ys,hl,hq0,hq1,rfl,s1⟩
 refine ba (fun σ H'=>∃(ys:List Int) (o4:Option V),ys.length=n∧H' q=some (.lst (ys.map V.int))∧σ=[some (.ref a),some (.int st),some (.int n),some (.ref q),o4]∧aq H H') ?_ ?_
 rotate_left
 ·intro u' hu
  walk_at "rd"
  refine⟨_,.inl (s1.seq hS),?_⟩
  rw [List.length_map]
  obtain⟨M,hM⟩:∃M:Int,M=if (if (ns.length:Int) - (st:Int) - 1 > 0 then(ns.length:Int) - (st:Int) - 1 else 0) < (n:Int)then if (ns.length:Int) - (st:Int) - 1 > 0 then(ns.length:Int) - (st:Int) - 1 else 0 else(n:Int):=⟨_,rfl⟩
  have hM1:0≤M∧M≤n∧(0 < M→M≤(ns.length:Int) - (st:Int) - 1):=by
   rw [hM]
   split<;>split<;>omega
  rw [←hM]
  obtain⟨Pv,hPv⟩:∃Pv:Nat→L2.St→Hp→Prop,Pv=fun i σ H'=>∃(ys:List Int) (o4:Option V),ys.length=n∧H' q=some (.lst (ys.map V.int))∧σ=[some (.ref a),some (.int st),some (.int n),some (.ref q),o4]∧aq H H':=⟨_,rfl⟩
  refine⟨by omega,by omega,gf Pv (by rw [hPv];exact⟨ys,none,hl,hq1,rfl,s1⟩) ?_ ?_⟩
  ·rintro i σ H3 hi hI
   rw [hPv]at hI
   obtain⟨zs,o4,zl,hq3,rfl,s3⟩:=hI
   walk_at "rd"
   refine gh (s3.seq hS) (by omega) (by rw [List.length_map];omega) fun v hv _=>?_
   obtain⟨c,_,rfl⟩:=List.mem_map.mp hv
   refine⟨_,hq3,i,?_,?_⟩
   ·unfold v8
    rw [List.length_map,if_pos (by omega),if_pos (by omega),Int.toNat_natCast]
   rw [hPv]
   refine⟨zs.set i c,_,by rw [List.length_set,zl],by rw [ae,List.map_set],rfl,xF hq0 s3⟩
  ·rintro σ H3 hI
   rw [hPv]at hI
   obtain⟨zs,o4,zl,hq3,rfl,s3⟩:=hI
   exact hu _ _ ⟨zs,o4,zl,hq3,rfl,s3⟩
 rintro _ H2 ⟨ys,o4,hl,hq2,rfl,s2⟩
 walk_at "rd"
 exact k q ys H2 hl hq0 hq2 s2
end
local macro_rules | `(tactic| walk_at "rd") => `(tactic| (try dsimp only [↓aS, ↓aR, ↓aw, ↓aD, ↓aE, ↓aF, ↓aG, ↓aH, ↓ax, ↓ay, j5, jM, jI, jU, cD, cC, eQ, cA, eR, cB, du, cI, eL, cc, tC, jE, lu, fc, fJ, dn, c8, j4, cE, c7, fe, fC, lj, fG, lh, lq, a0, L2.start, List.map_cons, List.map_nil, List.length_cons, List.length_nil, List.replicate, List.cons_append, List.nil_append, List.set_cons_zero, List.set_cons_succ, aS, aR, aw, aD, aE, aF, aG, aH, ax, ay]) <;> (try simp only [↓aS, ↓aR, ↓aw, ↓aD, ↓aE, ↓aF, ↓aG, ↓aH, ↓ax, ↓ay, ↓uh, ↓ui, j5, jM, jI, jU, cD, cC, eQ, cA, eR, cB, du, cI, eL, cc, jw, tC, jE, lu, fc, e8, fJ, dn, c8, j4, cE, c7, fe, fC, lj, fG, fE, iP, fH, lh, lq, fP, a0, tE, k8, jg, gq, jG, jO, rI, rU, L2.start, bC, bD, br, bA, bB, bE, bF, bG, bt, cW, dQ, cP, cT, cQ, bS, bX, bT, bY, bR, bW, cU, cO, cS, cR, bo, List.map_cons, List.map_nil, List.length_cons, List.length_nil, List.replicate, List.cons_append, List.nil_append, List.append_nil, List.getElem?_cons_zero, List.getElem?_cons_succ, List.set_cons_zero, List.set_cons_succ, Option.some.injEq, fk, gL, bI, dm, dj, V.int.injEq, V.str.injEq, V.bl.injEq, V.ref.injEq, V.ty.injEq, List.cons.injEq, and_true, true_and, rf, gu, gv, eP, fY, hZ, f6, gy, gO, dy, d0, gr, cG, eY, jJ, gN, eO, eA, km, cX, cY, jH, gx, eX, fF, jR, jP, fZ, iO, bU, bZ, bV, b0, dw, c6, jQ, Int.zero_add, if_true, Bool.false_eq_true, if_false, cσ, List.getD_cons_zero, List.getD_cons_succ, di, fj, gJ, decide_eq_true_eq, reduceCtorEq, false_and, dk, false_or, or_false, gK, List.length_map, jS, jT, tP, ll, cL, dR, Bool.not_eq_true', ke, ite_not, aS, aR, aw, aD, aE, aF, aG, aH, ax, ay]) <;> try simp only [cb, bP, bO, dJ, dP, bJ, bK, cM, cN, bQ, bI, dm, dj, di, and_true, true_and, V.int.injEq, V.str.injEq, V.bl.injEq, V.ref.injEq, reduceCtorEq, false_and, dk, false_or, or_false])
local macro_rules | `(tactic| walk_at "flds") => `(tactic| simp only [aV, aZ, String.reduceEq, if_false, if_true, List.lookup])
def sS(b:Int×Int):Option Int→Nat
 | none=>wN b
 | some v=>if b.1≤v∧v≤b.2 then 1 else 0
def tX(l:List ((Int×Int)×Option Int)):Nat:=l.foldl (fun t p=>t * sS p.1 p.2) 1
theorem n8(l:List ((Int×Int)×Option Int))(p:(Int×Int)×Option Int):tX (l++[p])=tX l * sS p.1 p.2:=by
 unfold tX
 rw [List.foldl_append]
 rfl
theorem mB(k:Nat):∀n:Nat,((List.range n).filter fun j=>decide (j=k)).length=if k < n then 1 else 0
 | 0=>rfl
 | n+1=>by
  rw [List.range_succ,List.filter_append,List.length_append,mB k n]
  by_cases h:n=k
  ·subst h
   simp
  ·have h2:([n].filter fun j=>decide (j=k)).length=0:=by simp [h]
   rw [h2]
   by_cases h1:k < n
   ·rw [if_pos h1,if_pos (Nat.lt_succ_of_lt h1)]
   ·rw [if_neg h1,if_neg (fun h3=>by omega)]
theorem vM{c:List Int}{ws:List (Option Int)}(h:c.length=ws.length)(u:Int)(o:Option Int):jy (c++[u]) (ws++[o])=(jy c ws && (decide (o=none) || decide (o=some u))):=by
 unfold jy
 rw [List.zip_append h,List.all_append]
 simp
theorem vV{b:Int×Int}{c:List Int}{ws:List (Option Int)}(h:c.length=ws.length)(o:Option Int):((fb b c).filter fun d=>jy d (ws++[o])).length=if jy c ws=true then sS b o else 0:=by
 unfold fb
 rw [List.filter_map,List.length_map]
 have e:((fun d=>jy d (ws++[o]))∘fun(j:Nat)=>c++[b.1+(j:Int)])=fun(j:Nat)=>jy c ws && (decide (o=none) || decide (o=some (b.1+(j:Int)))):=by
  funext j
  exact vM h _ _
 rw [e]
 cases ha:jy c ws with
 | false=>
  simp
 | true=>
  rw [if_pos rfl]
  cases o with
  | none=>
   show((List.range (wN b)).filter fun _=>true).length=wN b
   rw [List.filter_eq_self.mpr (fun _ _=>rfl),List.length_range]
  | some v=>
   have e2:(List.range (wN b)).filter (fun(j:Nat)=>(true && (decide (some v=none) || decide (some v=some (b.1+(j:Int))))))=(List.range (wN b)).filter fun j=>decide (j=if b.1≤v then(v - b.1).toNat else wN b):=by
    refine List.filter_congr fun j hj=>?_
    have hj:=List.mem_range.mp hj
    simp only [Bool.true_and,reduceCtorEq,decide_false,Bool.false_or,Option.some.injEq]
    by_cases hv:b.1≤v
    ·rw [if_pos hv]
     exact decide_eq_decide.mpr ⟨fun h=>by omega,fun h=>by omega⟩
    ·rw [if_neg hv]
     exact decide_eq_decide.mpr ⟨fun h=>by omega,fun h=>by omega⟩
   rw [e2,mB]
   show _=if b.1≤v∧v≤b.2 then 1 else 0
   unfold wN
   by_cases hv:b.1≤v
   ·rw [if_pos hv]
    by_cases hv2:v≤b.2
    ·rw [if_pos (by omega),if_pos ⟨hv,hv2⟩]
    ·rw [if_neg (by omega),if_neg (fun h=>hv2 h.2)]
   ·rw [if_neg hv,if_neg (by omega),if_neg (fun h=>hv h.1)]
theorem oB{α β:Type}{f:α→List β}{p:β→Bool}{q:α→Bool}{k:Nat}:∀{l:List α},(∀x∈l,((f x).filter p).length=if q x=true then k else 0)→((l.flatMap f).filter p).length=(l.filter q).length * k
 | [],_=>by simp
 | x::l,h=>by
  rw [List.flatMap_cons,List.filter_append,List.length_append,h x (by simp),oB fun y hy=>h y (by simp [hy])]
  rw [List.filter_cons]
  cases q x with
  | true=>simp [Nat.add_mul,Nat.add_comm]
  | false=>simp
def pI(bs:List (Int×Int))(ws:List (Option Int)):Nat:=((aB bs).filter fun c=>jy c ws).length
theorem tZ{bs:List (Int×Int)}{ws:List (Option Int)}(h:ws.length=bs.length):∀n:Nat,n≤bs.length→pI (bs.take n) (ws.take n)=tX ((bs.zip ws).take n)
 | 0,_=>by simp [pI,tX,aB,jy]
 | n+1,hn=>by
  have ih:=tZ h n (by omega)
  have eb:bs.take (n+1)=bs.take n++[bs[n]]:=by rw [List.take_add_one,List.getElem?_eq_getElem (by omega)];rfl
  have ew:ws.take (n+1)=ws.take n++[ws[n]]:=by rw [List.take_add_one,List.getElem?_eq_getElem (by omega)];rfl
  have hz:(bs.zip ws)[n]?=some (bs[n],ws[n]):=List.getElem?_zip_eq_some.mpr ⟨List.getElem?_eq_getElem (by omega),List.getElem?_eq_getElem (by omega)⟩
  have ez:(bs.zip ws).take (n+1)=(bs.zip ws).take n++[(bs[n],ws[n])]:=by rw [List.take_add_one,hz];rfl
  rw [ez,n8,←ih,eb,ew]
  unfold pI
  rw [iC]
  refine oB fun c hc=>vV ?_ _
  rw [fN _ c hc,List.length_take,List.length_take]
  omega
theorem vL{bs:List (Int×Int)}{ws:List (Option Int)}(h:ws.length=bs.length):pI bs ws=tX (bs.zip ws):=by
 have:=tZ h bs.length (Nat.le_refl _)
 rw [List.take_length,←h,List.take_length,List.take_of_length_le (by rw [List.length_zip];omega)]at this
 exact this
theorem om(bs:List (Int×Int)):∀(gs:List (List (Option Int))) (s:MS),gA [] (aB bs) gs s=gs.foldr (fun g t=>(pI bs g:Int) * t) 1
 | [],s=>rfl
 | g::gs,s=>by
  have e:gA [] (aB bs) (g::gs) s=(((aB bs).filter fun c=>jy c g).map fun c=>gA [] (aB bs) gs (some c,[])).sum:=by
   show(((aB bs).filter fun c=>jy c g && (bH [] s c).isSome).map fun c=>match bH [] s c with | some s'=>gA [] (aB bs) gs s' | none=>0).sum=_
   have:(fun c=>jy c g && (bH [] s c).isSome)=fun c=>jy c g:=by
    funext c
    show(jy c g && true)=jy c g
    simp
   rw [this]
   rfl
  rw [e,List.foldr_cons]
  have:((aB bs).filter fun c=>jy c g).map (fun c=>gA [] (aB bs) gs (some c,[]))=List.replicate (pI bs g) (gs.foldr (fun g t=>(pI bs g:Int) * t) 1):=by
   unfold pI
   rw [←List.map_const]
   refine List.map_congr_left fun c _=>?_
   exact om bs gs _
  rw [this]
  have rep:∀(n:Nat) (t:Int),(List.replicate n t).sum=(n:Int) * t:=by
   intro n t
   induction n with
   | zero=>simp
   | succ n ih=>
    rw [List.replicate_succ,List.sum_cons,ih]
    rw [show((n+1:Nat):Int)=(n:Int)+1 by omega,Int.add_mul]
    omega
  exact rep _ _
def fL(bs:List (Int×Int))(gs:List (List (Option Int))):Int:=gs.foldl (fun t g=>t * (pI bs g:Int)) 1
theorem qZ(bs:List (Int×Int))(gs:List (List (Option Int)))(s:MS):gA [] (aB bs) gs s=fL bs gs:=by
 rw [om]
 have go:∀(gs:List (List (Option Int))) (t:Int),gs.foldl (fun t g=>t * (pI bs g:Int)) t=t * gs.foldr (fun g t=>(pI bs g:Int) * t) 1:=by
  intro gs
  induction gs with
  | nil=>intro t;simp
  | cons g gs ih=>
   intro t
   rw [List.foldl_cons,ih,List.foldr_cons,Int.mul_assoc]
 unfold fL
 rw [go,Int.one_mul]
theorem oy(bs:List (Int×Int))(gs:List (List (Option Int)))(g:List (Option Int)):fL bs (gs++[g])=fL bs gs * (pI bs g:Int):=by
 unfold fL
 rw [List.foldl_append]
 rfl
local macro_rules | `(tactic| walk_at "rd") => `(tactic| (try dsimp only [↓aS, ↓aR, ↓aw, ↓aD, ↓aE, ↓aF, ↓aG, ↓aH, ↓ax, ↓ay, j5, jM, jI, jU, cD, cC, eQ, cA, eR, cB, du, cI, eL, cc, tC, jE, lu, fc, fJ, dn, c8, j4, cE, c7, fe, fC, lj, fG, lh, lq, a0, L2.start, List.map_cons, List.map_nil, List.length_cons, List.length_nil, List.replicate, List.cons_append, List.nil_append, List.set_cons_zero, List.set_cons_succ, aS, aR, aw, aD, aE, aF, aG, aH, ax, ay]) <;> (try simp only [↓aS, ↓aR, ↓aw, ↓aD, ↓aE, ↓aF, ↓aG, ↓aH, ↓ax, ↓ay, ↓uh, ↓ui, j5, jM, jI, jU, cD, cC, eQ, cA, eR, cB, du, cI, eL, cc, jw, tC, jE, lu, fc, e8, fJ, dn, c8, j4, cE, c7, fe, fC, lj, fG, fE, iP, fH, lh, lq, fP, a0, tE, k8, jg, gq, jG, jO, rI, rU, L2.start, bC, bD, br, bA, bB, bE, bF, bG, bt, cW, dQ, cP, cT, cQ, bS, bX, bT, bY, bR, bW, cU, cO, cS, cR, bo, List.map_cons, List.map_nil, List.length_cons, List.length_nil, List.replicate, List.cons_append, List.nil_append, List.append_nil, List.getElem?_cons_zero, List.getElem?_cons_succ, List.set_cons_zero, List.set_cons_succ, Option.some.injEq, fk, gL, bI, dm, dj, V.int.injEq, V.str.injEq, V.bl.injEq, V.ref.injEq, V.ty.injEq, List.cons.injEq, and_true, true_and, rf, gu, gv, eP, fY, hZ, f6, gy, gO, dy, d0, gr, cG, eY, jJ, gN, eO, eA, km, cX, cY, jH, gx, eX, fF, jR, jP, fZ, iO, bU, bZ, bV, b0, dw, c6, jQ, Int.zero_add, if_true, Bool.false_eq_true, if_false, cσ, List.getD_cons_zero, List.getD_cons_succ, di, fj, gJ, decide_eq_true_eq, reduceCtorEq, false_and, dk, false_or, or_false, gK, List.length_map, jS, jT, tP, ll, cL, dR, Bool.not_eq_true', ke, ite_not, aS, aR, aw, aD, aE, aF, aG, aH, ax, ay]) <;> try simp only [cb, bP, bO, dJ, dP, bJ, bK, cM, cN, bQ, bI, dm, dj, di, and_true, true_and, V.int.injEq, V.str.injEq, V.bl.injEq, V.ref.injEq, reduceCtorEq, false_and, dk, false_or, or_false])
local macro_rules | `(tactic| walk_at "flds") => `(tactic| simp only [aV, aZ, String.reduceEq, if_false, if_true, List.lookup])
def nR(K:PySem.W.Frag):Sp:=fun vs H Q _=>∃(t:Addr) (b:Int×Int) (y:Int) (k:Bool),vs=[.ref t,.int y,.bl k]∧cq K H t [.int b.1,.int b.2]∧b.1≤b.2∧0≤y∧∀(o:Option Int) H',aq H H'→Q (rz o) H'
def kT(K:PySem.W.Frag):Sp:=fun vs H Q _=>∃(a c:Addr) (bs:List (Int×Int)) (ws:List (Option Int)),vs=[.ref a,.ref c]∧cz K H a bs∧H c=some (.tup (ws.map rz))∧ws.length=bs.length∧bs.length≤4∧(∀b∈bs,xB b)∧ix bs≤400∧Q (.int (pI bs ws)) H
def rK(K:PySem.W.Frag):Sp:=fun vs H Q _=>∃(a:Addr) (ns:List Int),vs=[.ref a]∧aL K H a (ns.map V.int)∧(∀x∈ns,x.natAbs < 2 ^ GB)∧ns.length≤63∧∀H',Q (.bl true) H'
theorem tY:∀(l:List ((Int×Int)×Option Int)) (t:Nat),(∀p∈l,1≤wN p.1)→l.foldl (fun t p=>t * sS p.1 p.2) t≤(l.map Prod.fst).foldl (fun t b=>t * wN b) t
 | [],t,_=>Nat.le_refl _
 | p::l,t,h=>by
  rw [List.foldl_cons,List.map_cons,List.foldl_cons]
  have h1:sS p.1 p.2≤wN p.1:=by
   have:=h p (by simp)
   unfold sS
   split
   ·exact Nat.le_refl _
   ·split<;>omega
  have mono:∀(l:List (Int×Int)) (a b:Nat),a≤b→l.foldl (fun t b=>t * wN b) a≤l.foldl (fun t b=>t * wN b) b:=by
   intro l
   induction l with
   | nil=>intro a b h;exact h
   | cons x l ih=>intro a b h;exact ih _ _ (Nat.mul_le_mul_right _ h)
  exact Nat.le_trans (tY l _ fun q hq=>h q (by simp [hq])) (mono _ _ _ (Nat.mul_le_mul_left _ h1))
section
variable {P:Program} {w:World} {K:PySem.W.Frag} {mg:Str→Option Value} {base:Heap} {aM:Addr}
theorem uI{f:Addr}{fd:FuncData}(F:f9 K "_law_given" "_law_given" g9 f fd)(T:Txt mg aM):bj P w K mg base fK 1 f fd ["_law_pair","_law_way","_law_long"] (nR K):=by
 refine F.ok sc_law_given (fun vs H Q E h=>?_) (fun cdv A outer s H vs Q E hr h=>?_)
 ·obtain⟨t,b,y,k,rfl,_⟩:=h
  rfl
 obtain⟨t,b,y,k,rfl,ht,hle,y0,q⟩:=h
 refine⟨_,(ag (jm (pr 0) (eE K (n:=2) rfl (aW (aC (i:=3) sc_law_given.nd rfl (Or.inl rfl)) (aW (aC (i:=4) sc_law_given.nd rfl (Or.inl rfl)) eF))))
 (ag (eJ (eU (aX uE (au (o1 cf) (pr 1) ah) ah (aT _))) (ak (aQ eS)) dh)
 (ag (eJ (PW.pt (nA (eU (aX uE (au (o1 cf) (au (o1 de) (pr 1) ah) ah) ah (aT _))) (nB (PW.pt (kJ (kI (eK (pr 2) (fun _=>rfl))) (kK (eU (aX uE (au (o1 cf) (au (o1 de) (pr 1) ah) ah) ah (aT _))))))))) (ak (aQ (bu (dC K) (cg (aa (au (o0 gg) (pr 3) ah) (aa (au (eI K) (pr 4) ah) (aa (au (eI K) (pr 4) (au (o1 ni) ah ah)) af)))) (au (o1 cf) (au (o1 de) (pr 1) ah) ah) (fun _ _=>rfl)))) dh)
 (ak (aQ (au (eI K) (pr 3) (au (o1 cf) (au (o1 de) (pr 1) ah) (au (eI K) (au (o0 gg) (pr 4) (pr 3)) ah)))))))),?_⟩
 have hs:sizeLine=16777216:=sizeLine_eq
 walk_at "rd"
 refine⟨_,ht,rfl,_,_,rfl,_,_,rfl,rfl,by decide,?_⟩
 by_cases h2:y % 2=0
 ·rw [if_pos h2]
  exact q none H (aq.refl H)
 rw [if_neg h2]
 refine⟨⟨by decide,by decide⟩,by decide,?_⟩
 by_cases h5:y / 2 % 8=5
 ·rw [if_pos h5]
  by_cases hk:k=false
  ·rw [if_pos hk]
   refine⟨_,rfl,rAddA_ii.mpr ⟨⟨by decide,by decide,by decide⟩,rAddA_ii.mpr ⟨by omega,fun p hp=>⟨⟨by decide,by decide⟩,by decide,gh (aL.of ae) (by omega) (by simp;omega) fun v hv _=>?_⟩⟩⟩⟩
   simp only [List.mem_cons,List.not_mem_nil,or_false]at hv
   rcases hv with rfl | rfl | rfl<;>exact q (some _) _ (ao hp)
  ·rw [if_neg hk]
   refine⟨⟨by decide,by decide⟩,by decide,?_⟩
   by_cases h7:y / 48 % 40=7
   ·rw [if_pos h7]
    refine⟨_,rfl,rAddA_ii.mpr ⟨⟨by decide,by decide,by decide⟩,rAddA_ii.mpr ⟨by omega,fun p hp=>⟨⟨by decide,by decide⟩,by decide,gh (aL.of ae) (by omega) (by simp;omega) fun v hv _=>?_⟩⟩⟩⟩
    simp only [List.mem_cons,List.not_mem_nil,or_false]at hv
    rcases hv with rfl | rfl | rfl<;>exact q (some _) _ (ao hp)
   ·rw [if_neg h7]
    exact⟨⟨by decide,by decide⟩,_,rfl,_,rfl,by omega,rAddA_ii.mpr (q (some _) H (aq.refl H))⟩
 ·rw [if_neg h5]
  exact⟨⟨by decide,by decide⟩,_,rfl,_,rfl,by omega,rAddA_ii.mpr (q (some _) H (aq.refl H))⟩
theorem sN{f:Addr}{fd:FuncData}(F:f9 K "_law_factor" "_law_factor" gj f fd)(T:Txt mg aM):bj P w K mg base fK 1 f fd ["_law_ranges_here","_law_column"] (kT K):=by
 refine F.ok sc_law_factor (fun vs H Q E h=>?_) (fun cdv A outer s H vs Q E hr h=>?_)
 ·obtain⟨a,c,bs,ws,rfl,_⟩:=h
  rfl
 obtain⟨a,c,bs,ws,rfl,⟨ts,hts,htl,htc⟩,hc,hwl,lb,hb,hcn,q⟩:=h
 refine⟨_,(ag (az (i:=2) sc_law_factor.nd rfl (Or.inl rfl) ah)
 (ag (dX PassesOwn.never rfl (ik rfl T.n_range (aa (aJ (aU K) (by rfl) T.n_len boot_len (aa (pr 0) af)) af)) (aC (i:=3) sc_law_factor.nd rfl (Or.inl rfl))
 (ag (jm (bu (dC K) (pr 0) (pr 3) (fun _ _=>rfl)) (eE K (n:=2) rfl (aW (aC (i:=4) sc_law_factor.nd rfl (Or.inl rfl)) (aW (aC (i:=5) sc_law_factor.nd rfl (Or.inl rfl)) eF))))
 (ak (eJ (eU (aX ng (bu (dC K) (pr 1) (pr 3) (fun _ _=>rfl)) eS (aT _))) (ak (az (i:=2) sc_law_factor.nd rfl (Or.inl rfl) (au (lO K) (pr 2) (au (eI K) (au (o0 gg) (pr 5) (pr 4)) ah)))) (ak (eJ (kI (eU (uY (o0 uP) (o0 uP) (pr 4) (bu (dC K) (pr 1) (pr 3) (fun _ _=>rfl)) (pr 5)))) (ak (az (i:=2) sc_law_factor.nd rfl (Or.inl rfl) ah)) dh))))))
 (ak (aQ (pr 2))))),?_⟩
 have hs:sizeLine=16777216:=sizeLine_eq
 walk_at "rd"
 refine⟨_,.inl hts,?_⟩
 rw [List.length_map,htl]
 obtain⟨Pv,hPv⟩:∃Pv:Nat→L2.St→Hp→Prop,Pv=fun i σ H'=>∃o3 o4 o5:Option V,σ=[some (.ref a),some (.ref c),some (.int (tX ((bs.zip ws).take i))),o3,o4,o5]∧H=H':=⟨_,rfl⟩
 refine⟨by omega,by omega,gf Pv (by rw [hPv];exact⟨none,none,none,rfl,rfl⟩) ?_ ?_⟩
 ·rintro i σ H1 hi hI
  rw [hPv]at hI
  obtain⟨o3,o4,o5,rfl,rfl⟩:=hI
  have hi:i < bs.length:=by omega
  have eb:bs[i]?=some bs[i]:=List.getElem?_eq_getElem hi
  have ew:ws[i]?=some ws[i]:=List.getElem?_eq_getElem (by omega)
  have et:ts[i]?=some ts[i]:=List.getElem?_eq_getElem (by omega)
  have ez:(bs.zip ws).take (i+1)=(bs.zip ws).take i++[(bs[i],ws[i])]:=by
   have hz:(bs.zip ws)[i]?=some (bs[i],ws[i]):=List.getElem?_zip_eq_some.mpr ⟨eb,ew⟩
   rw [List.take_add_one,hz]
   rfl
  have o1:=hb _ (List.getElem_mem hi)
  have cle:tX ((bs.zip ws).take i)≤400:=by
   have h1:=tY ((bs.zip ws).take i) 1 fun p hp=>(hb p.1 (List.of_mem_zip (List.mem_of_mem_take hp)).1).big.2.2.2.2
   rw [List.map_take,List.map_fst_zip (by omega)]at h1
   exact Nat.le_trans h1 (Nat.le_trans (gI (fun b hb'=>(hb b hb').big.2.2.2.2) i).2 hcn)
  have hgo:=n8 ((bs.zip ws).take i) (bs[i],ws[i])
  rw [←ez]at hgo
  walk_at "rd"
  refine eZ hts (bq (by rw [List.getElem?_map,et];rfl)) ?_
  refine⟨_,rfl,_,htc i _ _ et eb,rfl,_,_,rfl,_,_,rfl,rfl,?_⟩
  walk_at "rd"
  have fin:∀{z:Int} {H':Hp},z=((tX ((bs.zip ws).take (i+1)):Nat):Int)→H=H'→Pv (i+1) [some (.ref a),some (.ref c),some (.int z),some (.int i),some (.int bs[i].1),some (.int bs[i].2)] H':=fun {z H'} e e2=>by
   rw [hPv,e]
   exact⟨_,_,_,rfl,e2⟩
  have hix:∀{R:VK},R (rz ws[i]) H→rF K (V.ref c) (V.int (i:Int)) H R:=fun {R} r=>jC (cq.of hc) (bq (by rw [List.getElem?_map,ew];rfl)) r
  have w0:=o1.1
  have w1:=o1.2.2
  refine hix ?_
  cases hw:ws[i]with
  | none=>
   rw [hw]at hgo
   show(if V.non=V.non then _ else _)
   rw [if_pos rfl]
   refine⟨IntMulOk.of_le (m:=20) (n:=20) (intBits_le_iff.mpr (Nat.lt_of_le_of_lt (m:=400) (by omega) (by decide))) (intBits_le_iff.mpr (Nat.lt_of_le_of_lt (m:=12) (by omega) (by decide))) (by decide),fin ?_ rfl⟩
   rw [hgo,Int.natCast_mul]
   congr 1
   show _=((wN bs[i]:Nat):Int)
   unfold wN
   omega
  | some v=>
   rw [hw]at hgo
   have hgo:tX ((bs.zip ws).take (i+1))=tX ((bs.zip ws).take i) * (if bs[i].1≤v∧v≤bs[i].2 then 1 else 0):=hgo
   show(if V.int v=V.non then _ else _)
   rw [if_neg (fun e=>by cases e)]
   refine hix ?_
   rw [hw]
   refine⟨v,rfl,?_⟩
   by_cases h1:bs[i].1≤v
   ·rw [if_pos h1]
    refine⟨v,rfl,?_⟩
    by_cases h2:v≤bs[i].2
    ·rw [if_pos h2]
     rw [if_pos ⟨h1,h2⟩,Nat.mul_one]at hgo
     exact fin (by rw [hgo]) rfl
    ·rw [if_neg h2]
     rw [if_neg (fun h=>h2 h.2),Nat.mul_zero]at hgo
     exact fin (by rw [hgo];rfl) rfl
   ·rw [if_neg h1]
    rw [if_neg (fun h=>h1 h.1),Nat.mul_zero]at hgo
    exact fin (by rw [hgo];rfl) rfl
 ·rintro σ H1 hI
  rw [hPv]at hI
  obtain⟨o3,o4,o5,rfl,rfl⟩:=hI
  walk_at "rd"
  rw [Int.toNat_natCast,List.take_of_length_le (by rw [List.length_zip];omega),←vL hwl]
  exact q
end
local macro_rules | `(tactic| walk_at "rd") => `(tactic| (try dsimp only [↓aS, ↓aR, ↓aw, ↓aD, ↓aE, ↓aF, ↓aG, ↓aH, ↓ax, ↓ay, j5, jM, jI, jU, cD, cC, eQ, cA, eR, cB, du, cI, eL, cc, tC, jE, lu, fc, fJ, dn, c8, j4, cE, c7, fe, fC, lj, fG, lh, lq, a0, L2.start, List.map_cons, List.map_nil, List.length_cons, List.length_nil, List.replicate, List.cons_append, List.nil_append, List.set_cons_zero, List.set_cons_succ, aS, aR, aw, aD, aE, aF, aG, aH, ax, ay]) <;> (try simp only [↓aS, ↓aR, ↓aw, ↓aD, ↓aE, ↓aF, ↓aG, ↓aH, ↓ax, ↓ay, ↓uh, ↓ui, j5, jM, jI, jU, cD, cC, eQ, cA, eR, cB, du, cI, eL, cc, jw, tC, jE, lu, fc, e8, fJ, dn, c8, j4, cE, c7, fe, fC, lj, fG, fE, iP, fH, lh, lq, fP, a0, tE, k8, jg, gq, jG, jO, rI, rU, L2.start, bC, bD, br, bA, bB, bE, bF, bG, bt, cW, dQ, cP, cT, cQ, bS, bX, bT, bY, bR, bW, cU, cO, cS, cR, bo, List.map_cons, List.map_nil, List.length_cons, List.length_nil, List.replicate, List.cons_append, List.nil_append, List.append_nil, List.getElem?_cons_zero, List.getElem?_cons_succ, List.set_cons_zero, List.set_cons_succ, Option.some.injEq, fk, gL, bI, dm, dj, V.int.injEq, V.str.injEq, V.bl.injEq, V.ref.injEq, V.ty.injEq, List.cons.injEq, and_true, true_and, rf, gu, gv, eP, fY, hZ, f6, gy, gO, dy, d0, gr, cG, eY, jJ, gN, eO, eA, km, cX, cY, jH, gx, eX, fF, jR, jP, fZ, iO, bU, bZ, bV, b0, dw, c6, jQ, Int.zero_add, if_true, Bool.false_eq_true, if_false, cσ, List.getD_cons_zero, List.getD_cons_succ, di, fj, gJ, decide_eq_true_eq, reduceCtorEq, false_and, dk, false_or, or_false, gK, List.length_map, jS, jT, tP, ll, cL, dR, Bool.not_eq_true', ke, ite_not, aS, aR, aw, aD, aE, aF, aG, aH, ax, ay]) <;> try simp only [cb, bP, bO, dJ, dP, bJ, bK, cM, cN, bQ, bI, dm, dj, di, and_true, true_and, V.int.injEq, V.str.injEq, V.bl.injEq, V.ref.injEq, reduceCtorEq, false_and, dk, false_or, or_false])
local macro_rules | `(tactic| walk_at "flds") => `(tactic| simp only [aV, aZ, String.reduceEq, if_false, if_true, List.lookup])
theorem yV(s:MS)(c:List Int):bH [] s c=some (some c,[]):=rfl
theorem yU(ms:List Int)(b:Option (List Int)):c9 [] ms b=true:=rfl
def kj(bs:List (Int×Int)):List MS:=(none,[])::(aB bs).map fun c=>(some c,[])
theorem oC{bs:List (Int×Int)}(h:ix bs≤400):pK [] (aB bs) (kj bs):=by
 refine⟨by simp [kj],fun s _ c hc s' e=>?_,?_⟩
 ·cases e
  exact List.mem_cons_of_mem _ (List.mem_map.mpr ⟨c,hc,rfl⟩)
 ·unfold kj
  rw [List.length_cons,List.length_map,eh]
  omega
theorem sk{bs:List (Int×Int)}{met:List MS}(m:qR [] (aB bs) met)(h:∀s∈met,s∈kj bs):1≤met.length∧met.length≤ix bs+1:=by
 refine⟨?_,?_⟩
 ·have:=(List.getElem?_eq_some_iff.mp m.st).1
  omega
 ·have:=kz met (kj bs) m.nd h
  unfold kj at this
  rw [List.length_cons,List.length_map,eh]at this
  exact this
def gz(H:Hp)(p:Addr)(n:Nat)(gs:List Addr)(pats:List (List (Option Int))):Prop:=H p=some (.lst (gs.map V.ref))∧gs.length=pats.length∧∀(i:Nat) (g:Addr) (ws:List (Option Int)),gs[i]?=some g→pats[i]?=some ws→H g=some (.tup (ws.map rz))∧ws.length=n
theorem gz.same{H H':Hp}{p:Addr}{n:Nat}{gs:List Addr}{pats:List (List (Option Int))}(h:gz H p n gs pats)(s:aq H H'):gz H' p n gs pats:=⟨s _ _ h.1,h.2.1,fun i g ws e1 e2=>⟨s _ _ (h.2.2 i g ws e1 e2).1,(h.2.2 i g ws e1 e2).2⟩⟩
theorem gz.pat{K:PySem.W.Frag}{H:Hp}{p:Addr}{n:Nat}{gs:List Addr}{pats:List (List (Option Int))}(h:gz H p n gs pats):lY K H p pats:=⟨gs,aL.of h.1,h.2.1,fun i g ws e1 e2=>cq.of (h.2.2 i g ws e1 e2).1⟩
theorem gz.wide{H:Hp}{p:Addr}{n:Nat}{gs:List Addr}{pats:List (List (Option Int))}(h:gz H p n gs pats):∀ws∈pats,ws.length=n:=fun ws hw=>by
 obtain⟨i,hi⟩:=List.getElem?_of_mem hw
 obtain⟨g,hg⟩:∃g,gs[i]?=some g:=⟨_,List.getElem?_eq_getElem (by rw [h.2.1];exact(List.getElem?_eq_some_iff.mp hi).1)⟩
 exact(h.2.2 i g ws hg hi).2
theorem gz.move{H:Hp}{p q:Addr}{n:Nat}{gs:List Addr}{pats:List (List (Option Int))}(h:gz H p n gs pats)(hq:H q=none):gz (upd H q (.lst (gs.map V.ref))) q n gs pats:=⟨ae,h.2.1,fun i g ws e1 e2=>⟨(ao hq) _ _ (h.2.2 i g ws e1 e2).1,(h.2.2 i g ws e1 e2).2⟩⟩
theorem gz.put{H:Hp}{p t:Addr}{n:Nat}{gs:List Addr}{pats:List (List (Option Int))}{ws:List (Option Int)}(h:gz H p n gs pats)(ht:H t=some (.tup (ws.map rz)))(hn:ws.length=n):gz (upd H p (.lst (gs.map V.ref++[.ref t]))) p n (gs++[t]) (pats++[ws]):=by
 refine⟨by rw [ae,List.map_append];rfl,by rw [List.length_append,List.length_append,h.2.1];rfl,fun i g ws' e1 e2=>?_⟩
 by_cases hi:i < gs.length
 ·rw [List.getElem?_append_left hi]at e1
  rw [List.getElem?_append_left (by rw [←h.2.1];exact hi)]at e2
  obtain⟨h1,h2⟩:=h.2.2 i g ws' e1 e2
  rw [ai (fW h1 h.1 (fun e=>by cases e))]
  exact⟨h1,h2⟩
 ·rw [List.getElem?_append_right (by omega)]at e1
  rw [List.getElem?_append_right (by rw [←h.2.1];omega),←h.2.1]at e2
  have h0:i - gs.length=0:=by
   have:=(List.getElem?_eq_some_iff.mp e1).1
   simp at this
   omega
  rw [h0]at e1 e2
  cases e1
  cases e2
  rw [ai (fW ht h.1 (fun e=>by cases e))]
  exact⟨ht,hn⟩
theorem pP{bs:List (Int×Int)}{ws:List (Option Int)}:pI bs ws≤ix bs:=by
 unfold pI
 rw [←eh]
 exact List.length_filter_le _ _
theorem t7{bs:List (Int×Int)}(h:ix bs≤400)(gs:List (List (Option Int))):(fL bs gs).natAbs < 2 ^ (1+200 * gs.length):=j0 (fun g=>(pI bs g:Int)) gs 1 1 (by decide) fun g _=>by
 have:=pP (bs:=bs) (ws:=g)
 exact Nat.lt_of_le_of_lt (m:=400) (by omega) (by decide +kernel)
theorem mC{K:PySem.W.Frag}{H:Hp}{n:Nat}{rs:List Addr}(j:Nat)(x y:V)(hx:(rs.map V.ref)[j]?=some x)(hy:(rs.map V.ref)[j]?=some y):n0 K H n x y true:=by
 rw [hx]at hy
 cases hy
 obtain⟨r,_,rfl⟩:=List.mem_map.mp (List.mem_of_getElem? hx)
 exact n0.same
theorem vU{K:PySem.W.Frag}{H:Hp}{a c:Addr}{rs:List Addr}{Q:VK}(h:aL K H a (rs.map V.ref))(g:aL K H c (rs.map V.ref))(q:Q (.bl true) H):iF K (.ref a) (.ref c) H Q:=
 .inr ⟨true,⟨a,c,true,_,_,fun _=>true,rfl,rfl,h,g,fun j x y hx hy=>mC j x y hx hy,by simp⟩,q⟩
theorem wt{K:PySem.W.Frag}{H:Hp}{a c:Addr}{rs:List Addr}{Q:VK}(h:aL K H a (rs.map V.ref))(g:aL K H c (rs.map V.ref))(q:Q (.bl false) H):iG K (.ref a) (.ref c) H Q:=
 .inr ⟨true,⟨a,c,true,_,_,fun _=>true,rfl,rfl,h,g,fun j x y hx hy=>mC j x y hx hy,by simp⟩,q⟩
section
variable {P:Program} {w:World} {K:PySem.W.Frag} {mg:Str→Option Value} {base:Heap} {aM:Addr}
theorem yc{f C Cs:Addr}{fd:FuncData}(F:f9 K "law" "law" mE f fd)(T:Txt mg aM)(TC:eB K C)(TS:dG K Cs)(D_law_at:eC P w K mg base "_law_at" 12 ["_law_script","_law_k"] (vh K))(D_law_ranges:eC P w K mg base "_law_ranges" 12 ["_law_script","_law_most"] (kU K))(D_law_text:eC P w K mg base "_law_text" 12 ["_law_ranges_here","_law_rules"] (nU K))(D_read:eC P w K mg base "read" 12 ["text"] (nT P w K mg base Cs))
  (DM_Machine:mQ P w K mg base "Machine" C 11 ["self","score"] (iM P w K mg base C Cs)) (D_law_whole:eC P w K mg base "_law_whole" 12 ["_law_found"] nW) (D_law_cells:eC P w K mg base "_law_cells" 12 ["_law_script","_law_start","_law_many"] (nQ K)) (D_law_draws:eC P w K mg base "_law_draws" 12 ["_law_cell","_law_many"] i9) (D_law_given:eC P w K mg base "_law_given" 12 ["_law_pair","_law_way","_law_long"] (nR K)) (D_law_factor:eC P w K mg base "_law_factor" 12 ["_law_ranges_here","_law_column"] (kT K))
  (D_counted:eC P w K mg base "counted" 12 ["machine","pattern"] (jt P w K C Cs)):bj P w K mg base fK 13 f fd ["_law_script"] (rK K):=by
 refine F.ok sc_law (fun vs H Q E h=>?_) (fun cdv A outer s H vs Q E hr h=>?_)
 ·obtain⟨a,ns,rfl,_⟩:=h
  rfl
 obtain⟨a,ns,rfl,hS,hB,ln,k⟩:=h
 refine⟨_,(ag (az (i:=1) sc_law.nd rfl (Or.inr rfl) (aO D_law_ranges hr (by rfl) (aa (pr 0) (aa ah af))))
 (ag (az (i:=2) sc_law.nd rfl (Or.inr rfl) (au (eI K) (au (o1 cf) (aO D_law_at hr (by rfl) (aa (pr 0) (aa ah af))) ah) (au (lO K) ah (bz (ic) (by rfl) T.n_int boot_int (aa (dU (yb K (zj hr)) (au (o1 cf) (au (o1 de) (aO D_law_at hr (by rfl) (aa (pr 0) (aa ah af))) ah) ah) ah (aT _)) af)))))
 (ag (az (i:=3) sc_law.nd rfl (Or.inl rfl) (cg af))
 (ag (az (i:=4) sc_law.nd rfl (Or.inl rfl) ah)
 (ag (dX PassesOwn.never rfl (cu K (aO D_law_cells hr (by rfl) (aa (pr 0) (aa ah (aa (pr 2) af))))) (aC (i:=5) sc_law.nd rfl (Or.inl rfl))
 (ag (az (i:=6) sc_law.nd rfl (Or.inr rfl) (aO D_law_draws hr (by rfl) (aa (pr 5) (aa ah af))))
 (ag (az (i:=7) sc_law.nd rfl (Or.inl rfl) (bz (fM K) (by rfl) T.n_tuple boot_tuple (aa (dW (own:=["_law_k"]) (js:=[1,2,6]) rfl (ik rfl T.n_range (aa (aJ (aU K) (by rfl) T.n_len boot_len (aa (pr 1) af)) af)) (bf.of (by rfl)) (fun _ _ _ _ _=>(aC (i:=0) (show List.Nodup (["_law_k","_law_ranges_here","_law_many","_law_ways"]:List Str)from by decide +kernel) rfl (Or.inl rfl))) (fun _ _ _ _ _=>dY) (fun _ _ _ _ _=>(aO D_law_given hr (by rfl) (aa (bu (dC K) (pr 1) (pr 0) (fun _ _=>rfl)) (aa (bu (dC K) (pr 3) (pr 0) (fun _ _=>rfl)) (aa (dU (o0 uO) (pr 2) ah (aT _)) af)))))) af)))
 (ag (cv (c5 K PySem.F.plainAttrs_list PySem.F.slot_list_append PySem.F.type_list_append bL (pr 3) (aa (pr 7) af)))
 (ak (az (i:=4) sc_law.nd rfl (Or.inl rfl) (au (lO K) (pr 4) (aO D_law_factor hr (by rfl) (aa (pr 1) (aa (pr 7) af))))))))))
 (ag (az (i:=8) sc_law.nd rfl (Or.inl rfl) (xD DM_Machine hr (by rfl) (aa (aO D_read hr (by rfl) (aa (aO D_law_text hr (by rfl) (aa (pr 1) (aa (cg af) af))) af)) af)))
 (ag (az (i:=9) sc_law.nd rfl (Or.inl rfl) (bz (iB K) (by rfl) T.n_list boot_list (aa (pr 3) af)))
 (ag (az (i:=10) sc_law.nd rfl (Or.inl rfl) (aO D_counted hr (by rfl) (aa (pr 8) (aa (pr 9) af))))
 (ag (eJ (PW.pt (kJ (kI (eK (aO D_law_whole hr (by rfl) (aa (pr 10) af)) (fun _=>rfl))) (kJ (eU (aX (zt K (zj hr)) (pr 10) (pr 4) (aT _))) (kK (eU (aX (zt K (zj hr)) (pr 9) (pr 3) (aT _))))))) (ak (aQ oX)) dh)
 (ag (az (i:=11) sc_law.nd rfl (Or.inl rfl) (bz (fM K) (by rfl) T.n_tuple boot_tuple (aa (au (lO K) (cg (aa eS af)) (aJ (aU K) (by rfl) T.n_len boot_len (aa (pr 1) af))) af)))
 (ag (cv (c5 K PySem.F.plainAttrs_list PySem.F.slot_list_append PySem.F.type_list_append bL (pr 9) (aa (pr 11) af)))
 (ag (az (i:=10) sc_law.nd rfl (Or.inl rfl) (aO D_counted hr (by rfl) (aa (pr 8) (aa (pr 9) af))))
 (ak (aQ (uS (qh (aO D_law_whole hr (by rfl) (aa (pr 10) af)) (uS (qh (dU (yb K (zj hr)) (pr 10) (au (lO K) (pr 4) (aO D_law_factor hr (by rfl) (aa (pr 1) (aa (pr 11) af)))) (aT _)) (nk (dU (yb K (zj hr)) (pr 9) (au (eI K) (pr 3) (cg (aa (pr 11) af))) (aT _))))))))))))))))))))),?_⟩
 have hs:sizeLine=16777216:=sizeLine_eq
 refine ba (fun σ H'=>∃(q:Addr) (bs:List (Int×Int)),1≤bs.length∧bs.length≤4∧(∀b∈bs,xB b)∧ix bs≤12∧cz K H' q bs∧σ=[some (.ref a),some (.ref q),none,none,none,none,none,none,none,none,none,none]∧aq H H') ?_ ?_
 rotate_left
 ·intro u' hu
  walk_at "rd"
  exact⟨a,ns,12,rfl,hS,by decide,by decide,fun q bs H1 l1 l4 hb hc hq hC s1=>hu _ _ ⟨q,bs,l1,l4,hb,hc,hC.ranges,rfl,s1⟩⟩
 rintro _ H1 ⟨q,bs,l1,l4,hb,hc,RA,rfl,s1⟩
 have hbb:∀b∈bs,b.1.natAbs < 10 ^ 40∧b.2.natAbs < 10 ^ 40:=fun b h=>⟨(hb b h).big.2.1,(hb b h).big.2.2.1⟩
 have hw1:∀b∈bs,1≤wN b:=fun b h=>(hb b h).big.2.2.2.2
 have hwt:tR bs=(ix bs:Int):=xj fun b h=>(hb b h).1
 refine ba (fun σ H'=>∃n:Nat,n≤161∧σ=[some (.ref a),some (.ref q),some (.int n),none,none,none,none,none,none,none,none,none]∧H1=H') ?_ ?_
 rotate_left
 ·intro u' hu
  walk_at "rd"
  refine⟨a,ns,3,rfl,s1.seq hS,by decide,by decide,_,rfl,by decide,a,ns,3,rfl,s1.seq hS,by decide,by decide,_,rfl,⟨by decide,by decide⟩,by decide,.of_left (by decide),hu _ _ ⟨(yR ns 3 % 12+150 * if yR ns 3 / 12 % 6=4 then 1 else 0).toNat,by split<;>omega,?_,rfl⟩⟩
  rw [Int.toNat_of_nonneg (by split<;>omega)]
 rintro _ _ ⟨n,hn,rfl,rfl⟩
 refine ba (fun σ H'=>∃p:Addr,H1 p=none∧gz H' p bs.length [] []∧σ=[some (.ref a),some (.ref q),some (.int n),some (.ref p),none,none,none,none,none,none,none,none]∧aq H1 H') ?_ ?_
 rotate_left
 ·intro u' hu
  walk_at "rd"
  exact⟨by omega,fun p hp=>hu _ _ ⟨p,hp,⟨ae,rfl,fun i g ws e=>nomatch e⟩,rfl,ao hp⟩⟩
 rintro _ H2 ⟨p,hp1,P2,rfl,s2⟩
 refine ba (fun σ H'=>σ=[some (.ref a),some (.ref q),some (.int n),some (.ref p),some (.int 1),none,none,none,none,none,none,none]∧H2=H') ?_ ?_
 rotate_left
 ·intro u' hu
  walk_at "rd"
  exact hu _ _ ⟨rfl,rfl⟩
 rintro _ _ ⟨rfl,rfl⟩
 refine ba (fun σ H'=>∃(gs:List Addr) (pats:List (List (Option Int))) (o5 o6 o7:Option V),pats.length≤161∧gz H' p bs.length gs pats∧σ=[some (.ref a),some (.ref q),some (.int n),some (.ref p),some (.int (fL bs pats)),o5,o6,o7,none,none,none,none]∧aq H1 H') ?_ ?_
 rotate_left
 ·intro u' hu
  walk_at "rd"
  refine⟨a,ns,4,n,rfl,(s1.trans s2).seq hS,ln,by decide,by omega,fun ce cs H3 cl3 hce0 hce s3=>?_⟩
  obtain⟨Pv,hPv⟩:∃Pv:Nat→L2.St→Hp→Prop,Pv=fun i σ H'=>∃(gs:List Addr) (pats:List (List (Option Int))) (o5 o6 o7:Option V),pats.length=i∧gz H' p bs.length gs pats∧H' ce=some (.lst (cs.map V.int))∧σ=[some (.ref a),some (.ref q),some (.int n),some (.ref p),some (.int (fL bs pats)),o5,o6,o7,none,none,none,none]∧aq H1 H':=⟨_,rfl⟩
  refine cH (aL.of hce) (el (xs:=cs.map V.int) Pv (by rw [hPv];exact⟨[],[],none,none,none,rfl,P2.same s3,hce,rfl,s2.trans s3⟩) (fun i σ H' _ h=>by rw [hPv]at h;obtain⟨_,_,_,_,_,_,_,h,_⟩:=h;exact aL.of h) ?_ ?_)
  ·rintro i y σ H4 hy hI
   have hi:i < n:=by
    have:=(List.getElem?_eq_some_iff.mp hy).1
    rw [List.length_map]at this
    omega
   rw [hPv]at hI
   obtain⟨gs,pats,o5,o6,o7,pl,P4,hce4,rfl,s4⟩:=hI
   obtain⟨c,_,rfl⟩:∃c∈cs,V.int c=y:=List.mem_map.mp (List.mem_of_getElem? hy)
   refine ba (fun σ H'=>∃(wa:Addr) (ys:List Int),ys.length=4∧(∀y∈ys,0≤y∧y < 399999)∧H' wa=some (.lst (ys.map V.int))∧σ=[some (.ref a),some (.ref q),some (.int n),some (.ref p),some (.int (fL bs pats)),some (.int c),some (.ref wa),o7,none,none,none,none]∧aq H4 H') ?_ ?_
   rotate_left
   ·intro u2 jW
    walk_at "rd"
    exact⟨c,4,rfl,by decide,fun wa ys H5 yl hy5 _ hw5 s5=>jW _ _ ⟨wa,ys,yl,hy5,hw5,rfl,s5⟩⟩
   rintro _ H5 ⟨wa,ys,yl,hy5,hw5,rfl,s5⟩
   refine ba (fun σ H'=>∃(t:Addr) (ws:List (Option Int)),ws.length=bs.length∧H' t=some (.tup (ws.map rz))∧σ=[some (.ref a),some (.ref q),some (.int n),some (.ref p),some (.int (fL bs pats)),some (.int c),some (.ref wa),some (.ref t),none,none,none,none]∧aq H5 H') ?_ ?_
   rotate_left
   ·intro u2 jW
    walk_at "rd"
    obtain⟨ts,hts,htl,htc⟩:=RA.same (s4.trans s5)
    refine⟨_,.inl hts,?_⟩
    rw [List.length_map,htl]
    refine⟨by omega,by omega,jz (fun j zs H'=>∃ws:List (Option Int),ws.length=j∧zs=ws.map rz∧aq H5 H') (by omega) ⟨[],rfl,rfl,aq.refl _⟩ (fun j zs H' h=>by obtain⟨ws,h1,rfl,_⟩:=h;rw [List.length_map];omega) ?_ ?_⟩
    ·rintro j zs H6 hj ⟨ws,wl,rfl,s6⟩
     have hj:j < bs.length:=by omega
     have eb:bs[j]?=some bs[j]:=List.getElem?_eq_getElem hj
     have et:ts[j]?=some ts[j]:=List.getElem?_eq_getElem (by omega)
     simp only [fi]
     walk_at "rd"
     refine eZ (s6.seq hts) (bq (by rw [List.getElem?_map,et];rfl)) (gh (aL.of (s6 _ _ hw5)) (by omega) (by rw [List.length_map];omega) fun v hv _=>?_)
     obtain⟨y,hy',rfl⟩:=List.mem_map.mp hv
     exact⟨ts[j],bs[j],y,_,rfl,s6.tup (htc j _ _ et eb),(hb _ (List.getElem_mem hj)).1,(hy5 y hy').1,fun o H7 s7=>⟨ws++[o],by rw [List.length_append,wl];rfl,by rw [List.map_append];rfl,s6.trans s7⟩⟩
    ·rintro zs H6 ⟨ws,wl,rfl,s6⟩ p1 hp1'
     exact⟨_,.inl ⟨aL.of ae,fun l hl=>jW _ _ ⟨l,ws,by omega,ae,rfl,(s6.upd hp1').upd hl⟩⟩⟩
   rintro _ H6 ⟨t,ws,hwl,ht,rfl,s6⟩
   walk_at "rd"
   have P6:=(P4.same s5).same s6
   have s16:=xF (x:=HO.lst (gs.map V.ref++[.ref t])) hp1 ((s4.trans s5).trans s6)
   have ncp:ce≠p:=(aj P2.1 hce0).symm
   have hdl:=t7 (show ix bs≤400 by omega) pats
   have hle:=pP (bs:=bs) (ws:=ws)
   refine⟨.inl ⟨rfl,_,aL.of P6.1⟩,p,_,_,rfl,rfl,P6.1,by rw [List.length_map,P6.2.1];omega,q,t,bs,ws,rfl,RA.same s16,by rw [ai (fW ht P6.1 (fun e=>by cases e))];exact ht,hwl,l4,hb,by omega,rMulB_ii.mpr ⟨m5 hdl (Nat.lt_of_le_of_lt (m:=400) (by omega) (by decide +kernel)) (by omega),?_⟩⟩
   rw [hPv]
   refine⟨gs++[t],pats++[ws],some (.int c),some (.ref wa),some (.ref t),by rw [List.length_append,pl];rfl,P6.put ht hwl,by rw [ai ncp];exact(s5.trans s6) _ _ hce4,?_,s16⟩
   rw [oy]
  ·rintro σ H4 hI
   rw [hPv]at hI
   obtain⟨gs,pats,o5,o6,o7,pl,P4,_,rfl,s4⟩:=hI
   rw [List.length_map]at pl
   exact hu _ _ ⟨gs,pats,o5,o6,o7,by omega,P4,rfl,s4⟩
 clear P2 s2
 clear H2
 rintro _ H2 ⟨gs,pats,o5,o6,o7,pl,P2,rfl,s2⟩
 refine ba (fun σ H'=>∃(x:Addr) (met:List MS),met[0]?=some (none,[])∧xH [] bs met∧iS P w K C Cs bs [] met x H'∧σ=[some (.ref a),some (.ref q),some (.int n),some (.ref p),some (.int (fL bs pats)),o5,o6,o7,some (.ref x),none,none,none]∧aq H2 H') ?_ ?_
 rotate_left
 ·intro u' hu
  walk_at "rd"
  refine⟨by omega,fun r hr0=>⟨q,r,bs,rfl,(RA.same s2).same (ao hr0),aL.of ae,l4,hbb,fun H3 s3=>?_⟩⟩
  have s23:=(ao hr0 (o:=HO.lst [])).trans s3
  refine⟨mJ (bs.map lW),bs,lW,rfl,vo (fun z hz=>?_) (by rw [List.length_map];omega),qJ (fun z hz=>?_) (fun e=>?_),l1,l4,fun b h=>⟨mD (hbb b h).1 (hbb b h).2,(hb b h).1,(hb b h).big.2.2.2.1⟩,by rw [hwt];omega,fun sc H4 SM s4=>?_⟩
  ·obtain⟨b,hb',rfl⟩:=List.mem_map.mp hz
   have:=pH (hbb b hb').1 (hbb b hb').2
   omega
  ·obtain⟨b,hb',rfl⟩:=List.mem_map.mp hz
   exact qw (mD (hbb b hb').1 (hbb b hb').2) (by decide +kernel)
  ·have:=congrArg List.length e
   rw [List.length_map,List.length_nil]at this
   omega
  walk_at "rd"
  intro x dx hx hdx dxx
  have s45:aq H4 (upd (upd H4 dx (.own x)) x (.ins C dx [])):=(ao hdx).upd (by rw [ai dxx.symm];exact hx)
  refine⟨x,dx,sc,bs.length,bs,[],[],kj bs,H4,rfl,ae,hx,s45,SM,by simp,⟨rfl,fun j G m e=>nomatch e⟩,rfl,l4,hw1,by omega,oC (by omega),fun met H' mf sub cl ma old=>⟨rfl,hu _ _ ⟨x,met,mf.st,⟨l4,hw1,by omega,?_⟩,?_,rfl,fun b o e=>?_⟩⟩⟩
  ·have:=(sk mf sub).2
   omega
  ·obtain⟨dx',la,wa,hx',MB⟩:=ma
   have s4':aq H4 H':=fun b o e=>old b o (aj e hx) (s45 _ _ e)
   obtain⟨dsc,ra,rb,rs,g1,g2,g3⟩:=SM.same s4'
   exact⟨dx',la,wa,sc,dsc,ra,rb,hx',MB,g1,g2⟩
  ·have e3:=(s23.trans s4) _ _ e
   exact old b o (aj e3 hx) (s45 _ _ e3)
 rintro _ H3 ⟨x,met,hm0,MC,MX,rfl,s3⟩
 have P3:=P2.same s3
 refine ba (fun σ H'=>∃hd:Addr,H3 hd=none∧gz H' hd bs.length gs pats∧σ=[some (.ref a),some (.ref q),some (.int n),some (.ref p),some (.int (fL bs pats)),o5,o6,o7,some (.ref x),some (.ref hd),none,none]∧aq H3 H') ?_ ?_
 rotate_left
 ·intro u' hu
  walk_at "rd"
  exact⟨_,.inl (aL.of P3.1),fun l hl=>hu _ _ ⟨l,hl,P3.move hl,rfl,ao hl⟩⟩
 rintro _ H4 ⟨hd,hhd,P4,rfl,s4⟩
 refine ba (fun σ H'=>σ=[some (.ref a),some (.ref q),some (.int n),some (.ref p),some (.int (fL bs pats)),o5,o6,o7,some (.ref x),some (.ref hd),some (.int (fL bs pats)),none]∧aq H4 H') ?_ ?_
 rotate_left
 ·intro u' hu
  walk_at "rd"
  refine⟨x,hd,bs,[],met,pats,_,rfl,MX.same s4,MC,P4.pat,P4.wide,by omega,hm0,fun H5 s5=>?_⟩
  rw [qZ]
  exact hu _ _ ⟨rfl,s5⟩
 rintro _ H5 ⟨rfl,s5⟩
 have P5:=P4.same s5
 have Pp5:=P3.same (s4.trans s5)
 refine ba (fun σ H'=>σ=[some (.ref a),some (.ref q),some (.int n),some (.ref p),some (.int (fL bs pats)),o5,o6,o7,some (.ref x),some (.ref hd),some (.int (fL bs pats)),none]∧H5=H') ?_ ?_
 rotate_left
 ·intro u' hu
  walk_at "rd"
  refine⟨_,rfl,true,rfl,?_⟩
  rw [if_neg (by decide)]
  refine wt (aL.of P5.1) (aL.of Pp5.1) ⟨false,rfl,?_⟩
  rw [if_neg (by decide)]
  exact hu _ _ ⟨rfl,rfl⟩
 rintro _ _ ⟨rfl,rfl⟩
 refine ba (fun σ H'=>∃m:Addr,H' m=some (.tup ((List.replicate bs.length (none:Option Int)).map rz))∧σ=[some (.ref a),some (.ref q),some (.int n),some (.ref p),some (.int (fL bs pats)),o5,o6,o7,some (.ref x),some (.ref hd),some (.int (fL bs pats)),some (.ref m)]∧aq H5 H') ?_ ?_
 rotate_left
 ·intro u' hu
  walk_at "rd"
  refine⟨by omega,fun p1 hp1'=>?_⟩
  obtain⟨ts,hts,htl,htc⟩:=RA.same ((((s2.trans s3).trans s4).trans s5).upd hp1' (o:=HO.lst [V.non]))
  refine⟨_,.inl hts,?_⟩
  rw [List.length_map,htl]
  refine w5 ae (by omega) (by omega) (by rw [Int.toNat_natCast];simp;omega) fun p2 hp2=>⟨p2,rfl,_,.inl ⟨aL.of ae,fun l hl=>hu _ _ ⟨l,?_,rfl,((ao hp1').upd hp2).upd hl⟩⟩⟩
  rw [ae,Int.toNat_natCast,List.map_replicate]
  show some (HO.tup (List.replicate bs.length [V.non]).flatten)=some (HO.tup (List.replicate bs.length V.non))
  rw [List.flatten_replicate_singleton]
 rintro _ H6 ⟨m,hm,rfl,s6⟩
 have P6:=P5.same s6
 refine ba (fun σ H'=>gz H' hd bs.length (gs++[m]) (pats++[List.replicate bs.length none])∧lZ [hd] H6 H'∧σ=[some (.ref a),some (.ref q),some (.int n),some (.ref p),some (.int (fL bs pats)),o5,o6,o7,some (.ref x),some (.ref hd),some (.int (fL bs pats)),some (.ref m)]) ?_ ?_
 rotate_left
 ·intro u' hu
  walk_at "rd"
  refine⟨.inl ⟨rfl,_,aL.of P6.1⟩,hd,_,_,rfl,rfl,P6.1,by rw [List.length_map,P6.2.1];omega,hu _ _ ⟨P6.put hm (by simp),fun b o hb e=>?_,rfl⟩⟩
  rw [List.mem_singleton]at hb
  rw [ai hb]
  exact e
 rintro _ H7 ⟨P7,sx7,rfl⟩
 have s37:aq H3 H7:=fun b o e=>sx7 b o (by rw [List.mem_singleton];exact aj e hhd) (((s4.trans s5).trans s6) _ _ e)
 refine ba (fun σ H'=>σ=[some (.ref a),some (.ref q),some (.int n),some (.ref p),some (.int (fL bs pats)),o5,o6,o7,some (.ref x),some (.ref hd),some (.int (fL bs (pats++[List.replicate bs.length none]))),some (.ref m)]∧aq H7 H') ?_ ?_
 rotate_left
 ·intro u' hu
  walk_at "rd"
  refine⟨x,hd,bs,[],met,_,_,rfl,MX.same s37,MC,P7.pat,P7.wide,by rw [List.length_append];simp;omega,hm0,fun H8 s8=>?_⟩
  rw [qZ]
  exact hu _ _ ⟨rfl,s8⟩
 rintro _ H8 ⟨rfl,s8⟩
 walk_at "rd"
 have s18:=((s2.trans s3).trans s37).trans s8
 have hdl:=t7 (show ix bs≤400 by omega) pats
 have hle:=pP (bs:=bs) (ws:=List.replicate bs.length none)
 have nmh:m≠hd:=fW hm P6.1 (fun e=>by cases e)
 have hm8:=s8 _ _ (sx7 m _ (by rw [List.mem_singleton];exact nmh) hm)
 refine⟨_,rfl,true,rfl,?_⟩
 rw [if_pos rfl]
 refine⟨q,m,bs,List.replicate bs.length none,rfl,RA.same s18,hm8,by simp,l4,hb,by omega,rMulB_ii.mpr ⟨m5 hdl (Nat.lt_of_le_of_lt (m:=400) (by omega) (by decide +kernel)) (by omega),rEqC_ii.mpr ⟨_,rfl,?_⟩⟩⟩
 rw [if_pos (decide_eq_true (oy bs pats _))]
 have hp8:=(P3.same (s37.trans s8)).1
 have hd8:=(P7.same s8).1
 refine⟨by omega,fun p1 hp1'=>ph ((ao hp1') _ _ hp8) ae (by rw [List.length_map,P3.2.1];simp;omega) fun z hz=>vU (rs:=gs++[m]) (aL.of ?_) (aL.of (by rw [ae,List.map_append];rfl)) (k _)⟩
 have:=((ao hp1' (o:=HO.lst [V.ref m])).upd hz (o:=HO.lst (gs.map V.ref++[.ref m]))) _ _ hd8
 exact this
end
theorem xi{us:List Value}(hl:us.length=1):∃x0,us=[x0]:=match us,hl with | [x0],_=>⟨x0,rfl⟩
theorem tQ{us:List Value}(hl:us.length=2):∃x0 x1,us=[x0,x1]:=match us,hl with | [x0,x1],_=>⟨x0,x1,rfl⟩
theorem yY{us:List Value}(hl:us.length=3):∃x0 x1 x2,us=[x0,x1,x2]:=match us,hl with | [x0,x1,x2],_=>⟨x0,x1,x2,rfl⟩
theorem AD{us:List Value}(hl:us.length=4):∃x0 x1 x2 x3,us=[x0,x1,x2,x3]:=match us,hl with | [x0,x1,x2,x3],_=>⟨x0,x1,x2,x3,rfl⟩
theorem us5{us:List Value}(hl:us.length=5):∃x0 x1 x2 x3 x4,us=[x0,x1,x2,x3,x4]:=match us,hl with | [x0,x1,x2,x3,x4],_=>⟨x0,x1,x2,x3,x4,rfl⟩
theorem us6{us:List Value}(hl:us.length=6):∃x0 x1 x2 x3 x4 x5,us=[x0,x1,x2,x3,x4,x5]:=match us,hl with | [x0,x1,x2,x3,x4,x5],_=>⟨x0,x1,x2,x3,x4,x5,rfl⟩
theorem us7{us:List Value}(hl:us.length=7):∃x0 x1 x2 x3 x4 x5 x6,us=[x0,x1,x2,x3,x4,x5,x6]:=match us,hl with | [x0,x1,x2,x3,x4,x5,x6],_=>⟨x0,x1,x2,x3,x4,x5,x6,rfl⟩
theorem all_mk{l:PySem.W.OpenLaw}{w:World}{K:PySem.W.Frag}{h:Heap}{mg:Str→Option Value}{fa:Addr}{C_Score:Addr}{C_Machine:Addr}(X:K.In h)(G:h.Ns mainGlobals mg)(hfa:mg "law"=some (.ref fa))
  (n_Score:PySem.W.nsIn K mainGlobals "Score"=some (some (.ref C_Score)))
  (TC_Score:dG K C_Score)
  (n_Machine:PySem.W.nsIn K mainGlobals "Machine"=some (some (.ref C_Machine)))
  (TC_Machine:eB K C_Machine)
  (A_is_number:∃f fd,ck K "is_number" gY f fd)
  (A_Score___init__:∃f fd,tT K "Score" "Score.__init__" er C_Score f fd)
  (A_lengthened:∃f fd,ck K "lengthened" gm f fd)
  (A_columns:∃f fd,ck K "columns" jn f fd)
  (A_weight:∃f fd,ck K "weight" kO f fd)
  (A_not_too_wide:∃f fd,ck K "not_too_wide" fB f fd)
  (A_memories_after:∃f fd,ck K "memories_after" eu f fd)
  (A_all_close:∃f fd,ck K "all_close" gX f fd)
  (A_States___init__:∃C f fd,jV K "States" "__init__" "States.__init__" dZ C f fd)
  (A_Machine_ends:∃f fd,iz K C_Machine "ends" "States.ends" fQ f fd)
  (A_Machine_states:∃f fd,iz K C_Machine "states" "States.states" eW f fd)
  (A_Machine_ways:∃f fd,iz K C_Machine "ways" "States.ways" fR f fd)
  (A_Machine_build:∃f fd,iz K C_Machine "build" "Machine.build" eV f fd)
  (A_Machine___init__:∃f fd,tT K "Machine" "Machine.__init__" dE C_Machine f fd)
  (A_voice_range:∃f fd,ck K "voice_range" fS f fd)
  (A_read:∃f fd,ck K "read" qy f fd)
  (A_law_at:∃f fd,ck K "_law_at" kM f fd)
  (A_law_draws:∃f fd,ck K "_law_draws" g8 f fd)
  (A_law_ranges:∃f fd,ck K "_law_ranges" gk f fd)
  (A_law_text:∃f fd,ck K "_law_text" iI f fd)
  (A_law_whole:∃f fd,ck K "_law_whole" hJ f fd)
  (A_law_cells:∃f fd,ck K "_law_cells" gZ f fd)
  (A_law_given:∃f fd,ck K "_law_given" g9 f fd)
  (A_law_factor:∃f fd,ck K "_law_factor" gj f fd)
  (A_agrees:∃f fd,ck K "agrees" kL f fd)
  (A_agreeing:∃f fd,ck K "agreeing" iH f fd)
  (A_counted_on:∃f fd,ck K "counted_on" gi f fd)
  (A_counts_paper:∃f fd,ck K "counts_paper" fw f fd)
  (A_counted:∃f fd,ck K "counted" jo f fd)
  (z_len:PySem.W.nsIn K mainGlobals "len"=some none)
  (z_range:PySem.W.nsIn K mainGlobals "range"=some none)
  (z_all:PySem.W.nsIn K mainGlobals "all"=some none)
  (z_min:PySem.W.nsIn K mainGlobals "min"=some none)
  (z_max:PySem.W.nsIn K mainGlobals "max"=some none)
  (z_tuple:PySem.W.nsIn K mainGlobals "tuple"=some none)
  (z_list:PySem.W.nsIn K mainGlobals "list"=some none)
  (z_isinstance:PySem.W.nsIn K mainGlobals "isinstance"=some none)
  (z_bool:PySem.W.nsIn K mainGlobals "bool"=some none)
  (z_int:PySem.W.nsIn K mainGlobals "int"=some none)
  (z_str:PySem.W.nsIn K mainGlobals "str"=some none)
  (z_enumerate:PySem.W.nsIn K mainGlobals "enumerate"=some none)
  (z_zip:PySem.W.nsIn K mainGlobals "zip"=some none)
  (z_sum:PySem.W.nsIn K mainGlobals "sum"=some none)
  (z_reversed:PySem.W.nsIn K mainGlobals "reversed"=some none)
  (g_FIGURES:∃u,PySem.W.nsIn K mainGlobals "FIGURES"=some (some u)∧aK (.str "0123456789") u)
  (g_MOST_FIGURES:∃u,PySem.W.nsIn K mainGlobals "MOST_FIGURES"=some (some u)∧aK (.int 40) u)
  (g_MOST_VOICES:∃u,PySem.W.nsIn K mainGlobals "MOST_VOICES"=some (some u)∧aK (.int 4) u)
  (g_MOST_RULES:∃u,PySem.W.nsIn K mainGlobals "MOST_RULES"=some (some u)∧aK (.int 12) u)
  (g_MOST_WEIGHT:∃u,PySem.W.nsIn K mainGlobals "MOST_WEIGHT"=some (some u)∧aK (.int 400) u)
  (g_START:∃u,PySem.W.nsIn K mainGlobals "START"=some (some u)∧aK (.int 0) u)
  (A_law:∃f fd,ck K "law" mE f fd)
  :∃fd:FuncData,(∀(s:Shared) (v:Value),BindsTo s fd ⟨[v],[]⟩ [("_law_script",v)])∧∀base:Heap,K.In base→base.Ns mainGlobals mg→bj l.prog w K mg base fK 13 fa fd ["_law_script"] (rK K):=by
 obtain⟨f_law,fd_law,B_law⟩:=A_law
 obtain⟨f_is_number,fd_is_number,B_is_number⟩:=A_is_number
 have F_is_number:=B_is_number.fn
 obtain⟨f_Score___init__,fd_Score___init__,B_Score___init__⟩:=A_Score___init__
 have F_Score___init__:=B_Score___init__.fn
 obtain⟨f_lengthened,fd_lengthened,B_lengthened⟩:=A_lengthened
 have F_lengthened:=B_lengthened.fn
 obtain⟨f_columns,fd_columns,B_columns⟩:=A_columns
 have F_columns:=B_columns.fn
 obtain⟨f_weight,fd_weight,B_weight⟩:=A_weight
 have F_weight:=B_weight.fn
 obtain⟨f_not_too_wide,fd_not_too_wide,B_not_too_wide⟩:=A_not_too_wide
 have F_not_too_wide:=B_not_too_wide.fn
 obtain⟨f_memories_after,fd_memories_after,B_memories_after⟩:=A_memories_after
 have F_memories_after:=B_memories_after.fn
 obtain⟨f_all_close,fd_all_close,B_all_close⟩:=A_all_close
 have F_all_close:=B_all_close.fn
 obtain⟨CC_States___init__,f_States___init__,fd_States___init__,B_States___init__⟩:=A_States___init__
 have F_States___init__:=B_States___init__.fn
 obtain⟨f_Machine_ends,fd_Machine_ends,B_Machine_ends⟩:=A_Machine_ends
 have F_Machine_ends:=B_Machine_ends.fn
 obtain⟨f_Machine_states,fd_Machine_states,B_Machine_states⟩:=A_Machine_states
 have F_Machine_states:=B_Machine_states.fn
 obtain⟨f_Machine_ways,fd_Machine_ways,B_Machine_ways⟩:=A_Machine_ways
 have F_Machine_ways:=B_Machine_ways.fn
 obtain⟨f_Machine_build,fd_Machine_build,B_Machine_build⟩:=A_Machine_build
 have F_Machine_build:=B_Machine_build.fn
 obtain⟨f_Machine___init__,fd_Machine___init__,B_Machine___init__⟩:=A_Machine___init__
 have F_Machine___init__:=B_Machine___init__.fn
 obtain⟨f_voice_range,fd_voice_range,B_voice_range⟩:=A_voice_range
 have F_voice_range:=B_voice_range.fn
 obtain⟨f_read,fd_read,B_read⟩:=A_read
 have F_read:=B_read.fn
 obtain⟨f_law_at,fd_law_at,B_law_at⟩:=A_law_at
 have F_law_at:=B_law_at.fn
 obtain⟨f_law_draws,fd_law_draws,B_law_draws⟩:=A_law_draws
 have F_law_draws:=B_law_draws.fn
 obtain⟨f_law_ranges,fd_law_ranges,B_law_ranges⟩:=A_law_ranges
 have F_law_ranges:=B_law_ranges.fn
 obtain⟨f_law_text,fd_law_text,B_law_text⟩:=A_law_text
 have F_law_text:=B_law_text.fn
 obtain⟨f_law_whole,fd_law_whole,B_law_whole⟩:=A_law_whole
 have F_law_whole:=B_law_whole.fn
 obtain⟨f_law_cells,fd_law_cells,B_law_cells⟩:=A_law_cells
 have F_law_cells:=B_law_cells.fn
 obtain⟨f_law_given,fd_law_given,B_law_given⟩:=A_law_given
 have F_law_given:=B_law_given.fn
 obtain⟨f_law_factor,fd_law_factor,B_law_factor⟩:=A_law_factor
 have F_law_factor:=B_law_factor.fn
 obtain⟨f_agrees,fd_agrees,B_agrees⟩:=A_agrees
 have F_agrees:=B_agrees.fn
 obtain⟨f_agreeing,fd_agreeing,B_agreeing⟩:=A_agreeing
 have F_agreeing:=B_agreeing.fn
 obtain⟨f_counted_on,fd_counted_on,B_counted_on⟩:=A_counted_on
 have F_counted_on:=B_counted_on.fn
 obtain⟨f_counts_paper,fd_counts_paper,B_counts_paper⟩:=A_counts_paper
 have F_counts_paper:=B_counts_paper.fn
 obtain⟨f_counted,fd_counted,B_counted⟩:=A_counted
 have F_counted:=B_counted.fn
 obtain⟨u_FIGURES,g_FIGURES,r_FIGURES⟩:=g_FIGURES
 obtain⟨u_MOST_FIGURES,g_MOST_FIGURES,r_MOST_FIGURES⟩:=g_MOST_FIGURES
 obtain⟨u_MOST_VOICES,g_MOST_VOICES,r_MOST_VOICES⟩:=g_MOST_VOICES
 obtain⟨u_MOST_RULES,g_MOST_RULES,r_MOST_RULES⟩:=g_MOST_RULES
 obtain⟨u_MOST_WEIGHT,g_MOST_WEIGHT,r_MOST_WEIGHT⟩:=g_MOST_WEIGHT
 obtain⟨u_START,g_START,r_START⟩:=g_START
 have e:=hfa.symm.trans (PySem.W.mg_of X G B_law.ns)
 cases e
 have T:Txt mg 0:={ n_len:=PySem.W.mg_none_of X G z_len,n_range:=PySem.W.mg_none_of X G z_range,n_all:=PySem.W.mg_none_of X G z_all,n_min:=PySem.W.mg_none_of X G z_min,n_max:=PySem.W.mg_none_of X G z_max,n_tuple:=PySem.W.mg_none_of X G z_tuple,n_list:=PySem.W.mg_none_of X G z_list,n_isinstance:=PySem.W.mg_none_of X G z_isinstance,n_bool:=PySem.W.mg_none_of X G z_bool,n_int:=PySem.W.mg_none_of X G z_int,n_str:=PySem.W.mg_none_of X G z_str,n_enumerate:=PySem.W.mg_none_of X G z_enumerate,n_zip:=PySem.W.mg_none_of X G z_zip,n_sum:=PySem.W.mg_none_of X G z_sum,n_reversed:=PySem.W.mg_none_of X G z_reversed,g_FIGURES:=⟨_,PySem.W.mg_of X G g_FIGURES,r_FIGURES⟩,g_MOST_FIGURES:=⟨_,PySem.W.mg_of X G g_MOST_FIGURES,r_MOST_FIGURES⟩,g_MOST_VOICES:=⟨_,PySem.W.mg_of X G g_MOST_VOICES,r_MOST_VOICES⟩,g_MOST_RULES:=⟨_,PySem.W.mg_of X G g_MOST_RULES,r_MOST_RULES⟩,g_MOST_WEIGHT:=⟨_,PySem.W.mg_of X G g_MOST_WEIGHT,r_MOST_WEIGHT⟩,g_START:=⟨_,PySem.W.mg_of X G g_START,r_START⟩ }
 obtain⟨oc,od,kV,doc,pm,an,cdv,ct,osl,rfl,lk,hcd⟩:=B_law.fn.ex
 refine⟨PySem.W.fnOf "law" "law" (dI mE) (dv mE) (ar mE) .none kV doc pm an cdv ct,fun s v=>.of_eq rfl,fun base _ _=>?_⟩
 have D_is_number:eC l.prog w K mg base "is_number" 1 ["word"] vk:=B_is_number.df X G (sO F_is_number T) (F_is_number.binds (fun _ _ _ _ _ _ us hl=>by obtain⟨_,rfl⟩:=xi hl;rfl))
 have DM_Score:mQ l.prog w K mg base "Score" C_Score 1 ["self","ranges","rules"] (hV K C_Score):=B_Score___init__.df X G (lP F_Score___init__ T TC_Score) (F_Score___init__.binds (fun _ _ _ _ _ _ us hl=>by obtain⟨_,_,_,rfl⟩:=yY hl;rfl))
 have D_lengthened:eC l.prog w K mg base "lengthened" 1 ["column","low","high"] (vj K):=B_lengthened.df X G (lR F_lengthened T) (F_lengthened.binds (fun _ _ _ _ _ _ us hl=>by obtain⟨_,_,_,rfl⟩:=yY hl;rfl))
 have D_columns:eC l.prog w K mg base "columns" 2 ["score"] (fX K C_Score):=B_columns.df X G (qe F_columns T TC_Score D_lengthened) (F_columns.binds (fun _ _ _ _ _ _ us hl=>by obtain⟨_,rfl⟩:=xi hl;rfl))
 have D_weight:eC l.prog w K mg base "weight" 8 ["score"] (kX l.prog w K mg base C_Score):=B_weight.df X G (sR F_weight T TC_Score) (F_weight.binds (fun _ _ _ _ _ _ us hl=>by obtain⟨_,rfl⟩:=xi hl;rfl))
 have D_not_too_wide:eC l.prog w K mg base "not_too_wide" 9 ["score"] (ju l.prog w K mg base C_Score):=B_not_too_wide.df X G (jN F_not_too_wide T D_weight) (F_not_too_wide.binds (fun _ _ _ _ _ _ us hl=>by obtain⟨_,rfl⟩:=xi hl;rfl))
 have D_memories_after:eC l.prog w K mg base "memories_after" 8 ["rules","memories","before","column"] (iN l.prog w K mg base):=B_memories_after.df X G (nc F_memories_after T) (F_memories_after.binds (fun _ _ _ _ _ _ us hl=>by obtain⟨_,_,_,_,rfl⟩:=AD hl;rfl))
 have D_all_close:eC l.prog w K mg base "all_close" 8 ["rules","memories","last"] (iL l.prog w K mg base):=B_all_close.df X G (m9 F_all_close T) (F_all_close.binds (fun _ _ _ _ _ _ us hl=>by obtain⟨_,_,_,rfl⟩:=yY hl;rfl))
 have DC_States___init__:pL l.prog w K mg base "States" "__init__" 1 ["self"] (gn K C_Machine):=B_States___init__.df X G (kD F_States___init__ T TC_Machine) (F_States___init__.binds (fun _ _ _ _ _ _ us hl=>by obtain⟨_,rfl⟩:=xi hl;rfl))
 have M_Machine_ends:cK l.prog w K mg base C_Machine "ends" 1 ["self","state"] (qD l.prog w C_Machine):=B_Machine_ends.ok TC_Machine.cl (wA F_Machine_ends T TC_Machine) (F_Machine_ends.binds (fun _ _ _ _ _ _ us hl=>by obtain⟨_,_,rfl⟩:=tQ hl;rfl))
 have M_Machine_states:cK l.prog w K mg base C_Machine "states" 1 ["self"] (kW l.prog w C_Machine):=B_Machine_states.ok TC_Machine.cl (sQ F_Machine_states T TC_Machine) (F_Machine_states.binds (fun _ _ _ _ _ _ us hl=>by obtain⟨_,rfl⟩:=xi hl;rfl))
 have M_Machine_ways:cK l.prog w K mg base C_Machine "ways" 1 ["self","state"] (qE l.prog w C_Machine):=B_Machine_ways.ok TC_Machine.cl (wC F_Machine_ways T TC_Machine) (F_Machine_ways.binds (fun _ _ _ _ _ _ us hl=>by obtain⟨_,_,rfl⟩:=tQ hl;rfl))
 have M_Machine_build:cK l.prog w K mg base C_Machine "build" 10 ["self","met","numbers","steps"] (nP l.prog w K mg base C_Machine C_Score):=B_Machine_build.ok TC_Machine.cl (uF F_Machine_build T TC_Machine TC_Score (D_memories_after.up (by decide)) (D_all_close.up (by decide))) (F_Machine_build.binds (fun _ _ _ _ _ _ us hl=>by obtain⟨_,_,_,_,rfl⟩:=AD hl;rfl))
 have DM_Machine:mQ l.prog w K mg base "Machine" C_Machine 11 ["self","score"] (iM l.prog w K mg base C_Machine C_Score):=B_Machine___init__.df X G (m8 F_Machine___init__ T TC_Machine TC_Score (DC_States___init__.up (by decide)) (D_columns.up (by decide)) M_Machine_build) (F_Machine___init__.binds (fun _ _ _ _ _ _ us hl=>by obtain⟨_,_,rfl⟩:=tQ hl;rfl))
 have D_voice_range:eC l.prog w K mg base "voice_range" 2 ["row"] (nV K):=B_voice_range.df X G (kE F_voice_range T D_is_number) (F_voice_range.binds (fun _ _ _ _ _ _ us hl=>by obtain⟨_,rfl⟩:=xi hl;rfl))
 have D_read:eC l.prog w K mg base "read" 11 ["text"] (nT l.prog w K mg base C_Score):=B_read.df X G (wB F_read T TC_Score (D_voice_range.up (by decide)) (DM_Score.up (by decide)) (D_not_too_wide.up (by decide))) (F_read.binds (fun _ _ _ _ _ _ us hl=>by obtain⟨_,rfl⟩:=xi hl;rfl))
 have D_law_at:eC l.prog w K mg base "_law_at" 1 ["_law_script","_law_k"] (vh K):=B_law_at.df X G (zw F_law_at T) (F_law_at.binds (fun _ _ _ _ _ _ us hl=>by obtain⟨_,_,rfl⟩:=tQ hl;rfl))
 have D_law_draws:eC l.prog w K mg base "_law_draws" 1 ["_law_cell","_law_many"] i9:=B_law_draws.df X G (uH F_law_draws T) (F_law_draws.binds (fun _ _ _ _ _ _ us hl=>by obtain⟨_,_,rfl⟩:=tQ hl;rfl))
 have D_law_ranges:eC l.prog w K mg base "_law_ranges" 2 ["_law_script","_law_most"] (kU K):=B_law_ranges.df X G (sP F_law_ranges T D_law_at D_law_draws) (F_law_ranges.binds (fun _ _ _ _ _ _ us hl=>by obtain⟨_,_,rfl⟩:=tQ hl;rfl))
 have D_law_text:eC l.prog w K mg base "_law_text" 1 ["_law_ranges_here","_law_rules"] (nU K):=B_law_text.df X G (uK F_law_text T) (F_law_text.binds (fun _ _ _ _ _ _ us hl=>by obtain⟨_,_,rfl⟩:=tQ hl;rfl))
 have D_law_whole:eC l.prog w K mg base "_law_whole" 1 ["_law_found"] nW:=B_law_whole.df X G (uL F_law_whole T) (F_law_whole.binds (fun _ _ _ _ _ _ us hl=>by obtain⟨_,rfl⟩:=xi hl;rfl))
 have D_law_cells:eC l.prog w K mg base "_law_cells" 2 ["_law_script","_law_start","_law_many"] (nQ K):=B_law_cells.df X G (uG F_law_cells T D_law_at D_law_draws) (F_law_cells.binds (fun _ _ _ _ _ _ us hl=>by obtain⟨_,_,_,rfl⟩:=yY hl;rfl))
 have D_law_given:eC l.prog w K mg base "_law_given" 1 ["_law_pair","_law_way","_law_long"] (nR K):=B_law_given.df X G (uI F_law_given T) (F_law_given.binds (fun _ _ _ _ _ _ us hl=>by obtain⟨_,_,_,rfl⟩:=yY hl;rfl))
 have D_law_factor:eC l.prog w K mg base "_law_factor" 1 ["_law_ranges_here","_law_column"] (kT K):=B_law_factor.df X G (sN F_law_factor T) (F_law_factor.binds (fun _ _ _ _ _ _ us hl=>by obtain⟨_,_,rfl⟩:=tQ hl;rfl))
 have D_agrees:eC l.prog w K mg base "agrees" 1 ["column","given"] (kS K):=B_agrees.df X G (sM F_agrees T) (F_agrees.binds (fun _ _ _ _ _ _ us hl=>by obtain⟨_,_,rfl⟩:=tQ hl;rfl))
 have D_agreeing:eC l.prog w K mg base "agreeing" 4 ["machine","given"] (iK l.prog w K C_Machine C_Score):=B_agreeing.df X G (oV F_agreeing T TC_Machine TC_Score (D_columns.up (by decide)) (D_agrees.up (by decide))) (F_agreeing.binds (fun _ _ _ _ _ _ us hl=>by obtain⟨_,_,rfl⟩:=tQ hl;rfl))
 have D_counted_on:eC l.prog w K mg base "counted_on" 3 ["ways","taken","later"] (hR l.prog w K):=B_counted_on.df X G (lQ F_counted_on T) (F_counted_on.binds (fun _ _ _ _ _ _ us hl=>by obtain⟨_,_,_,rfl⟩:=yY hl;rfl))
 have D_counts_paper:eC l.prog w K mg base "counts_paper" 5 ["machine","pattern"] (nS l.prog w K C_Machine C_Score):=B_counts_paper.df X G (uJ F_counts_paper T TC_Machine D_agreeing (D_counted_on.up (by decide)) (M_Machine_states.up (by decide)) (M_Machine_ways.up (by decide)) (M_Machine_ends.up (by decide))) (F_counts_paper.binds (fun _ _ _ _ _ _ us hl=>by obtain⟨_,_,rfl⟩:=tQ hl;rfl))
 have D_counted:eC l.prog w K mg base "counted" 6 ["machine","pattern"] (jt l.prog w K C_Machine C_Score):=B_counted.df X G (qf F_counted T D_counts_paper) (F_counted.binds (fun _ _ _ _ _ _ us hl=>by obtain⟨_,_,rfl⟩:=tQ hl;rfl))
 exact yc B_law.fn T TC_Machine TC_Score (D_law_at.up (by decide)) (D_law_ranges.up (by decide)) (D_law_text.up (by decide)) (D_read.up (by decide)) DM_Machine (D_law_whole.up (by decide)) (D_law_cells.up (by decide)) (D_law_draws.up (by decide)) (D_law_given.up (by decide)) (D_law_factor.up (by decide)) (D_counted.up (by decide))
theorem walk{l:PySem.W.OpenLaw}{q:Program}{loose:List Str}{XP:(Str→Option Value)→Heap→Prop}{YP:World→Heap→Prop}{d:DefRec}{K:Params→PySem.W.Frag}(hn:l.most=some 63)(hdf:d.params.defaults=[])
  (hY:∀(w:World) (h:Heap),YP w h→(K w.params).In h)
  (F:∀(w:World) (mg:Str→Option Value) (fa:Addr) (h:Heap),(K w.params).In h→h.Ns mainGlobals mg→mg d.name=some (.ref fa)→
   ∃fd:FuncData,(∀(s:Shared) (u:Value),BindsTo s fd ⟨[u],[]⟩ [("_law_script",u)])∧∀base:Heap,(K w.params).In base→base.Ns mainGlobals mg→bj l.prog w (K w.params) mg base fK 13 fa fd ["_law_script"] (rK (K w.params))) :
  PySem.W.WalkO q loose XP YP l.row.toRowW d [] (fun f vs=>PySem.call f vs):=
 L2.walk_ofB (n:=63) (k:=13) (x:="_law_script") (CX:=fun _=>fK) (sp:=fun w=>rK (K w.params)) hn (by decide) hdf ⟨rfl,by decide,by decide⟩ hY F (fun _ _ a ns hl hb _ hS=>⟨a,ns,rfl,hS,hb,hl,fun _=>rfl⟩) fun _ _ _ _ _ z=>z
end K41
namespace PySem.W.Fast
def tw818504117983386624:=0
def tw5154034494568773260:=0
def tw17019924556202657824:=0
def tw8398908410044792896:=0
def tw11986680633514134660:=0
def tw5092624105269239872:=0
def tw3907281680383803488:=0
def tw7336995373296454752:=0
def tw17576620345525201530:=0
def tw5110700693874502880:=0
def tw3179318172052752608:=0
def tw18251433418845966934:=0
def tw12373967628548704512:=0
def tw903845923326363904:=0
def tw8002554320080318922:=0
def tw3504313516786261312:=0
def tw10432776190981785374:=0
def tw17565255435398865248:=0
def tw17826200737862908340:=0
def tw92581968862370162:=0
def tw10986415138200382848:=0
def tw13326203766173613472:=0
def tw6466542245370356160:=0
def tw16410208017918123875:=0
def tw18021309057495592555:=0
def tw12188260662655225408:=0
def tw9488933683923501632:=0
def tw15815962808431014464:=0
def tw9056515572495531466:=0
def tw12931526764716888672:=0
def tw11116942149731337824:=0
def tw8211711981558808192:=0
def tw4247337896353657504:=0
def tw9762926884657522676:=0
def tw7616189499507630912:=0
def tw5249492881324253276:=0
def tw6169833851200112352:=0
def tw8799822006428567442:=0
def tw3050299495528505838:=0
def tw13910502613638207200:=0
def tw8374427263838650032:=0
def tw13081795488981232384:=0
def tw12114441799738523217:=0
def tw5767855625674897248:=0
def tw14426179652591765344:=0
def tw10320862224685647802:=0
def tw11012987556343120768:=0
def tw1282487014229667744:=0
def tw11474759025007074272:=0
def tw3683239538983055690:=0
def tw13128994474550786016:=0
def tw5294359960866566547:=0
def tw2409521005096495916:=0
def tw2887116029478549569:=0
def tw13181875652814706527:=0
def tw17917680500104077462:=0
def tw17683887817174889601:=0
def tw10917652392231472289:=0
def tw7066560382910385891:=0
def tw11339475742858338465:=0
def tw5029749686112553689:=0
def tw2349291096990304515:=0
def tw2024117220820454657:=0
def tw13753553696405426433:=0
def tw15792500716432838977:=0
def tw8953802779617687066:=0
def tw10987380267314370881:=0
def tw2489140507548072289:=0
def tw13109288395343283483:=0
def tw1506846301539345921:=0
def tw9855220016002707969:=0
def tw3882957381653247489:=0
def tw17448837388384153117:=0
def tw570132927073120357:=0
def tw2047008787885604385:=0
def tw14734847425362028065:=0
def tw15272831058058350534:=0
def tw16562630452712020459:=0
def tw15961720349820998273:=0
def tw8590635960765704865:=0
def tw9012400714344165574:=0
def tw2597550481933066977:=0
def tw4617241028290938657:=0
def tw5307436827661092547:=0
def tw11688974265675221793:=0
def tw3461895721520306175:=0
def tw15929880143442375457:=0
def tw18245910342129679124:=0
def tw7107797517963720934:=0
def tw15699050393458747233:=0
def tw5473632673006966625:=0
def tw6274343676484183556:=0
def tw13582077436220764033:=0
def tw1099044749003349701:=0
def tw5944057260942428777:=0
def tw5372620338134385666:=0
def tw14794341699336843283:=0
def tw8348132245076382754:=0
def tw8178201160968725595:=0
def tw13145555414748259059:=0
def tw15294240659291770978:=0
def tw17303939867033668770:=0
def tw3623321865207180809:=0
def tw14622464311923817666:=0
def tw11503516319206114156:=0
def tw14111137732969941034:=0
def tw11583192480399986946:=0
def tw10455271387755397622:=0
def tw7051973392897745850:=0
def tw4026488215203032241:=0
def tw14178659980935987522:=0
def tw6341460567235608930:=0
def tw16306896031432586626:=0
def tw5752401313827026970:=0
def tw433375779785603490:=0
def tw10560441233770495394:=0
def tw12847903293493424578:=0
def tw11656722322532554178:=0
def tw5331326071725526530:=0
def tw8885965899672743852:=0
def tw2937654819754736135:=0
def tw18429676992894393890:=0
def tw5631348151920774722:=0
def tw4856910420751477314:=0
def tw17422358066171080613:=0
def tw2315028000602939010:=0
def tw5621795708099262974:=0
def tw246810688443668226:=0
def tw17669520186968590168:=0
def tw13014036300418714402:=0
def tw16928017630445381410:=0
def tw6366827762286871330:=0
def tw11091744428420076354:=0
def tw15808253135771065695:=0
def tw6976852443163796678:=0
def tw11012089542026557346:=0
def tw16077413780258262140:=0
def tw4065594176043435970:=0
def tw10338459846182299586:=0
def tw4930802403852964327:=0
def tw3405794506359246278:=0
def tw8233042881802055021:=0
def tw16031000843349625826:=0
def tw9390414146348776591:=0
def tw8644338176263896238:=0
def tw14141722930289386499:=0
def tw14551997926401703971:=0
def tw1454340251957058826:=0
def tw6196759999650846755:=0
def tw10263654503796136948:=0
def tw9035960218558912547:=0
def tw10158511356274928675:=0
def tw651446756651123779:=0
def tw12524919359838378295:=0
def tw11575252999594364026:=0
def tw17701313855546147939:=0
def tw15880963053955211363:=0
def tw3071490532093932675:=0
def tw7346715981169081475:=0
def tw16038022698234265731:=0
def tw6483197192283232030:=0
def tw4915283745723025936:=0
def tw14215748981819520116:=0
def tw11388222756568716463:=0
def tw5497946819829848976:=0
def tw4916665373435686551:=0
def tw11903331075660099287:=0
def tw9227883263014522481:=0
def tw13801102461356067075:=0
def tw6465244726836485379:=0
def tw9214674763385095434:=0
def tw4869261590111911171:=0
def tw14793053980290502947:=0
def tw3153366731415989635:=0
def tw10181995327995211107:=0
def tw13890554852562207238:=0
def tw12952745199508384131:=0
def tw13283890311511078275:=0
def tw16322369850548091267:=0
def tw2524823705306632739:=0
def tw18275338304169148505:=0
def tw18118485942720906659:=0
def tw18383086384151612268:=0
def tw16943431290302901763:=0
def tw7343048429840996867:=0
def tw15877421284028171811:=0
def tw10254265723944131724:=0
def tw3099474046831937123:=0
def tw9354099357312912003:=0
def tw4971774356666106862:=0
def tw69704767966723715:=0
def tw556035920928669315:=0
def tw3357581078480681635:=0
def tw14507925540741868195:=0
def tw8102387898011181192:=0
def tw10114461124884393869:=0
def tw11218193790519963363:=0
def tw18005110878772215555:=0
def tw10039485092366139053:=0
def tw4097883082717529271:=0
def tw9085253035271275299:=0
def tw8664842327207414595:=0
def tw15650534396831705923:=0
def tw6571079544960958275:=0
def tw15947334185160173379:=0
def tw5188929985746340249:=0
def tw10561112194724494621:=0
def tw14015423294547319113:=0
def tw8375051900825080017:=0
def tw13814101744010576771:=0
def tw1859599178354472867:=0
def tw3143907092611956643:=0
def tw5776871428320750531:=0
def tw9645496283301904199:=0
def tw18387952242308914147:=0
def tw4509164130654024675:=0
def tw14298577578431128520:=0
def tw545548045455763354:=0
def tw15334848106579021228:=0
def tw3329470569318926972:=0
def tw12730646312570024791:=0
def tw10592006450517383978:=0
def tw18109622280097758034:=0
def tw1103731059378819332:=0
def tw11921172966538176692:=0
def tw17274108124233990424:=0
def tw10024414238396760586:=0
def tw4697917165079720882:=0
def tw11905202979364360540:=0
def tw16971118038600744356:=0
def tw4050790969375404452:=0
def tw2637186325985431909:=0
def tw12486742546116130308:=0
def tw12749220624311306764:=0
def tw15902861039028641412:=0
def tw7773377909466913652:=0
def tw3197785804119719588:=0
def tw7538331105487184548:=0
def tw11895158292336327364:=0
def tw694755565882593988:=0
def tw1159245864464101092:=0
def tw6828798437588589577:=0
def tw5109044780415531748:=0
def tw1626017961748515556:=0
def tw1265874151500510640:=0
def tw3526280048110298354:=0
def tw153196992042852164:=0
def tw16117778110781750261:=0
def tw4018667494428945284:=0
def tw16791459367997588388:=0
def tw15084358154064714896:=0
def tw9804526895840094116:=0
def tw16546025275377945289:=0
def tw15108747009382693641:=0
def tw8152460518426873893:=0
def tw7007861845394320142:=0
def tw14428508107690741210:=0
def tw16735833501297633349:=0
def tw14833084462779988037:=0
def tw8886743611605719173:=0
def tw2922949342395866245:=0
def tw4870810546410538117:=0
def tw17736347573805413509:=0
def tw12898960671577016485:=0
def tw11770136335470096212:=0
def tw9449895561048355045:=0
def tw3675377388928910619:=0
def tw16336970414779978085:=0
def tw11833660582871808710:=0
def tw130513887935313349:=0
def tw1192949422480043901:=0
def tw15893844274953574885:=0
def tw244091190764942853:=0
def tw8893509989016912421:=0
def tw13686705803543688773:=0
def tw17167975429288088165:=0
def tw15071170056199416249:=0
def tw5642777400271264357:=0
def tw7962397687649564261:=0
def tw3001166531785353861:=0
def tw13498573425841213061:=0
def tw4779221028117495461:=0
def tw8376182033522059635:=0
def tw17207106039530806981:=0
def tw6080159875844862661:=0
def tw8202099753401206575:=0
def tw14148217050135751351:=0
def tw8482358746570637061:=0
def tw2269534795405053701:=0
def tw18251275947567411997:=0
def tw16321980657985161705:=0
def tw5223842823004625005:=0
def tw2718733762464428933:=0
def tw9655075331218813829:=0
def tw2922807855219125157:=0
def tw12500525505044595621:=0
def tw1263973225694660235:=0
def tw6956989178094530262:=0
def tw287016822844385103:=0
def tw8410249277947508564:=0
def tw3759540902966461446:=0
def tw13706273303674883443:=0
def tw12533849072718871242:=0
def tw9157036000213328941:=0
def tw10840834307251174534:=0
def tw14442977689583184304:=0
def tw5302579829973508830:=0
def tw13641769665472697606:=0
def tw14114535424197748006:=0
def tw2163779700076735782:=0
def tw15441891948594619607:=0
def tw2487654555814725706:=0
def tw6127120337613738837:=0
def tw11440987131127536185:=0
def tw15843991562576646073:=0
def tw7176120512275564998:=0
def tw5717083525411841510:=0
def tw9041763057784848902:=0
def tw2558210873531342342:=0
def tw2287076458741866938:=0
def tw6232267435031044646:=0
def tw3689562291967942182:=0
def tw14729031553449526229:=0
def tw9267908023102247622:=0
def tw14204890881778598463:=0
def tw11389048760836779782:=0
def tw15085037558103875577:=0
def tw8564121826448151462:=0
def tw7251283950996241318:=0
def tw17832989406624746989:=0
def tw16252212784529234886:=0
def tw8387920317108170859:=0
def tw6594393156445447142:=0
def tw17053876451055602232:=0
def tw554462595151120714:=0
def tw4252334706964492391:=0
def tw11321737462531479687:=0
def tw16930497564149118087:=0
def tw9770112365422257287:=0
def tw13888344674074985639:=0
def tw18327318461112756423:=0
def tw7697105346104469332:=0
def tw1412553753134394631:=0
def tw6982871411186045404:=0
def tw2428430548751369821:=0
def tw16976192972958440276:=0
def tw3611133031517029302:=0
def tw2800217694296588782:=0
def tw3294724765900943783:=0
def tw15439901276544807335:=0
def tw16120763140930572807:=0
def tw6235130902884096519:=0
def tw8389349213855185609:=0
def tw6272666684908452391:=0
def tw4633134241158218734:=0
def tw878689539005904487:=0
def tw5611077602187252764:=0
def tw316075283751225646:=0
def tw6199656904996634279:=0
def tw3961470618066633383:=0
def tw6142277736125727431:=0
def tw12146445650954406631:=0
def tw1982339288142097710:=0
def tw2595448994778657543:=0
def tw9012248217687084667:=0
def tw3545107628317825831:=0
def tw7957892993789129334:=0
def tw9234543743807827783:=0
def tw12653829689895847420:=0
def tw12018661434127865671:=0
def tw11661505206775338855:=0
def tw13170315976752270215:=0
def tw7754854186481337640:=0
def tw5405704707058397127:=0
def tw10856432736271382471:=0
def tw15406595275188888277:=0
def tw3667004782759870777:=0
def tw18216831613136485384:=0
def tw13005230015082649640:=0
def tw14455461444888285256:=0
def tw9260141600276336808:=0
def tw8429477934000571134:=0
def tw3028058065593944056:=0
def tw9684483656180760776:=0
def tw1370652498402290888:=0
def tw15751902225237790312:=0
def tw17040358633191686994:=0
def tw5124890174419580264:=0
def tw457733844811625365:=0
def tw5544198222467282312:=0
def tw396753335054612910:=0
def tw7344290355275248104:=0
def tw9368265046089763336:=0
def tw10289691197617281544:=0
def tw7339826447860941320:=0
def tw2753229063018158189:=0
def tw2530488132691965480:=0
def tw3044816686194400840:=0
def tw637865241363690141:=0
def tw9560798615028151122:=0
def tw84289631442162344:=0
def tw1095549821161849139:=0
def tw2219296029788349128:=0
def tw18146731019007722216:=0
def tw18031101741731958504:=0
def tw13979031528884334344:=0
def tw15878838635660388848:=0
def tw4207962602119446312:=0
def tw4892825396460374824:=0
def tw7247224743254300333:=0
def tw17394192220023982638:=0
def tw8329468316790541128:=0
def tw6504401535495195986:=0
def tw16525114782916999080:=0
def tw4311730624441757640:=0
def tw12894738866757040072:=0
def tw4023666180159172718:=0
def tw17372814064614441065:=0
def tw10008394469946993865:=0
def tw10515002817622631721:=0
def tw17733458834242026793:=0
def tw10808429683603955113:=0
def tw862547290917882228:=0
def tw15443288006350690793:=0
def tw5253416437291784925:=0
def tw14675082497330750590:=0
def tw6951543611249218089:=0
def tw12190579471180622665:=0
def tw5737640796721733646:=0
def tw691531569048043626:=0
def tw9502861590465991337:=0
def tw13150669545003523133:=0
def tw5826483833095411433:=0
def tw2594983469878344425:=0
def tw15638878369206107945:=0
def tw10243637008080665018:=0
def tw9297476402808075964:=0
def tw4139928430927908268:=0
def tw14237275821527319433:=0
def tw521112359320223581:=0
def tw5451458140848230442:=0
def tw8015224935352340554:=0
def tw18205251754165434474:=0
def tw11798730652923795594:=0
def tw5442615835886637470:=0
def tw465593084929642698:=0
def tw14978588644018543850:=0
def tw6485501492826543402:=0
def tw8379457244318743091:=0
def tw16581221753381230847:=0
def tw16086206381696405747:=0
def tw4322415579010120816:=0
def tw637973023858929646:=0
def tw12839950832795207018:=0
def tw9339953548012536234:=0
def tw7128548697596852634:=0
def tw7947960407523215696:=0
def tw17579318244805160769:=0
def tw13220745699675443818:=0
def tw7744906891386656362:=0
def tw15384579311142352522:=0
def tw16283624799611827630:=0
def tw11713611241197290314:=0
def tw14707971239707530122:=0
def tw3790767228325421424:=0
def tw13179566133148254361:=0
def tw6226117161696289738:=0
def tw17387910075956065914:=0
def tw468601716211334122:=0
def tw14851159839352288797:=0
def tw8024269629510913035:=0
def tw10981857111833493334:=0
def tw155586858138961148:=0
def tw10541561811824427096:=0
def tw13976589236584467891:=0
def tw151497950853624907:=0
def tw8877597597376232651:=0
def tw6365012866565362923:=0
def tw11134315608959100203:=0
def tw15149093215378238795:=0
def tw10984412222850113931:=0
def tw7673062747075390859:=0
def tw6210948061994423723:=0
def tw1129039744013470155:=0
def tw4011052942974259147:=0
def tw10811177385584668444:=0
def tw15595991988828558256:=0
def tw1395986250310232555:=0
def tw5540421298596912787:=0
def tw14831495931888966960:=0
def tw16903772115349600779:=0
def tw4069977073712393803:=0
def tw4366945765706151531:=0
def tw12859525073354837675:=0
def tw3442758725991609003:=0
def tw7496886275444446923:=0
def tw17528515332807392573:=0
def tw5409240887525654251:=0
def tw3226524492037993967:=0
def tw8801137363752135499:=0
def tw12689165088409832299:=0
def tw13721612365404577695:=0
def tw15842120314122553745:=0
def tw5623725419777935275:=0
def tw7826083169159957451:=0
def tw8898055871310898155:=0
def tw6552246619902257164:=0
def tw4398071731640940620:=0
def tw4496323404980063251:=0
def tw1422405519422099596:=0
def tw989410665492654220:=0
def tw11990954271183892748:=0
def tw3850613570927242033:=0
def tw2125203258109657420:=0
def tw12559466062801989996:=0
def tw16295513426629931436:=0
def tw2801802032263166380:=0
def tw11897725630747747992:=0
def tw4939928118675690037:=0
def tw6157359562837695225:=0
def tw16038363283918196236:=0
def tw5562603551033482487:=0
def tw2392154898397548044:=0
def tw5657601205771477849:=0
def tw7281413490206923340:=0
def tw10198410561726946956:=0
def tw8549368569894789583:=0
def tw15706314521209665196:=0
def tw12359780320564951792:=0
def tw6339805759598364428:=0
def tw377533282122210391:=0
def tw6825626822132044556:=0
def tw16144785329056519948:=0
def tw11665825788402258170:=0
def tw3878318018383073068:=0
def tw13831602725973862670:=0
def tw96086974699961196:=0
def tw3278059269839424396:=0
def tw18348910641741728652:=0
def tw9157141749846027180:=0
def tw11645298413623829452:=0
def tw9276665204625774587:=0
def tw15900240534670980409:=0
def tw17437978374577618589:=0
def tw13591362189221813357:=0
def tw529362872441257101:=0
def tw17603247725649067181:=0
def tw15285956718433905837:=0
def tw7361540375910006989:=0
def tw10633312320186877787:=0
def tw2511457561187664239:=0
def tw7250413502636575060:=0
def tw1582630223668882294:=0
def tw4514693383245328845:=0
def tw16734899726224136685:=0
def tw9321656560924195309:=0
def tw1259626776344289837:=0
def tw13652485189167881773:=0
def tw15871116843371164237:=0
def tw3924324360323119486:=0
def tw3092050615923003542:=0
def tw11342393194636443376:=0
def tw9192429890840848013:=0
def tw7603980702516100781:=0
def tw9062858711981802555:=0
def tw8996389642046901527:=0
def tw14214771583432279757:=0
def tw2265608283979173581:=0
def tw11678567496564705461:=0
def tw350886026458787565:=0
def tw11075355949111545726:=0
def tw530411564909466781:=0
def tw12875661195465642797:=0
def tw12135271777816681872:=0
def tw15820255938618282329:=0
def tw9338012058619680822:=0
def tw599955341067579541:=0
def tw6883944809730244493:=0
def tw11816636578783448849:=0
def tw12340124702288696301:=0
def tw8174673137942104594:=0
def tw17543442836154103950:=0
def tw15097265124043828366:=0
def tw258061421191470286:=0
def tw12304551941149084878:=0
def tw4256843402069106894:=0
def tw4796336703024889038:=0
def tw17960500631492212732:=0
def tw13899878054100018327:=0
def tw2452445751741944142:=0
def tw10000507158644382838:=0
def tw6716384197601934670:=0
def tw3853943168848952686:=0
def tw5906414140470088977:=0
def tw6909389058116348527:=0
def tw11669802841549866510:=0
def tw10097883048216437372:=0
def tw14306955863940717334:=0
def tw13333115492020564558:=0
def tw7214734839623365230:=0
def tw7221322447973528174:=0
def tw2645904779302358670:=0
def tw7389195816849456179:=0
def tw2213366809877425502:=0
def tw17353171312936091278:=0
def tw3931368867763388270:=0
def tw11395562515010386968:=0
def tw1303131351407052494:=0
def tw8008357536164948541:=0
def tw6977125908835654350:=0
def tw17186797855348595025:=0
def tw15681837438311453454:=0
def tw5027661491051837022:=0
def tw13414500380597015374:=0
def tw9745030196741201774:=0
def tw9448862297984625518:=0
def tw12303366861288828782:=0
def tw2548554684328531963:=0
def tw1179569925409367642:=0
def tw7420012051261520217:=0
def tw6431246478700228700:=0
def tw6375107245420382900:=0
def tw2538722596860847375:=0
def tw9333953296892338771:=0
def tw10362214360093563279:=0
def tw8023299216808942671:=0
def tw11942225912160916350:=0
def tw7477242640616970415:=0
def tw249081567657446607:=0
def tw14614173983093427576:=0
def tw2884251197299859580:=0
def tw5117504457867511355:=0
def tw11064617223100633401:=0
def tw12248823685764064859:=0
def tw7073321366595436911:=0
def tw1114662933837860207:=0
def tw18074946991727696239:=0
def tw13691285550743260559:=0
def tw4945155572598244756:=0
def tw13428452214328929839:=0
def tw4669286916404405807:=0
def tw17383244307161754191:=0
def tw16275479104741229141:=0
def tw15714810951815099902:=0
def tw2685806085066732207:=0
def tw6294113735112801967:=0
def tw14111025388904744795:=0
def tw10688930443559082735:=0
def tw2719416779816479471:=0
def tw3161009408108386031:=0
def tw18314014088685824625:=0
def tw5546656898637887575:=0
def tw3055092723063507791:=0
def tw2606397570883510095:=0
def tw15659568108297785199:=0
def tw17707098721658826607:=0
def tw2950527255536679322:=0
def tw11078445715548775311:=0
def tw14869027404895508690:=0
def tw16150420436188447131:=0
def tw9279230294625409999:=0
def tw1486946189225344689:=0
def tw8539872633311951855:=0
def tw228549389696995344:=0
def tw1010263787535007824:=0
def tw6006715626498368656:=0
def tw10317688847561511120:=0
def tw15463050453802815605:=0
def tw8998591007099158175:=0
def tw16983805537715077392:=0
def tw9162388267784522577:=0
def tw15978354068216862000:=0
def tw13872054451391129008:=0
def tw5283763236105265616:=0
def tw18019146144990734293:=0
def tw6767710483563427440:=0
def tw14960908532309480048:=0
def tw5464582073203745845:=0
def tw252610765218941492:=0
def tw17377002732711127856:=0
def tw1273623139237636856:=0
def tw9162433185956583441:=0
def tw5121521409433091966:=0
def tw12108852823248971227:=0
def tw8272225681477713688:=0
def tw3941286350646025297:=0
def tw14885427092328736881:=0
def tw5370723445676959956:=0
def tw17349640507139947729:=0
def tw18189945091933458362:=0
def tw18066086293855762737:=0
def tw14570148107899620721:=0
def tw7386570644726102513:=0
def tw11632186946682071537:=0
def tw13295077441750228529:=0
def tw8928744030750650961:=0
def tw15296793726814897372:=0
def tw17071843162383014545:=0
def tw6325599268684181137:=0
def tw9551854502569446065:=0
def tw7022851653050763985:=0
def tw1601150090430091985:=0
def tw6579191048475336222:=0
def tw5047452070287728369:=0
def tw13049381765062188785:=0
def tw8796650272925280374:=0
def tw18396828569873431473:=0
def tw15101875383397458897:=0
def tw6415262582853589429:=0
def tw16515801311156408991:=0
def tw4871355688439427444:=0
def tw9434895750929451837:=0
def tw17713528579347641053:=0
def tw2252109975224790162:=0
def tw9079595209361475954:=0
def tw14894888958471121362:=0
def tw8949276154978381266:=0
def tw7068900411275706834:=0
def tw17820706566154650552:=0
def tw16186281180919269970:=0
def tw8907787128398401138:=0
def tw9997254949114133106:=0
def tw1855489170678869757:=0
def tw16273354358695419570:=0
def tw5362288767451023221:=0
def tw4344807522041983356:=0
def tw11086461613910218175:=0
def tw12568990062555988786:=0
def tw4299364955618928434:=0
def tw13885980618521908853:=0
def tw14465718437467242354:=0
def tw8834279586459233467:=0
def tw3942669083639576148:=0
def tw10195083160746465234:=0
def tw975640899544338386:=0
def tw8110273352557429271:=0
def tw2712662624852282387:=0
def tw11990595411996709011:=0
def tw238678075397292595:=0
def tw8846523283794403571:=0
def tw15615764096320086814:=0
def tw10186685844143136122:=0
def tw1077261127415712953:=0
def tw4129246881826849171:=0
def tw12100993009421613555:=0
def tw16562922040363929941:=0
def tw4195677043283368921:=0
def tw2406331548525370003:=0
def tw4320916344545483411:=0
def tw15733935147859817203:=0
def tw14226130462678498232:=0
def tw15222256417934052179:=0
def tw18055068704252519251:=0
def tw3096435900410722005:=0
def tw1212928189069442041:=0
def tw16489332894436329395:=0
def tw1255314543712244659:=0
def tw1047655672830852700:=0
def tw9983199278697715699:=0
def tw16722479752249067507:=0
def tw1747718795243760155:=0
def tw681509978088573044:=0
def tw2640701775574131892:=0
def tw1312512997077914836:=0
def tw17635029715542163700:=0
def tw2004513760430308660:=0
def tw4980994771373300794:=0
def tw10406497868052528538:=0
def tw243751222344789396:=0
def tw12050590241636079287:=0
def tw248959758358100404:=0
def tw2222762464859147700:=0
def tw10676592054561528955:=0
def tw8929470116313027028:=0
def tw5994077486428882580:=0
def tw392377042434976120:=0
def tw11588792206558421206:=0
def tw8000452067954560884:=0
def tw3993528097471470484:=0
def tw4082705362891527060:=0
def tw4439930688811929588:=0
def tw15574794748075835541:=0
def tw16737293002683116725:=0
def tw7538273275889058331:=0
def tw4806951966079622363:=0
def tw3478872041261913397:=0
def tw18249199921018914394:=0
def tw218481254702390645:=0
def tw1420979585691198901:=0
def tw6754830971782633973:=0
def tw2598285514981546522:=0
def tw17736804927705469557:=0
def tw4402825111087572796:=0
def tw14423185606877081205:=0
def tw12378232994917717749:=0
def tw8839879800704116922:=0
def tw809107609840956309:=0
def tw14981076085420987317:=0
def tw667131317309098997:=0
def tw8852836756454734175:=0
def tw15531975781490374361:=0
def tw3509142858094409695:=0
def tw10886065702738394486:=0
def tw1641284531503585686:=0
def tw15774853925503312987:=0
def tw11449941864297990876:=0
def tw10361251894803685878:=0
def tw13413827702356560438:=0
def tw10520978986347812438:=0
def tw7326601733084847066:=0
def tw3119818989153738358:=0
def tw17376156537844927222:=0
def tw1279767384142986998:=0
def tw4266655181427223389:=0
def tw6761126266693527679:=0
def tw10703752697646359646:=0
def tw15639002905663033303:=0
def tw13588990682222956374:=0
def tw2868342550611494902:=0
def tw5758742369520066550:=0
def tw15251516690846361590:=0
def tw5103629418002939927:=0
def tw15720093868714249435:=0
def tw15602398332507086746:=0
def tw13086008893217026590:=0
def tw14897259500699438559:=0
def tw15518679598498583415:=0
def tw7637976720204659772:=0
def tw4252521692210915101:=0
def tw1386956369071387645:=0
def tw5861397463123902263:=0
def tw8003635838225335127:=0
def tw6433269151020535639:=0
def tw13568552419369256216:=0
def tw7261914554874761175:=0
def tw8772117676532735000:=0
def tw9152347940652782718:=0
def tw17111108410221565784:=0
def tw11522769865561695356:=0
def tw4895190457618503192:=0
def tw17593201980007777976:=0
def tw124050604096974552:=0
def tw8394104912456110237:=0
def tw2447964341497366172:=0
def tw1745841416102380536:=0
def tw3890844892581535965:=0
def tw8421187526919558265:=0
def tw11911398859376327994:=0
def tw15838027618483768827:=0
def tw8649135862595957017:=0
def tw1616964583456627097:=0
def tw16876292400395938238:=0
def tw7145261955109232057:=0
def tw1623284531831760059:=0
def tw11265281824800037401:=0
def tw18019119814055162425:=0
def tw16739588672005173597:=0
def tw10160733511500845468:=0
def tw8559929582623439737:=0
def tw10052967856037625721:=0
def tw17933954831286580121:=0
def tw9873318586084890553:=0
def tw88146140725532762:=0
def tw10613051426682173626:=0
def tw13370764346720393498:=0
def tw13469271097086719258:=0
def tw4163453405861677118:=0
def tw1790297396213766650:=0
def tw7256399902352738366:=0
def tw11377373603457781274:=0
def tw13921483193014028509:=0
def tw14555573274154640058:=0
def tw15941476859718759162:=0
def tw13190211381765833658:=0
def tw3661994551224238075:=0
def tw7903760641497703354:=0
def tw9179762013502270939:=0
def tw288223390404607611:=0
def tw17165421245159871036:=0
def tw4268254954210006715:=0
def tw10993905019571452635:=0
def tw14814848803190363167:=0
def tw7848224116087077851:=0
def tw7632018603236685884:=0
def tw8811796914287729756:=0
def tw10130573625876544828:=0
def tw15930052143957467516:=0
def tw6188846625113188285:=0
def tw6746065581308479036:=0
def tw5033129866254077564:=0
def tw5938764883441007260:=0
def tw10558586614122818206:=0
def tw15434822785623816927:=0
def tw17337243601914421597:=0
def tw14391805737246542333:=0
def tw9362490404173781918:=0
def tw16993029750189320925:=0
def tw3979357295759152190:=0
def tw14533846680236890238:=0
def tw6274612820767532511:=0
def tw16047194537727282878:=0
def tw18044225250343148286:=0
def tw10323324244741991390:=0
def tw12735670432077474590:=0
def tw1872523741011266430:=0
def tw10585790608820129758:=0
def tw11567110283570729982:=0
def tw15178423786198006591:=0
def tw7696761827803331487:=0
def tw4755732354464848863:=0
end PySem.W.Fast
local macro_rules | `(tactic| walk_at "h0") => `(tactic| (refine' L2.defAt_mk ?a ?l ?c ?k; (case a=>k_is); (case l=>k_is); (case c=>k_is); (case k=>k_is)))
local macro_rules | `(tactic| walk_at "h1") => `(tactic| (refine' L2.const_mk ?e ?r; (case e=>k_is); (case r=>exact⟨_,by with_unfolding_all rfl⟩)))
local macro_rules | `(tactic| walk_at "h2") => `(tactic| (refine' L2.methAt_mk ?a ?i ?l ?c ?k; (case a=>k_is); (case i=>k_is); (case l=>k_is); (case c=>k_is); (case k=>k_is)))
open PySem PySem.W PyProof.Rows
set_option maxRecDepth 100000 in
set_option maxHeartbeats 0 in
theorem PySem.Challenge.cw_fourvoices_k41_counts_without_rules_holds : PySem.Challenge.rw_fourvoices_k41_counts_without_rules.Holds := by
 w_on;o_law;k_head;(case hw=>w_witness2)
 k_fill
 refine K41.walk (l:=PySem.Challenge.rw_fourvoices_k41_counts_without_rules) rfl rfl (fun w h Y=>PySem.W.kIn_of Y) ?F
 case F=>
  intro w mg fa h KX G hmg
  refine' K41.all_mk KX G hmg ?n_Score ?TC_Score ?n_Machine ?TC_Machine ?A_is_number ?A_Score___init__ ?A_lengthened ?A_columns ?A_weight ?A_not_too_wide ?A_memories_after ?A_all_close ?A_States___init__ ?A_Machine_ends ?A_Machine_states ?A_Machine_ways ?A_Machine_build ?A_Machine___init__ ?A_voice_range ?A_read ?A_law_at ?A_law_draws ?A_law_ranges ?A_law_text ?A_law_whole ?A_law_cells ?A_law_given ?A_law_factor ?A_agrees ?A_agreeing ?A_counted_on ?A_counts_paper ?A_counted ?z_len ?z_range ?z_all ?z_min ?z_max ?z_tuple ?z_list ?z_isinstance ?z_bool ?z_int ?z_str ?z_enumerate ?z_zip ?z_sum ?z_reversed ?g_FIGURES ?g_MOST_FIGURES ?g_MOST_VOICES ?g_MOST_RULES ?g_MOST_WEIGHT ?g_START ?A_law
  (case n_Score=>k_is)
  (case TC_Score=>(refine'⟨⟨?a_1,?b_1,?c_1,?d_1⟩,?f0_1,?f1_1⟩;(case a_1=>k_is);(case b_1=>k_is);(case c_1=>k_is);(case d_1=>k_is);(case f0_1=>delta L2.NoAttr;k_is);(case f1_1=>delta L2.NoAttr;k_is)))
  (case n_Machine=>k_is)
  (case TC_Machine=>(refine'⟨⟨?a_3,?b_3,?c_3,?d_3⟩,?f0_3,?f1_3,?f2_3⟩;(case a_3=>k_is);(case b_3=>k_is);(case c_3=>k_is);(case d_3=>k_is);(case f0_3=>delta L2.NoAttr;k_is);(case f1_3=>delta L2.NoAttr;k_is);(case f2_3=>delta L2.NoAttr;k_is)))
  (case A_is_number=>walk_at "h0")
  (case A_Score___init__=>(refine' L2.mkAt_mk ?n_5 ?m_5 ?a_5 ?i_5 ?kc_5 ?l_5 ?c_5 ?k_5;(case n_5=>k_is);(case m_5=>k_is);(case a_5=>k_is);(case i_5=>k_is);(case kc_5=>k_is);(case l_5=>k_is);(case c_5=>k_is);(case k_5=>k_is)))
  (case A_lengthened=>walk_at "h0")
  (case A_columns=>walk_at "h0")
  (case A_weight=>walk_at "h0")
  (case A_not_too_wide=>walk_at "h0")
  (case A_memories_after=>walk_at "h0")
  (case A_all_close=>walk_at "h0")
  (case A_States___init__=>(refine' L2.cmethAt_mk ?n_12 ?r_12 ?a_12 ?g_12 ?l_12 ?c_12 ?k_12;(case n_12=>k_is);(case r_12=>k_is);(case a_12=>k_is);(case g_12=>k_is);(case l_12=>k_is);(case c_12=>k_is);(case k_12=>k_is)))
  (case A_Machine_ends=>walk_at "h2")
  (case A_Machine_states=>walk_at "h2")
  (case A_Machine_ways=>walk_at "h2")
  (case A_Machine_build=>walk_at "h2")
  (case A_Machine___init__=>(refine' L2.mkAt_mk ?n_17 ?m_17 ?a_17 ?i_17 ?kc_17 ?l_17 ?c_17 ?k_17;(case n_17=>k_is);(case m_17=>k_is);(case a_17=>k_is);(case i_17=>k_is);(case kc_17=>k_is);(case l_17=>k_is);(case c_17=>k_is);(case k_17=>k_is)))
  (case A_voice_range=>walk_at "h0")
  (case A_read=>walk_at "h0")
  (case A_law_at=>walk_at "h0")
  (case A_law_draws=>walk_at "h0")
  (case A_law_ranges=>walk_at "h0")
  (case A_law_text=>walk_at "h0")
  (case A_law_whole=>walk_at "h0")
  (case A_law_cells=>walk_at "h0")
  (case A_law_given=>walk_at "h0")
  (case A_law_factor=>walk_at "h0")
  (case A_agrees=>walk_at "h0")
  (case A_agreeing=>walk_at "h0")
  (case A_counted_on=>walk_at "h0")
  (case A_counts_paper=>walk_at "h0")
  (case A_counted=>walk_at "h0")
  (case z_len=>k_is)
  (case z_range=>k_is)
  (case z_all=>k_is)
  (case z_min=>k_is)
  (case z_max=>k_is)
  (case z_tuple=>k_is)
  (case z_list=>k_is)
  (case z_isinstance=>k_is)
  (case z_bool=>k_is)
  (case z_int=>k_is)
  (case z_str=>k_is)
  (case z_enumerate=>k_is)
  (case z_zip=>k_is)
  (case z_sum=>k_is)
  (case z_reversed=>k_is)
  (case g_FIGURES=>walk_at "h1")
  (case g_MOST_FIGURES=>walk_at "h1")
  (case g_MOST_VOICES=>walk_at "h1")
  (case g_MOST_RULES=>walk_at "h1")
  (case g_MOST_WEIGHT=>walk_at "h1")
  (case g_START=>walk_at "h1")
  (case A_law=>walk_at "h0")
